/- A net that is being read: what each step leaves of it. -/
import Derived.Test.YthmcheoehcmglaaR10
import Derived.Test.YthmcheoehcmglaaM2
namespace Go.Proofs.Ythmcheoehcmglaa
open Go.RowKit
set_option linter.unusedVariables false

/-- All blocks but those of element type X are as they were. -/
def Keep (w w' : World) (X : TypeId) : Prop := ∀ (c : Nat) (cs : Array Value) (t : TypeId) (fr : Nat × Nat), w.heap[c]? = some (Obj.cells cs t fr) → t ≠ X → w'.heap[c]? = some (Obj.cells cs t fr)

theorem Keep.owns {w w' : World} {X : TypeId} (K : Keep w w' X) (e : TypeId) (h : e ≠ X) : Owns w w' e := fun ho => by
  refine ⟨ho.1, ?_⟩
  rcases ho.2 with h0 | ⟨g, cap, cur, rfl, hb, hgg, rest⟩
  · exact .inl h0
  · exact .inr ⟨g, cap, cur, rfl, hb, K _ _ _ _ hgg h, rest⟩
theorem Keep.app {w w' : World} {base e size n : Nat} {v : Value} {xs : List Value} (h : Fr (fun i => v.ownBlock = some i) w w') (ho : w.ownsRow base e size v n xs) : Keep w w' e := fun c cs t fr hc ht => h.getT ho hc ht
theorem Keep.set {w : World} {c j : Nat} {cs : Array Value} {t : TypeId} {fr : Nat × Nat} (hc : w.heap[c]? = some (.cells cs t fr)) (u : Value) : Keep w (w.setCell ⟨c, j, none⟩ u) t := fun c' cs' t' fr' hc' ht => by
  refine set_other hc' ?_ u
  intro e
  simp only at e
  rw [e, hc] at hc'
  simp only [Option.some.injEq, Obj.cells.injEq] at hc'
  exact ht hc'.2.1.symm
theorem Keep.fr {w w' : World} (h : Fr (fun _ => False) w w') (X : TypeId) : Keep w w' X := fun c cs t fr hc _ => h.get hc id
theorem Keep.regs {w w' : World} {X : TypeId} (K : Keep w w' X) {v : Value} {ys : List RReg} (h : RRegsAt w 0 v ys) (h1 : 120 ≠ X) (h2 : 3 ≠ X) : RRegsAt w' 0 v ys :=
  ⟨K.owns _ h1 h.own, fun y hy => ⟨K _ _ _ _ (h.blk y hy).1 h2, (h.blk y hy).2⟩, h.inc⟩

/-- A net but for its own block. -/
structure NetB (w : World) (rws : List RWard) (wi : List (Int × Int × Int × Int)) (vW vI vD : Value) (nd : Nat) : Prop where
  ow : w.ownsRow 0 76 29 vW rws.length (rws.flatMap rwardCells)
  rg : ∀ y ∈ rws, RRegsAt w 0 y.vR y.regs ∧ y.now.regs.length = 8 ∧ y.then_.regs.length = 8
  dr : ∀ y ∈ rws, w.ownsRow 0 3 1 y.vD y.devs.length (y.devs.map (Value.int .i64))
  iw : w.ownsRow 0 70 4 vI wi.length (wi.flatMap rwireCells)
  dv : ∃ cs, w.ownsRow 0 117 2 vD nd cs

theorem NetAt.b {w : World} {Y : Nat} {gap mem ck : Int} {rws : List RWard} {wi : List (Int × Int × Int × Int)} {vW vI vD : Value} {nd : Nat} (h : NetAt w Y gap mem ck rws wi vW vI vD nd) : NetB w rws wi vW vI vD nd := ⟨h.ow, h.rg, h.dr, h.iw, h.dv⟩
theorem NetB.at {w : World} {Y : Nat} {gap mem ck : Int} {rws : List RWard} {wi : List (Int × Int × Int × Int)} {vW vI vD : Value} {nd : Nat} (h : NetB w rws wi vW vI vD nd) (hy : w.heap[Y]? = some (.cells #[.int .i64 gap, .int .i64 mem, vW, vI, vD, .int .i64 ck] 68 (0, 0))) : NetAt w Y gap mem ck rws wi vW vI vD nd := ⟨hy, h.ow, h.rg, h.dr, h.iw, h.dv⟩

theorem NetB.keep {w w' : World} {rws : List RWard} {wi : List (Int × Int × Int × Int)} {vW vI vD : Value} {nd : Nat} (h : NetB w rws wi vW vI vD nd) (K : Keep w w' 68) : NetB w' rws wi vW vI vD nd :=
  ⟨K.owns _ (by decide) h.ow, fun y hy => ⟨K.regs (h.rg y hy).1 (by decide) (by decide), (h.rg y hy).2⟩, fun y hy => K.owns _ (by decide) (h.dr y hy), K.owns _ (by decide) h.iw, h.dv.elim fun cs hc => ⟨cs, K.owns _ (by decide) hc⟩⟩
theorem NetB.fr {w w' : World} {rws : List RWard} {wi : List (Int × Int × Int × Int)} {vW vI vD : Value} {nd : Nat} (h : NetB w rws wi vW vI vD nd) (hf : Fr (fun _ => False) w w') : NetB w' rws wi vW vI vD nd := h.keep (Keep.fr hf _)

theorem NetB.appW {w w' : World} {rws : List RWard} {wi : List (Int × Int × Int × Int)} {vW vI vD v' : Value} {nd : Nat} (h : NetB w rws wi vW vI vD nd) (x : RWard) (hx1 : RRegsAt w 0 x.vR x.regs ∧ x.now.regs.length = 8 ∧ x.then_.regs.length = 8) (hx2 : w.ownsRow 0 3 1 x.vD x.devs.length (x.devs.map (Value.int .i64)))
    (ho : w'.ownsRow 0 76 29 v' (rws.length + 1) (rws.flatMap rwardCells ++ (rwardCells x).toArray.toList)) (hf : Fr (fun i => vW.ownBlock = some i) w w') : NetB w' (rws ++ [x]) wi v' vI vD nd := by
  have K := Keep.app hf h.ow
  have A : ∀ y ∈ rws ++ [x], (RRegsAt w 0 y.vR y.regs ∧ y.now.regs.length = 8 ∧ y.then_.regs.length = 8) ∧ w.ownsRow 0 3 1 y.vD y.devs.length (y.devs.map (Value.int .i64)) := by
    intro y hy
    rcases List.mem_append.1 hy with hy | hy
    · exact ⟨h.rg y hy, h.dr y hy⟩
    · rw [List.mem_singleton.1 hy]; exact ⟨hx1, hx2⟩
  exact ⟨by simpa using ho, fun y hy => ⟨K.regs (A y hy).1.1 (by decide) (by decide), (A y hy).1.2⟩, fun y hy => K.owns _ (by decide) (A y hy).2, K.owns _ (by decide) h.iw, h.dv.elim fun cs hc => ⟨cs, K.owns _ (by decide) hc⟩⟩
theorem NetB.appI {w w' : World} {rws : List RWard} {wi : List (Int × Int × Int × Int)} {vW vI vD v' : Value} {nd : Nat} (h : NetB w rws wi vW vI vD nd) (x : Int × Int × Int × Int)
    (ho : w'.ownsRow 0 70 4 v' (wi.length + 1) (wi.flatMap rwireCells ++ (rwireCells x).toArray.toList)) (hf : Fr (fun i => vI.ownBlock = some i) w w') : NetB w' rws (wi ++ [x]) vW v' vD nd := by
  have K := Keep.app hf h.iw
  exact ⟨K.owns _ (by decide) h.ow, fun y hy => ⟨K.regs (h.rg y hy).1 (by decide) (by decide), (h.rg y hy).2⟩, fun y hy => K.owns _ (by decide) (h.dr y hy), by simpa using ho, h.dv.elim fun cs hc => ⟨cs, K.owns _ (by decide) hc⟩⟩
theorem NetB.appD {w w' : World} {rws : List RWard} {wi : List (Int × Int × Int × Int)} {vW vI vD v' : Value} {nd : Nat} (h : NetB w rws wi vW vI vD nd) {cs0 cs : List Value} (h0 : w.ownsRow 0 117 2 vD nd cs0)
    (ho : w'.ownsRow 0 117 2 v' (nd + 1) cs) (hf : Fr (fun i => vD.ownBlock = some i) w w') : NetB w' rws wi vW vI v' (nd + 1) := by
  have K := Keep.app hf h0
  exact ⟨K.owns _ (by decide) h.ow, fun y hy => ⟨K.regs (h.rg y hy).1 (by decide) (by decide), (h.rg y hy).2⟩, fun y hy => K.owns _ (by decide) (h.dr y hy), K.owns _ (by decide) h.iw, cs, ho⟩

/-- A store into a row. -/
theorem owns_set {w : World} {base e size n g cap : Nat} {xs : List Value} (h : w.ownsRow base e size (.slice (some ⟨g, 0, none⟩) n cap) n xs) (j : Nat) (hj : j < n * size) (u : Value) :
    (w.setCell ⟨g, j, none⟩ u).ownsRow base e size (.slice (some ⟨g, 0, none⟩) n cap) n (xs.set j u) := by
  refine ⟨by rw [List.length_set]; exact h.1, ?_⟩
  rcases h.2 with ⟨h1, _⟩ | ⟨g', cap', cur, h1, hb, hg, h2, h3, h4, h5⟩
  · simp at h1
  · simp only [Value.slice.injEq, Option.some.injEq, Addr.mk.injEq] at h1
    obtain ⟨⟨rfl, _⟩, _, rfl⟩ := h1
    refine .inr ⟨_, _, _, rfl, hb, row_set hg j u, h2, h3, by simpa using h4, ?_⟩
    rw [← h5, Array.toList_setIfInBounds, List.take_set]

theorem flat_set {α : Type} (f : α → List Value) (m : Nat) : ∀ (xs : List α), (∀ x ∈ xs, (f x).length = m) → ∀ (k c : Nat) (x x' : α), xs[k]? = some x → (f x').length = m → c < m → ∀ u, (f x).set c u = f x' → (xs.flatMap f).set (k * m + c) u = (xs.set k x').flatMap f := by
  intro xs
  induction xs with
  | nil => intro _ k c x x' hx; simp at hx
  | cons y xs ih =>
    intro hl k c x x' hx hx' hc u hu
    have hy : (f y).length = m := hl y (by simp)
    cases k with
    | zero =>
      simp only [List.getElem?_cons_zero, Option.some.injEq] at hx
      subst hx
      simp only [List.flatMap_cons, Nat.zero_mul, Nat.zero_add, List.set_cons_zero]
      rw [List.set_append_left _ _ (by omega), hu]
    | succ k =>
      simp only [List.flatMap_cons, List.set_cons_succ]
      rw [List.set_append_right _ _ (by rw [hy, Nat.succ_mul]; omega), hy, ← ih (fun z hz => hl z (by simp [hz])) k c x x' (by simpa using hx) hx' hc u hu]
      congr 2
      rw [Nat.succ_mul]
      omega

/-- Where the device lists of the wards lie. -/
structure DevIn (B : Nat) (rws : List RWard) : Prop where
  a : ∀ y ∈ rws, ∀ r ∈ y.regs, r.g < B
  b : ∀ y ∈ rws, ∀ c, y.vD.ownBlock = some c → B ≤ c
  c : ∀ (i j : Nat) (y z : RWard), rws[i]? = some y → rws[j]? = some z → i ≠ j → ∀ c, y.vD.ownBlock = some c → z.vD.ownBlock ≠ some c

/-- Ward k, with a device more. -/
def addDev (y : RWard) (v : Value) (d : Int) : RWard := { y with vD := v, devs := y.devs ++ [d] }

theorem NetB.appV {w w' : World} {B : Nat} {rws : List RWard} {wi : List (Int × Int × Int × Int)} {vI vD : Value} {nd gW cW : Nat} (h : NetB w rws wi (.slice (some ⟨gW, 0, none⟩) rws.length cW) vI vD nd) (D : DevIn B rws) (hB : B ≤ w.heap.size) (k : Nat) (y : RWard) (hy : rws[k]? = some y) (d : Int) (g cap : Nat)
    (ho : w'.ownsRow 0 3 1 (.slice (some ⟨g, 0, none⟩) (y.devs.length + 1) cap) (y.devs.length + 1) (y.devs.map (Value.int .i64) ++ [Value.int .i64 d])) (hf : Fr (fun i => y.vD.ownBlock = some i) w w') (hat : y.vD.ownBlock = some g ∨ g = w.heap.size) :
    NetB (w'.setCell ⟨gW, k * 29 + 2, none⟩ (.slice (some ⟨g, 0, none⟩) (y.devs.length + 1) cap)) (rws.set k (addDev y (.slice (some ⟨g, 0, none⟩) (y.devs.length + 1) cap) d)) wi (.slice (some ⟨gW, 0, none⟩) (rws.set k (addDev y (.slice (some ⟨g, 0, none⟩) (y.devs.length + 1) cap) d)).length cW) vI vD nd ∧
      DevIn B (rws.set k (addDev y (.slice (some ⟨g, 0, none⟩) (y.devs.length + 1) cap) d)) ∧ Fr (fun i => y.vD.ownBlock = some i ∨ i = gW) w (w'.setCell ⟨gW, k * 29 + 2, none⟩ (.slice (some ⟨g, 0, none⟩) (y.devs.length + 1) cap)) := by
  have hk : k < rws.length := (List.getElem?_eq_some_iff.1 hy).1
  have hym : y ∈ rws := List.mem_of_getElem? hy
  have K := Keep.app hf (h.dr y hym)
  have ow' := K.owns _ (by decide) h.ow
  have hgW : ∃ cur, w'.heap[gW]? = some (.cells cur 76 (0, 0)) := by
    rcases ow'.2 with ⟨h1, _⟩ | ⟨g', cap', cur, h1, hb, hg, _⟩
    · simp at h1
    · simp only [Value.slice.injEq, Option.some.injEq, Addr.mk.injEq] at h1
      obtain ⟨⟨rfl, _⟩, _, rfl⟩ := h1
      exact ⟨cur, hg⟩
  obtain ⟨cur, hgW⟩ := hgW
  generalize hv : Value.slice (some ⟨g, 0, none⟩) (y.devs.length + 1) cap = v' at *
  have hvb : v'.ownBlock = some g := by rw [← hv]; rfl
  have K2 : Keep w' (w'.setCell ⟨gW, k * 29 + 2, none⟩ v') 76 := Keep.set hgW _
  have hdis : ∀ j z, rws[j]? = some z → j ≠ k → ∀ c, z.vD.ownBlock = some c → y.vD.ownBlock ≠ some c := fun j z hz hne c hc => D.c j k z y hz hy hne c hc
  have hlt : ∀ z ∈ rws, ∀ c, z.vD.ownBlock = some c → c < w.heap.size := fun z hz c hc => ((h.dr z hz).lt c hc).2
  have hset : ∀ j z, (rws.set k (addDev y v' d))[j]? = some z → (j = k ∧ z = addDev y v' d) ∨ (j ≠ k ∧ rws[j]? = some z) := by
    intro j z hz
    rw [List.getElem?_set] at hz
    by_cases e : k = j
    · subst e
      simp only [if_true, hk] at hz
      exact .inl ⟨rfl, (Option.some.inj hz).symm⟩
    · rw [if_neg e] at hz
      exact .inr ⟨fun h => e h.symm, hz⟩
  have hmem : ∀ z, z ∈ rws.set k (addDev y v' d) → z = addDev y v' d ∨ ∃ j, j ≠ k ∧ rws[j]? = some z := by
    intro z hz
    obtain ⟨j, hj⟩ := List.getElem?_of_mem hz
    rcases hset j z hj with ⟨_, e⟩ | ⟨e1, e2⟩
    · exact .inl e
    · exact .inr ⟨j, e1, e2⟩
  have rgk : ∀ z ∈ rws, RRegsAt (w'.setCell ⟨gW, k * 29 + 2, none⟩ v') 0 z.vR z.regs := by
    intro z hz
    have hr := (h.rg z hz).1
    refine K2.regs (⟨K.owns _ (by decide) hr.own, fun r hrr => ⟨hf.get (hr.blk r hrr).1 ?_, (hr.blk r hrr).2⟩, hr.inc⟩) (by decide) (by decide)
    intro e
    have := D.a z hz r hrr
    have := D.b y hym r.g e
    omega
  refine ⟨⟨?_, ?_, ?_, K2.owns _ (by decide) (K.owns _ (by decide) h.iw), h.dv.elim fun cs hc => ⟨cs, K2.owns _ (by decide) (K.owns _ (by decide) hc)⟩⟩, ⟨?_, ?_, ?_⟩, ?_⟩
  · have := owns_set ow' (k * 29 + 2) (by omega) v'
    rw [flat_set rwardCells 29 rws (fun z hz => rward_len z (h.rg z hz).2) k 2 y (addDev y v' d) hy (by rw [rward_len]; exact (h.rg y hym).2) (by omega) v' rfl] at this
    rw [List.length_set]
    exact this
  · intro z hz
    rcases hmem z hz with rfl | ⟨j, _, hj⟩
    · exact ⟨rgk y hym, (h.rg y hym).2⟩
    · exact ⟨rgk z (List.mem_of_getElem? hj), (h.rg z (List.mem_of_getElem? hj)).2⟩
  · intro z hz
    rcases hmem z hz with rfl | ⟨j, hne, hj⟩
    · have := K2.owns _ (by decide) ho
      simpa [addDev] using this
    · refine K2.owns _ (by decide) (hf.owns (h.dr z (List.mem_of_getElem? hj)) ?_)
      intro c hc e
      exact hdis j z hj hne c hc e
  · intro z hz
    rcases hmem z hz with rfl | ⟨j, _, hj⟩
    · exact D.a y hym
    · exact D.a z (List.mem_of_getElem? hj)
  · intro z hz c hc
    rcases hmem z hz with rfl | ⟨j, _, hj⟩
    · simp only [addDev, hvb, Option.some.injEq] at hc
      subst hc
      rcases hat with e | e
      · exact D.b y hym _ e
      · omega
    · exact D.b z (List.mem_of_getElem? hj) c hc
  · intro i j z z' hz hz' hne c hc hc'
    rcases hset i z hz with ⟨rfl, rfl⟩ | ⟨e1, e2⟩
    · rcases hset j z' hz' with ⟨rfl, rfl⟩ | ⟨e3, e4⟩
      · exact hne rfl
      · simp only [addDev, hvb, Option.some.injEq] at hc
        subst hc
        rcases hat with e | e
        · exact D.c _ _ _ _ hy e4 hne _ e hc'
        · have := hlt z' (List.mem_of_getElem? e4) _ hc'; omega
    · rcases hset j z' hz' with ⟨rfl, rfl⟩ | ⟨e3, e4⟩
      · simp only [addDev, hvb, Option.some.injEq] at hc'
        subst hc'
        rcases hat with e | e
        · exact D.c _ _ _ _ hy e2 (fun h => hne h.symm) _ e hc
        · have := hlt z (List.mem_of_getElem? e2) _ hc; omega
      · exact D.c _ _ _ _ e2 e4 hne c hc hc'
  · exact (hf.mono (fun i hi => .inl hi)).setCell (p := ⟨gW, k * 29 + 2, none⟩) (.inl (.inr rfl)) _

end Go.Proofs.Ythmcheoehcmglaa
