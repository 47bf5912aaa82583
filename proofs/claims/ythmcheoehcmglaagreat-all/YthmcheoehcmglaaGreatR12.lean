/- What the bytes of an image say, as the reference reads them. -/
import Derived.Test.YthmcheoehcmglaaGreatM1
import Derived.Test.YthmcheoehcmglaaGreatR10
import Derived.Test.YthmcheoehcmglaaGreatP6
namespace Go.Proofs.YthmcheoehcmglaaGreat
open Go.RowKit
set_option linter.unusedVariables false

theorem rw_take (l : List UInt8) (h : (rward l false).2.2 = false) : ∃ d, d ≤ 300000 ∧ d ≤ l.length ∧ (rward l false).2.1 = l.drop d := by
  by_cases hg : headGood l
  · have hn1 := hg.2.2.2.1
    have hn2 := hg.2.2.2.2
    obtain ⟨n, hn⟩ := Int.eq_ofNat_of_zero_le (show 0 ≤ numL l 1 1 by omega)
    have hnt : (numL l 1 1).toNat = n := by omega
    cases hr : (regsN n (l.drop 4) false).2.2 with
    | true =>
      have : (rward l false).2.2 = true := by rw [rw_eq l hg, hnt]; exact wtail_bad _ _ _ _ _ hr
      rw [this] at h; cases h
    | false =>
      obtain ⟨hd1, hd2⟩ := regsN_drop (l.drop 4) n hr
      rw [List.length_drop] at hd2
      have h4 := hg.1
      by_cases hc : 2 ≤ (l.drop (4 + 7 * n)).length ∧ numL l (4 + 7 * n) 2 ≤ firstWords (regsN n (l.drop 4) false).1
      · rw [List.length_drop] at hc
        have hc0 := numL_ok l (4 + 7 * n) 2 (by omega)
        have hcb := (numL_bd l (4 + 7 * n) 2 (by omega)).2.2.1 (by omega)
        obtain ⟨m, hm⟩ := Int.eq_ofNat_of_zero_le hc0
        have e := rw_eq3 l hg n m hnt hr (by omega) hm (by omega)
        rw [e] at h ⊢
        simp only at h ⊢
        obtain ⟨w1, w2⟩ := wordsN_drop _ m h
        rw [w1, List.drop_drop]
        rw [List.length_drop] at w2
        exact ⟨4 + 7 * n + 2 + 4 * m, by omega, by omega, rfl⟩
      · have := rw_cnt l hg (by rw [hnt]; exact hr) (by rw [hnt]; exact hc) (by rw [hnt]; omega)
        rw [this] at h; cases h
  · rw [rw_head l hg] at h; cases h

theorem rward_bad (l : List UInt8) : (rward l true).2.2 = true := by
  cases h : (rward l true).2.2 with
  | true => rfl
  | false => have := (rward_inv l true h).1; cases this

theorem wardsN_mono (l : List UInt8) (b : Bool) (k : Nat) (h : (wardsN k l b).2.2 = true) : ∀ j, (wardsN (k + j) l b).2.2 = true := by
  intro j
  induction j with
  | zero => exact h
  | succ j ih =>
    show (rward (wardsN (k + j) l b).2.1 (wardsN (k + j) l b).2.2).2.2 = true
    rw [ih]
    exact rward_bad _

theorem wardsN_at (l : List UInt8) : ∀ k, (wardsN k l false).2.2 = false → ∃ d, d ≤ 300000 * k ∧ d ≤ l.length ∧ (wardsN k l false).2.1 = l.drop d := by
  intro k
  induction k with
  | zero => intro _; exact ⟨0, by omega, by omega, by simp [wardsN]⟩
  | succ k ih =>
    intro h
    have hk : (wardsN k l false).2.2 = false := by
      cases hb : (wardsN k l false).2.2
      · rfl
      · have := wardsN_mono l false k hb 1
        rw [this] at h
        cases h
    obtain ⟨d, h1, h2, h3⟩ := ih hk
    have hs : (rward (wardsN k l false).2.1 (wardsN k l false).2.2).2.2 = false := h
    rw [hk, h3] at hs
    obtain ⟨d', g1, g2, g3⟩ := rw_take _ hs
    rw [List.length_drop] at g2
    refine ⟨d + d', by omega, by omega, ?_⟩
    show (rward (wardsN k l false).2.1 (wardsN k l false).2.2).2.1 = _
    rw [hk, h3, g3, List.drop_drop]

theorem numL_at (l : List UInt8) (c i n : Nat) (hc : c ≤ l.length) : numL (l.drop c) i n = numL l (c + i) n := (numL_drop l c i n hc).symm

theorem wiresN_ok (l : List UInt8) : ∀ k, 2 * k ≤ l.length → wiresN k l false = ((List.range k).map (fun j => (numL l (2 * j) 1, numL l (2 * j + 1) 1)), l.drop (2 * k), false) := by
  intro k
  induction k with
  | zero => intro _; simp [wiresN]
  | succ k ih =>
    intro h
    have e := ih (by omega)
    simp only [wiresN, e, rwire]
    have h1 := rdn_ok 1 (l.drop (2 * k)) (by rw [List.length_drop]; omega)
    have h2 := rdn_ok 1 (l.drop (2 * k + 1)) (by rw [List.length_drop]; omega)
    rw [List.drop_drop] at h1 h2
    simp only [h1, h2, numL_at l (2 * k) 0 1 (by omega), numL_at l (2 * k + 1) 0 1 (by omega), List.range_succ, List.map_append, List.map_cons, List.map_nil]
    rfl
theorem wiresN_mono (l : List UInt8) (b : Bool) (k : Nat) (h : (wiresN k l b).2.2 = true) : ∀ j, (wiresN (k + j) l b).2.2 = true := by
  intro j
  induction j with
  | zero => exact h
  | succ j ih =>
    show (rwire (wiresN (k + j) l b).2.1 (wiresN (k + j) l b).2.2).2.2 = true
    rw [ih]
    simp [rwire, rdn_bad]
theorem wiresN_short (l : List UInt8) (k : Nat) (h : ¬ 2 * k ≤ l.length) : (wiresN k l false).2.2 = true := by
  have e := wiresN_ok l (l.length / 2) (by omega)
  have h1 : (wiresN (l.length / 2 + 1) l false).2.2 = true := by
    simp only [wiresN, e, rwire]
    by_cases hp : l.length % 2 = 0
    · rw [rdn_no 1 (l.drop (2 * (l.length / 2))) (by rw [List.length_drop]; omega)]
      simp [rdn_bad]
    · rw [rdn_ok 1 (l.drop (2 * (l.length / 2))) (by rw [List.length_drop]; omega)]
      simp only
      rw [rdn_no 1 _ (by rw [List.length_drop, List.length_drop]; omega)]
  have := wiresN_mono l false _ h1 (k - (l.length / 2 + 1))
  rwa [show l.length / 2 + 1 + (k - (l.length / 2 + 1)) = k by omega] at this
theorem ownersN_ok' (l : List UInt8) : ∀ k, k ≤ l.length → ownersN k l false = ((List.range k).map (fun j => numL l j 1), l.drop k, false) := by
  intro k
  induction k with
  | zero => intro _; simp [ownersN]
  | succ k ih =>
    intro h
    have e := ih (by omega)
    have h1 := rdn_ok 1 (l.drop k) (by rw [List.length_drop]; omega)
    rw [List.drop_drop] at h1
    simp only [ownersN, e, h1, numL_at l k 0 1 (by omega), List.range_succ, List.map_append, List.map_cons, List.map_nil]
    rfl
theorem ownersN_mono (l : List UInt8) (b : Bool) (k : Nat) (h : (ownersN k l b).2.2 = true) : ∀ j, (ownersN (k + j) l b).2.2 = true := by
  intro j
  induction j with
  | zero => exact h
  | succ j ih =>
    show (rdn 1 (ownersN (k + j) l b).2.1 (ownersN (k + j) l b).2.2).2.2 = true
    rw [ih]
    exact rdn_bad _ _
theorem ownersN_short (l : List UInt8) (k : Nat) (h : ¬ k ≤ l.length) : (ownersN k l false).2.2 = true := by
  have e := ownersN_ok' l l.length (by omega)
  have h1 : (ownersN (l.length + 1) l false).2.2 = true := by
    simp only [ownersN, e]
    rw [rdn_no 1 _ (by simp)]
  have := ownersN_mono l false _ h1 (k - (l.length + 1))
  rwa [show l.length + 1 + (k - (l.length + 1)) = k by omega] at this

theorem rimg_head (l : List UInt8) (h : ¬ HeadI l) : (rimg l).2 = false := by
  have hb : (rhead l).2.2 = true := by
    cases e : (rhead l).2.2 with
    | true => rfl
    | false => exact absurd (rhead_inv l e) h
  unfold rimg
  simp only [hb]
  cases e : (ownersN (rhead l).1.2.2.2.2.toNat (wiresN (rhead l).1.2.2.2.1.toNat (wardsN (rhead l).1.1.toNat (rhead l).2.1 true).2.1 (wardsN (rhead l).1.1.toNat (rhead l).2.1 true).2.2).2.1 (wiresN (rhead l).1.2.2.2.1.toNat (wardsN (rhead l).1.1.toNat (rhead l).2.1 true).2.1 (wardsN (rhead l).1.1.toNat (rhead l).2.1 true).2.2).2.2).2.2 with
  | true => simp
  | false =>
    have := (wardsN_inv _ _ _ (wiresN_inv _ _ _ (ownersN_inv _ _ _ e))).1
    cases this

theorem rimg_wards (l : List UInt8) (h : HeadI l) (k : Nat) (hk : k ≤ (numL l 0 1).toNat) (hb : (wardsN k (l.drop 6) false).2.2 = true) : (rimg l).2 = false := by
  have hn := wardsN_mono (l.drop 6) false k hb ((numL l 0 1).toNat - k)
  rw [show k + ((numL l 0 1).toNat - k) = (numL l 0 1).toNat by omega] at hn
  unfold rimg
  rw [rhead_good l h]
  simp only
  cases e : (ownersN (numL l 5 1).toNat (wiresN (numL l 4 1).toNat (wardsN (numL l 0 1).toNat (l.drop 6) false).2.1 (wardsN (numL l 0 1).toNat (l.drop 6) false).2.2).2.1 (wiresN (numL l 4 1).toNat (wardsN (numL l 0 1).toNat (l.drop 6) false).2.1 (wardsN (numL l 0 1).toNat (l.drop 6) false).2.2).2.2).2.2 with
  | true => simp
  | false =>
    have := wiresN_inv _ _ _ (ownersN_inv _ _ _ e)
    rw [hn] at this
    cases this

theorem rimg_tail (l : List UInt8) (h : HeadI l) (c nw nd : Nat) (hnw : numL l 4 1 = nw) (hnd : numL l 5 1 = nd) (hc : c ≤ l.length) (hb : (wardsN (numL l 0 1).toNat (l.drop 6) false).2 = (l.drop c, false)) :
    (c + 2 * nw + nd = l.length → rimg l = (⟨numL l 1 1, numL l 2 2, (wardsN (numL l 0 1).toNat (l.drop 6) false).1, (List.range nw).map (fun j => (numL l (c + 2 * j) 1, numL l (c + 2 * j + 1) 1)), (List.range nd).map (fun j => numL l (c + 2 * nw + j) 1)⟩, true)) ∧
    (¬ c + 2 * nw + nd = l.length → (rimg l).2 = false) := by
  have e0 : rimg l = (⟨numL l 1 1, numL l 2 2, (wardsN (numL l 0 1).toNat (l.drop 6) false).1, (wiresN nw (l.drop c) false).1, (ownersN nd (wiresN nw (l.drop c) false).2.1 (wiresN nw (l.drop c) false).2.2).1⟩,
      !(ownersN nd (wiresN nw (l.drop c) false).2.1 (wiresN nw (l.drop c) false).2.2).2.2 && (ownersN nd (wiresN nw (l.drop c) false).2.1 (wiresN nw (l.drop c) false).2.2).2.1.isEmpty) := by
    unfold rimg
    rw [rhead_good l h]
    simp only [hb, hnw, hnd, Int.toNat_natCast]
  rw [e0]
  by_cases h1 : 2 * nw ≤ l.length - c
  · have w1 := wiresN_ok (l.drop c) nw (by rw [List.length_drop]; exact h1)
    simp only [w1, List.drop_drop]
    by_cases h2 : nd ≤ l.length - (c + 2 * nw)
    · have o1 := ownersN_ok' (l.drop (c + 2 * nw)) nd (by rw [List.length_drop]; exact h2)
      simp only [o1, List.drop_drop]
      constructor
      · intro he
        refine Prod.ext ?_ ?_
        · simp only [Img.mk.injEq, true_and]
          refine ⟨?_, ?_⟩
          · apply List.map_congr_left
            intro j hj
            rw [numL_at l c _ _ hc, numL_at l c _ _ hc]
            rfl
          · apply List.map_congr_left
            intro j hj
            rw [numL_at l (c + 2 * nw) _ _ (by omega)]
        · simp
          omega
      · intro he
        simp
        omega
    · have o1 := ownersN_short (l.drop (c + 2 * nw)) nd (by rw [List.length_drop]; exact h2)
      exact ⟨fun he => by omega, fun _ => by simp [o1]⟩
  · have w1 := wiresN_short (l.drop c) nw (by rw [List.length_drop]; exact h1)
    refine ⟨fun he => by omega, fun _ => ?_⟩
    cases e : (ownersN nd (wiresN nw (l.drop c) false).2.1 (wiresN nw (l.drop c) false).2.2).2.2 with
    | true => simp
    | false =>
      have := ownersN_inv _ _ _ e
      rw [w1] at this
      cases this

theorem numL_byte (l : List UInt8) (i : Nat) (b : UInt8) (h : l[i]? = some b) : numL l i 1 = (b.toNat : Int) := by
  have hi : i < l.length := (List.getElem?_eq_some_iff.1 h).1
  have e := (List.getElem?_eq_some_iff.1 h).2
  unfold numL
  rw [if_pos (by omega), List.drop_eq_getElem_cons hi, e]
  simp [be]

end Go.Proofs.YthmcheoehcmglaaGreat
/- A net that is being read: what each step leaves of it. -/
namespace Go.Proofs.YthmcheoehcmglaaGreat
open Go.RowKit
set_option linter.unusedVariables false

/-- All blocks but those of element type X are as they were. -/
def Keep (w w' : World) (X : TypeId) : Prop := ∀ (c : Nat) (cs : Array Value) (t : TypeId) (fr : Nat × Nat), w.heap[c]? = some (Obj.cells cs t fr) → t ≠ X → w'.heap[c]? = some (Obj.cells cs t fr)

theorem Keep.owns {w w' : World} {X : TypeId} (K : Keep w w' X) (e : TypeId) (h : e ≠ X) : Owns w w' e := fun ho => by
  refine ⟨ho.1, ?_⟩
  rcases ho.2 with h0 | ⟨g, cap, cur, rfl, hb, hgg, rest⟩
  · exact .inl h0
  · exact .inr ⟨g, cap, cur, rfl, hb, K _ _ _ _ hgg h, rest⟩
theorem Keep.app {w w' : World} {base e size n : Nat} {v : Value} {xs : List Value} (h : Fr (fun i => v.ownBlock = some i) w w') (ho : w.ownsRow base e size v n xs) : Keep w w' e := fun c cs t fr hc ht => h.getT ho hc ht
theorem Keep.set {w : World} {c j : Nat} {cs : Array Value} {t : TypeId} {fr : Nat × Nat} (hc : w.heap[c]? = some (.cells cs t fr)) (u : Value) : Keep w (w.setCell ⟨c, j, none⟩ u) t := fun c' cs' t' fr' hc' ht => by
  refine set_other hc' ?_ u
  intro e
  simp only at e
  rw [e, hc] at hc'
  simp only [Option.some.injEq, Obj.cells.injEq] at hc'
  exact ht hc'.2.1.symm
theorem Keep.fr {w w' : World} (h : Fr (fun _ => False) w w') (X : TypeId) : Keep w w' X := fun c cs t fr hc _ => h.get hc id
theorem Keep.regs {w w' : World} {X : TypeId} (K : Keep w w' X) {v : Value} {ys : List RReg} (h : RRegsAt w 0 v ys) (h1 : 160 ≠ X) (h2 : 3 ≠ X) : RRegsAt w' 0 v ys :=
  ⟨K.owns _ h1 h.own, fun y hy => ⟨K _ _ _ _ (h.blk y hy).1 h2, (h.blk y hy).2⟩, h.inc⟩

/-- A net but for its own block. -/
structure NetB (w : World) (rws : List RWard) (wi : List (Int × Int × Int × Int)) (vW vI vD : Value) (nd : Nat) : Prop where
  ow : w.ownsRow 0 130 29 vW rws.length (rws.flatMap rwardCells)
  rg : ∀ y ∈ rws, RRegsAt w 0 y.vR y.regs ∧ y.now.regs.length = 8 ∧ y.then_.regs.length = 8
  dr : ∀ y ∈ rws, w.ownsRow 0 3 1 y.vD y.devs.length (y.devs.map (Value.int .i64))
  iw : w.ownsRow 0 124 4 vI wi.length (wi.flatMap rwireCells)
  dv : ∃ cs, w.ownsRow 0 157 2 vD nd cs

theorem NetAt.b {w : World} {Y : Nat} {gap mem ck : Int} {rws : List RWard} {wi : List (Int × Int × Int × Int)} {vW vI vD : Value} {nd : Nat} (h : NetAt w Y gap mem ck rws wi vW vI vD nd) : NetB w rws wi vW vI vD nd := ⟨h.ow, h.rg, h.dr, h.iw, h.dv⟩
theorem NetB.at {w : World} {Y : Nat} {gap mem ck : Int} {rws : List RWard} {wi : List (Int × Int × Int × Int)} {vW vI vD : Value} {nd : Nat} (h : NetB w rws wi vW vI vD nd) (hy : w.heap[Y]? = some (.cells #[.int .i64 gap, .int .i64 mem, vW, vI, vD, .int .i64 ck] 122 (0, 0))) : NetAt w Y gap mem ck rws wi vW vI vD nd := ⟨hy, h.ow, h.rg, h.dr, h.iw, h.dv⟩

theorem NetB.keep {w w' : World} {rws : List RWard} {wi : List (Int × Int × Int × Int)} {vW vI vD : Value} {nd : Nat} (h : NetB w rws wi vW vI vD nd) (K : Keep w w' 122) : NetB w' rws wi vW vI vD nd :=
  ⟨K.owns _ (by decide) h.ow, fun y hy => ⟨K.regs (h.rg y hy).1 (by decide) (by decide), (h.rg y hy).2⟩, fun y hy => K.owns _ (by decide) (h.dr y hy), K.owns _ (by decide) h.iw, h.dv.elim fun cs hc => ⟨cs, K.owns _ (by decide) hc⟩⟩
theorem NetB.fr {w w' : World} {rws : List RWard} {wi : List (Int × Int × Int × Int)} {vW vI vD : Value} {nd : Nat} (h : NetB w rws wi vW vI vD nd) (hf : Fr (fun _ => False) w w') : NetB w' rws wi vW vI vD nd := h.keep (Keep.fr hf _)

theorem NetB.appW {w w' : World} {rws : List RWard} {wi : List (Int × Int × Int × Int)} {vW vI vD v' : Value} {nd : Nat} (h : NetB w rws wi vW vI vD nd) (x : RWard) (hx1 : RRegsAt w 0 x.vR x.regs ∧ x.now.regs.length = 8 ∧ x.then_.regs.length = 8) (hx2 : w.ownsRow 0 3 1 x.vD x.devs.length (x.devs.map (Value.int .i64)))
    (ho : w'.ownsRow 0 130 29 v' (rws.length + 1) (rws.flatMap rwardCells ++ (rwardCells x).toArray.toList)) (hf : Fr (fun i => vW.ownBlock = some i) w w') : NetB w' (rws ++ [x]) wi v' vI vD nd := by
  have K := Keep.app hf h.ow
  have A : ∀ y ∈ rws ++ [x], (RRegsAt w 0 y.vR y.regs ∧ y.now.regs.length = 8 ∧ y.then_.regs.length = 8) ∧ w.ownsRow 0 3 1 y.vD y.devs.length (y.devs.map (Value.int .i64)) := by
    intro y hy
    rcases List.mem_append.1 hy with hy | hy
    · exact ⟨h.rg y hy, h.dr y hy⟩
    · rw [List.mem_singleton.1 hy]; exact ⟨hx1, hx2⟩
  exact ⟨by simpa using ho, fun y hy => ⟨K.regs (A y hy).1.1 (by decide) (by decide), (A y hy).1.2⟩, fun y hy => K.owns _ (by decide) (A y hy).2, K.owns _ (by decide) h.iw, h.dv.elim fun cs hc => ⟨cs, K.owns _ (by decide) hc⟩⟩
theorem NetB.appI {w w' : World} {rws : List RWard} {wi : List (Int × Int × Int × Int)} {vW vI vD v' : Value} {nd : Nat} (h : NetB w rws wi vW vI vD nd) (x : Int × Int × Int × Int)
    (ho : w'.ownsRow 0 124 4 v' (wi.length + 1) (wi.flatMap rwireCells ++ (rwireCells x).toArray.toList)) (hf : Fr (fun i => vI.ownBlock = some i) w w') : NetB w' rws (wi ++ [x]) vW v' vD nd := by
  have K := Keep.app hf h.iw
  exact ⟨K.owns _ (by decide) h.ow, fun y hy => ⟨K.regs (h.rg y hy).1 (by decide) (by decide), (h.rg y hy).2⟩, fun y hy => K.owns _ (by decide) (h.dr y hy), by simpa using ho, h.dv.elim fun cs hc => ⟨cs, K.owns _ (by decide) hc⟩⟩
theorem NetB.appD {w w' : World} {rws : List RWard} {wi : List (Int × Int × Int × Int)} {vW vI vD v' : Value} {nd : Nat} (h : NetB w rws wi vW vI vD nd) {cs0 cs : List Value} (h0 : w.ownsRow 0 157 2 vD nd cs0)
    (ho : w'.ownsRow 0 157 2 v' (nd + 1) cs) (hf : Fr (fun i => vD.ownBlock = some i) w w') : NetB w' rws wi vW vI v' (nd + 1) := by
  have K := Keep.app hf h0
  exact ⟨K.owns _ (by decide) h.ow, fun y hy => ⟨K.regs (h.rg y hy).1 (by decide) (by decide), (h.rg y hy).2⟩, fun y hy => K.owns _ (by decide) (h.dr y hy), K.owns _ (by decide) h.iw, cs, ho⟩

/-- A store into a row. -/
theorem owns_set {w : World} {base e size n g cap : Nat} {xs : List Value} (h : w.ownsRow base e size (.slice (some ⟨g, 0, none⟩) n cap) n xs) (j : Nat) (hj : j < n * size) (u : Value) :
    (w.setCell ⟨g, j, none⟩ u).ownsRow base e size (.slice (some ⟨g, 0, none⟩) n cap) n (xs.set j u) := by
  refine ⟨by rw [List.length_set]; exact h.1, ?_⟩
  rcases h.2 with ⟨h1, _⟩ | ⟨g', cap', cur, h1, hb, hg, h2, h3, h4, h5⟩
  · simp at h1
  · simp only [Value.slice.injEq, Option.some.injEq, Addr.mk.injEq] at h1
    obtain ⟨⟨rfl, _⟩, _, rfl⟩ := h1
    refine .inr ⟨_, _, _, rfl, hb, row_set hg j u, h2, h3, by simpa using h4, ?_⟩
    rw [← h5, Array.toList_setIfInBounds, List.take_set]

theorem flat_set {α : Type} (f : α → List Value) (m : Nat) : ∀ (xs : List α), (∀ x ∈ xs, (f x).length = m) → ∀ (k c : Nat) (x x' : α), xs[k]? = some x → (f x').length = m → c < m → ∀ u, (f x).set c u = f x' → (xs.flatMap f).set (k * m + c) u = (xs.set k x').flatMap f := by
  intro xs
  induction xs with
  | nil => intro _ k c x x' hx; simp at hx
  | cons y xs ih =>
    intro hl k c x x' hx hx' hc u hu
    have hy : (f y).length = m := hl y (by simp)
    cases k with
    | zero =>
      simp only [List.getElem?_cons_zero, Option.some.injEq] at hx
      subst hx
      simp only [List.flatMap_cons, Nat.zero_mul, Nat.zero_add, List.set_cons_zero]
      rw [List.set_append_left _ _ (by omega), hu]
    | succ k =>
      simp only [List.flatMap_cons, List.set_cons_succ]
      rw [List.set_append_right _ _ (by rw [hy, Nat.succ_mul]; omega), hy, ← ih (fun z hz => hl z (by simp [hz])) k c x x' (by simpa using hx) hx' hc u hu]
      congr 2
      rw [Nat.succ_mul]
      omega

/-- Where the device lists of the wards lie. -/
structure DevIn (B : Nat) (rws : List RWard) : Prop where
  a : ∀ y ∈ rws, ∀ r ∈ y.regs, r.g < B
  b : ∀ y ∈ rws, ∀ c, y.vD.ownBlock = some c → B ≤ c
  c : ∀ (i j : Nat) (y z : RWard), rws[i]? = some y → rws[j]? = some z → i ≠ j → ∀ c, y.vD.ownBlock = some c → z.vD.ownBlock ≠ some c

/-- Ward k, with a device more. -/
def addDev (y : RWard) (v : Value) (d : Int) : RWard := { y with vD := v, devs := y.devs ++ [d] }

theorem NetB.appV {w w' : World} {B : Nat} {rws : List RWard} {wi : List (Int × Int × Int × Int)} {vI vD : Value} {nd gW cW : Nat} (h : NetB w rws wi (.slice (some ⟨gW, 0, none⟩) rws.length cW) vI vD nd) (D : DevIn B rws) (hB : B ≤ w.heap.size) (k : Nat) (y : RWard) (hy : rws[k]? = some y) (d : Int) (g cap : Nat)
    (ho : w'.ownsRow 0 3 1 (.slice (some ⟨g, 0, none⟩) (y.devs.length + 1) cap) (y.devs.length + 1) (y.devs.map (Value.int .i64) ++ [Value.int .i64 d])) (hf : Fr (fun i => y.vD.ownBlock = some i) w w') (hat : y.vD.ownBlock = some g ∨ g = w.heap.size) :
    NetB (w'.setCell ⟨gW, k * 29 + 2, none⟩ (.slice (some ⟨g, 0, none⟩) (y.devs.length + 1) cap)) (rws.set k (addDev y (.slice (some ⟨g, 0, none⟩) (y.devs.length + 1) cap) d)) wi (.slice (some ⟨gW, 0, none⟩) (rws.set k (addDev y (.slice (some ⟨g, 0, none⟩) (y.devs.length + 1) cap) d)).length cW) vI vD nd ∧
      DevIn B (rws.set k (addDev y (.slice (some ⟨g, 0, none⟩) (y.devs.length + 1) cap) d)) ∧ Fr (fun i => y.vD.ownBlock = some i ∨ i = gW) w (w'.setCell ⟨gW, k * 29 + 2, none⟩ (.slice (some ⟨g, 0, none⟩) (y.devs.length + 1) cap)) := by
  have hk : k < rws.length := (List.getElem?_eq_some_iff.1 hy).1
  have hym : y ∈ rws := List.mem_of_getElem? hy
  have K := Keep.app hf (h.dr y hym)
  have ow' := K.owns _ (by decide) h.ow
  have hgW : ∃ cur, w'.heap[gW]? = some (.cells cur 130 (0, 0)) := by
    rcases ow'.2 with ⟨h1, _⟩ | ⟨g', cap', cur, h1, hb, hg, _⟩
    · simp at h1
    · simp only [Value.slice.injEq, Option.some.injEq, Addr.mk.injEq] at h1
      obtain ⟨⟨rfl, _⟩, _, rfl⟩ := h1
      exact ⟨cur, hg⟩
  obtain ⟨cur, hgW⟩ := hgW
  generalize hv : Value.slice (some ⟨g, 0, none⟩) (y.devs.length + 1) cap = v' at *
  have hvb : v'.ownBlock = some g := by rw [← hv]; rfl
  have K2 : Keep w' (w'.setCell ⟨gW, k * 29 + 2, none⟩ v') 130 := Keep.set hgW _
  have hdis : ∀ j z, rws[j]? = some z → j ≠ k → ∀ c, z.vD.ownBlock = some c → y.vD.ownBlock ≠ some c := fun j z hz hne c hc => D.c j k z y hz hy hne c hc
  have hlt : ∀ z ∈ rws, ∀ c, z.vD.ownBlock = some c → c < w.heap.size := fun z hz c hc => ((h.dr z hz).lt c hc).2
  have hset : ∀ j z, (rws.set k (addDev y v' d))[j]? = some z → (j = k ∧ z = addDev y v' d) ∨ (j ≠ k ∧ rws[j]? = some z) := by
    intro j z hz
    rw [List.getElem?_set] at hz
    by_cases e : k = j
    · subst e
      simp only [if_true, hk] at hz
      exact .inl ⟨rfl, (Option.some.inj hz).symm⟩
    · rw [if_neg e] at hz
      exact .inr ⟨fun h => e h.symm, hz⟩
  have hmem : ∀ z, z ∈ rws.set k (addDev y v' d) → z = addDev y v' d ∨ ∃ j, j ≠ k ∧ rws[j]? = some z := by
    intro z hz
    obtain ⟨j, hj⟩ := List.getElem?_of_mem hz
    rcases hset j z hj with ⟨_, e⟩ | ⟨e1, e2⟩
    · exact .inl e
    · exact .inr ⟨j, e1, e2⟩
  have rgk : ∀ z ∈ rws, RRegsAt (w'.setCell ⟨gW, k * 29 + 2, none⟩ v') 0 z.vR z.regs := by
    intro z hz
    have hr := (h.rg z hz).1
    refine K2.regs (⟨K.owns _ (by decide) hr.own, fun r hrr => ⟨hf.get (hr.blk r hrr).1 ?_, (hr.blk r hrr).2⟩, hr.inc⟩) (by decide) (by decide)
    intro e
    have := D.a z hz r hrr
    have := D.b y hym r.g e
    omega
  refine ⟨⟨?_, ?_, ?_, K2.owns _ (by decide) (K.owns _ (by decide) h.iw), h.dv.elim fun cs hc => ⟨cs, K2.owns _ (by decide) (K.owns _ (by decide) hc)⟩⟩, ⟨?_, ?_, ?_⟩, ?_⟩
  · have := owns_set ow' (k * 29 + 2) (by omega) v'
    rw [flat_set rwardCells 29 rws (fun z hz => rward_len z (h.rg z hz).2) k 2 y (addDev y v' d) hy (by rw [rward_len]; exact (h.rg y hym).2) (by omega) v' rfl] at this
    rw [List.length_set]
    exact this
  · intro z hz
    rcases hmem z hz with rfl | ⟨j, _, hj⟩
    · exact ⟨rgk y hym, (h.rg y hym).2⟩
    · exact ⟨rgk z (List.mem_of_getElem? hj), (h.rg z (List.mem_of_getElem? hj)).2⟩
  · intro z hz
    rcases hmem z hz with rfl | ⟨j, hne, hj⟩
    · have := K2.owns _ (by decide) ho
      simpa [addDev] using this
    · refine K2.owns _ (by decide) (hf.owns (h.dr z (List.mem_of_getElem? hj)) ?_)
      intro c hc e
      exact hdis j z hj hne c hc e
  · intro z hz
    rcases hmem z hz with rfl | ⟨j, _, hj⟩
    · exact D.a y hym
    · exact D.a z (List.mem_of_getElem? hj)
  · intro z hz c hc
    rcases hmem z hz with rfl | ⟨j, _, hj⟩
    · simp only [addDev, hvb, Option.some.injEq] at hc
      subst hc
      rcases hat with e | e
      · exact D.b y hym _ e
      · omega
    · exact D.b z (List.mem_of_getElem? hj) c hc
  · intro i j z z' hz hz' hne c hc hc'
    rcases hset i z hz with ⟨rfl, rfl⟩ | ⟨e1, e2⟩
    · rcases hset j z' hz' with ⟨rfl, rfl⟩ | ⟨e3, e4⟩
      · exact hne rfl
      · simp only [addDev, hvb, Option.some.injEq] at hc
        subst hc
        rcases hat with e | e
        · exact D.c _ _ _ _ hy e4 hne _ e hc'
        · have := hlt z' (List.mem_of_getElem? e4) _ hc'; omega
    · rcases hset j z' hz' with ⟨rfl, rfl⟩ | ⟨e3, e4⟩
      · simp only [addDev, hvb, Option.some.injEq] at hc'
        subst hc'
        rcases hat with e | e
        · exact D.c _ _ _ _ hy e2 (fun h => hne h.symm) _ e hc
        · have := hlt z (List.mem_of_getElem? e2) _ hc; omega
      · exact D.c _ _ _ _ e2 e4 hne c hc hc'
  · exact (hf.mono (fun i hi => .inl hi)).setCell (p := ⟨gW, k * 29 + 2, none⟩) (.inl (.inr rfl)) _

end Go.Proofs.YthmcheoehcmglaaGreat
/- Laws on structs within blocks; what the reference's read leaves. -/
namespace Go.Proofs.YthmcheoehcmglaaGreat
open Go.RowKit
set_option linter.unusedVariables false
attribute [local go_sem ↓] Go.wp_at_zero Go.wp_at_succ

/-- A struct that fills its block is loaded, in a region that draws its order. -/
theorem step_loadRow {P : Program} {w : World} {ops : Array Oper} {o : Oper} {a : Act} {K : Act → World → Prop} {Q : Exit → Act → World → Prop} {E : Prop} (hgd : o.guard = none) (ty : TypeId) (x : Operand) (ho : o.op = .load ty x)
    (g : Nat) (t : TypeId) (cells : Array Value) {d : TypeDesc} (hx : a.eval x = .pointer (some ⟨g, 0, none⟩)) (hg : w.heap[g]? = some (.cells cells t (0, 0)))
    (hu : P.underlying ty = some d) (hd : (match d with | .struct _ | .array _ _ => true | _ => false) = true) (hi : (P.info? ty).map (·.size) = some cells.size)
    (h : K (a.put o.dst (.agg cells)) w) : if Region.wanted o (yielded ops a.tmps) = true then Oper.wp P o a w K Q else E := by
  obtain ⟨dst, op, ty', pos, after, guard⟩ := o
  simp only at hgd ho h
  subst hgd ho
  rw [if_pos (by simp [Region.wanted])]
  unfold Oper.wp execOp
  simp only [hx, Instr.loadAt, Instr.sureAddr, Sem.run_bind, Sem.run_pure, Result.andThen_ok, run_loadVar_row w g t ty cells (0, 0) d hg hu hd hi]
  exact h

/-- What is to be seen of a ward, but for its devices. -/
def rkey (y : RWard) := (y.q, y.now, y.then_, y.regs.map (·.r), y.regs.map (·.ws))
def wkey (x : WardV) := (x.q, st0 x.bg, st0 x.bg, x.regs, (x.regs.map (fun r => List.replicate r.2.1.toNat (0 : Int))).modifyHead (fun z => splice z 0 x.prog))
/-- The devices of ward k, of the first d ones. -/
def devsN (ow : List Int) (k : Nat) : Nat → List Int
  | 0 => []
  | d + 1 => devsN ow k d ++ (if ow[d]? = some (k : Int) then [(d : Int)] else [])

structure NetOf (m : Img) (rws : List RWard) (wi : List (Int × Int × Int × Int)) : Prop where
  wi : wi = m.wi.map (fun x => (x.1, x.2, 0, 0))
  key : rws.map rkey = m.ws.map wkey
  dev : ∀ k y, rws[k]? = some y → y.devs = devsN m.ow k m.ow.length

/-- Devices as they are read. -/
def devZ (nd : Nat) : List Value := (List.replicate nd [Value.int .i64 0, Value.slice none 0 0]).flatten
theorem devZ_succ (nd : Nat) : devZ (nd + 1) = devZ nd ++ [Value.int .i64 0, Value.slice none 0 0] := by simp [devZ, List.replicate_succ']

/-- Where what was read lies. -/
structure RdEx (w : World) (Y : Nat) (rws : List RWard) (vW vI vD : Value) (nd : Nat) (wr : World) : Prop where
  by_ : w.heap.size ≤ Y
  bw : ∀ k, vW.ownBlock = some k → w.heap.size ≤ k
  bi : ∀ k, vI.ownBlock = some k → w.heap.size ≤ k
  bd : ∀ k, vD.ownBlock = some k → w.heap.size ≤ k
  sp : (rws.flatMap (fun y => y.regs.map (·.g))).Pairwise (· < ·)
  sb : ∀ y ∈ rws, (∀ r ∈ y.regs, w.heap.size ≤ r.g) ∧ ∀ b, y.vR.ownBlock = some b → w.heap.size ≤ b
  dz : wr.ownsRow 0 157 2 vD nd (devZ nd)
  dI : ∃ B, w.heap.size ≤ B ∧ DevIn B rws
theorem RdEx.fr {w wr w' : World} {Y : Nat} {rws : List RWard} {vW vI vD : Value} {nd : Nat} (h : RdEx w Y rws vW vI vD nd wr) (hf : Fr (fun _ => False) wr w') : RdEx w Y rws vW vI vD nd w' :=
  ⟨h.by_, h.bw, h.bi, h.bd, h.sp, h.sb, hf.ownsF _ h.dz, h.dI⟩

def ReadPost (l : List UInt8) (w : World) (e : Ending) (w' : World) : Prop :=
  ∃ Y, e = .returned (.tuple #[.pointer (some ⟨Y, 0, none⟩), .bool (rimg l).2]) ∧ Fr (fun _ => False) w w' ∧
    ((rimg l).2 = true → ∃ rws wi vW vI vD, NetAt w' Y (rimg l).1.gap (rimg l).1.mem 0 rws wi vW vI vD (rimg l).1.ow.length ∧ NetOf (rimg l).1 rws wi ∧ RdEx w Y rws vW vI vD (rimg l).1.ow.length w')

/-- A net that is being read. -/
structure RdIn (w : World) (gap mem : Int) (rws : List RWard) (wi : List (Int × Int × Int × Int)) (nd : Nat) (vW vI vD : Value) (wr : World) : Prop where
  n : NetAt wr w.heap.size gap mem 0 rws wi vW vI vD nd
  f : Fr (fun _ => False) w wr
  bw : ∀ k, vW.ownBlock = some k → w.heap.size ≤ k
  bi : ∀ k, vI.ownBlock = some k → w.heap.size ≤ k
  bd : ∀ k, vD.ownBlock = some k → w.heap.size ≤ k
  sp : (rws.flatMap (fun y => y.regs.map (·.g))).Pairwise (· < ·)
  sb : ∀ y ∈ rws, (∀ r ∈ y.regs, w.heap.size ≤ r.g) ∧ ∀ b, y.vR.ownBlock = some b → w.heap.size ≤ b
  dz : wr.ownsRow 0 157 2 vD nd (devZ nd)

theorem slRWard : SlT Tryz.prog 118 130 29 264 := SlT.mk' (z := .agg #[.int .i64 0, .slice none 0 0, .slice none 0 0, .int .i64 0, .int .i64 0, .int .i64 0, .int .i64 0, .int .i64 0, .int .i64 0, .int .i64 0, .int .i64 0, .int .i64 0, .int .i64 0, .int .i64 0, .int .i64 0, .bool false, .int .i64 0, .int .i64 0, .int .i64 0, .int .i64 0, .int .i64 0, .int .i64 0, .int .i64 0, .int .i64 0, .int .i64 0, .int .i64 0, .int .i64 0, .int .i64 0, .bool false]) Tryz.underlying118 (by kernel_rfl) rfl (by omega)
theorem slRWire : SlT Tryz.prog 119 124 4 32 := SlT.mk' (z := .agg #[.int .i64 0, .int .i64 0, .int .i64 0, .int .i64 0]) Tryz.underlying119 (by kernel_rfl) rfl (by omega)
theorem slRDev : SlT Tryz.prog 120 157 2 32 := SlT.mk' (z := .agg #[.int .i64 0, .slice none 0 0]) Tryz.underlying120 (by kernel_rfl) rfl (by omega)

end Go.Proofs.YthmcheoehcmglaaGreat
