/- The machine whole: endTurn, beginTurn, change. -/
import Derived.Test.YthmcheoehcmglaaGreatC12
import Derived.Test.YthmcheoehcmglaaGreatW14
import Derived.Test.YthmcheoehcmglaaGreatW16
import Derived.Deep.CutRange
namespace Go.Proofs.YthmcheoehcmglaaGreat
open Go.RowKit
set_option linter.unusedVariables false
attribute [local go_sem ↓] Go.wp_at_zero Go.wp_at_succ

/-- The wards' states lie in a row of wards. -/
def StsIn (L : List Value) (sts : List StV) : Prop := ∀ k s, sts[k]? = some s → k * 15 + 15 ≤ L.length ∧ stCells s = (L.drop (k * 15)).take 13

/-- A machine that lies in the world, whole. -/
structure KerF (x : KX) (ck : Int) (mem : List Int) (sts : List StV) (devs : List DevV) (vL : List Value) (w : World) : Prop where
  r : KerR x ck mem w
  st : ∃ L : List Value, w.heap[x.gK]? = some (.cells L.toArray 94 (0, 0)) ∧ StsIn L sts
  sl : sts.length = x.regs.length
  sb : ∀ s ∈ sts, StB s
  d : DevR x.gD x.dn devs vL w
  vdl : x.vD.length = x.dvs.length
  n64 : 64 ≤ x.n
  q : QsOk x.gap x.qs
  ql : x.qs.length = x.regs.length

theorem StB.ok {s : StV} (h : StB s) : s.Ok := ⟨h.l, h.s0, by have := h.s1; omega, h.c0, by have := h.c1; omega, h.b0, by have := h.b1; omega⟩

theorem StsIn.set {L : List Value} {sts : List StV} (h : StsIn L sts) (hb : ∀ s ∈ sts, StB s) (k : Nat) (hk : k < sts.length) (s' : StV) (h8 : s'.regs.length = 8) : StsIn (splice L (k * 15) (stCells s')) (sts.set k s') := by
  have h1 := h k _ (List.getElem?_eq_getElem hk)
  have hl : (stCells s').length = 13 := stCells_len _ h8
  have hll : (splice L (k * 15) (stCells s')).length = L.length := length_splice _ _ _ (by rw [hl]; omega)
  intro j s hj
  by_cases hkj : k = j
  · subst hkj
    rw [List.getElem?_set_self hk] at hj
    cases hj
    refine ⟨by rw [hll]; exact h1.1, ?_⟩
    apply List.ext_getElem?
    intro i
    rw [List.getElem?_take]
    by_cases hi : i < 13
    · rw [if_pos hi, List.getElem?_drop, splice_get _ _ _ (by rw [hl]; omega), if_pos (by rw [hl]; omega), Nat.add_sub_cancel_left]
    · rw [if_neg hi, List.getElem?_eq_none (by omega)]
  · rw [List.getElem?_set_ne hkj] at hj
    obtain ⟨h2, h3⟩ := h j s hj
    refine ⟨by rw [hll]; exact h2, ?_⟩
    rw [h3]
    apply List.ext_getElem?
    intro i
    rw [List.getElem?_take, List.getElem?_take]
    by_cases hi : i < 13
    · rw [if_pos hi, if_pos hi, List.getElem?_drop, List.getElem?_drop, splice_get _ _ _ (by rw [hl]; omega), if_neg (by rw [hl]; omega)]
    · rw [if_neg hi, if_neg hi]

theorem KerF.stAt {x : KX} {ck : Int} {mem : List Int} {sts : List StV} {devs : List DevV} {vL : List Value} {w : World} (h : KerF x ck mem sts devs vL w) (k : Nat) (s : StV) (hs : sts[k]? = some s) : ∃ L, StAt w x.gK (k * 15) 94 L s ∧ StsIn L sts := by
  obtain ⟨L, hL, hS⟩ := h.st
  have := hS k s hs
  exact ⟨L, ⟨hL, by omega, this.2⟩, hS⟩

/-- What a frame keeps. -/
theorem KerF.frF {x : KX} {ck : Int} {mem : List Int} {sts : List StV} {devs : List DevV} {vL : List Value} {w w' : World} (h : KerF x ck mem sts devs vL w) (hf : Fr (fun _ => False) w w') : KerF x ck mem sts devs vL w' := by
  obtain ⟨L, hL, hS⟩ := h.st
  exact ⟨h.r.frF hf, ⟨L, hf.get hL id, hS⟩, h.sl, h.sb, h.d.frF hf, h.vdl, h.n64, h.q, h.ql⟩

/-- The memory is written. -/
theorem KerF.wr {x : KX} {ck : Int} {mem mem' : List Int} {sts : List StV} {devs : List DevV} {vL : List Value} {w w' : World} (h : KerF x ck mem sts devs vL w) (hm : w'.heap[x.M]? = some (.cells (wordCells mem').toArray 33 (0, 0))) (hf : Fr (fun i => i = x.M) w w') (hl : mem'.length = mem.length) (hb : ∀ v ∈ mem', 0 ≤ v ∧ v < 4294967296) : KerF x ck mem' sts devs vL w' := by
  obtain ⟨L, hL, hS⟩ := h.st
  have hM := h.d.notT h.r.hm (by decide) (by decide)
  have hKM : x.gK ≠ x.M := by
    intro e
    rw [e, h.r.hm] at hL
    simp only [Option.some.injEq, Obj.cells.injEq] at hL
    exact absurd hL.2.1 (by decide)
  exact ⟨h.r.wr hm hf hl hb, ⟨L, hf.get hL hKM, hS⟩, h.sl, h.sb, h.d.fr hf (fun e => hM.1 e.symm) (fun v hv b hbb e => hM.2 v hv (by rw [hbb, e])), h.vdl, h.n64, h.q, h.ql⟩

/-- A ward's state is written. -/
theorem KerF.ws {x : KX} {ck : Int} {mem : List Int} {sts : List StV} {devs : List DevV} {vL : List Value} {w w' : World} (h : KerF x ck mem sts devs vL w) (k : Nat) (hk : k < sts.length) (s' : StV) (hs' : StB s') (L : List Value) (hL : w.heap[x.gK]? = some (.cells L.toArray 94 (0, 0))) (hS : StsIn L sts)
    (hA : w'.heap[x.gK]? = some (.cells (splice L (k * 15) (stCells s')).toArray 94 (0, 0))) (hf : Fr (fun i => i = x.gK) w w') : KerF x ck mem (sts.set k s') devs vL w' := by
  have hM := h.d.notT hL (by decide) (by decide)
  have h1 := hS k _ (List.getElem?_eq_getElem hk)
  have hl : (stCells s').length = 13 := stCells_len _ hs'.l
  refine ⟨h.r.wk hA hf ?_, ⟨_, hA, hS.set h.sb k hk s' hs'.l⟩, by rw [List.length_set]; exact h.sl, ?_, h.d.fr hf (fun e => hM.1 e.symm) (fun v hv b hbb e => hM.2 v hv (by rw [hbb, e])), h.vdl, h.n64, h.q, h.ql⟩
  · intro j c hj c1 c2
    rw [row_cell hA, row_cell hL, List.getElem?_toArray, List.getElem?_toArray, splice_get _ _ _ (by rw [hl]; omega), if_neg (by rw [hl]; omega)]
  · intro s hs
    rcases List.mem_or_eq_of_mem_set hs with h2 | h2
    · exact h.sb s h2
    · rw [h2]; exact hs'

theorem KerF.set1 {x : KX} {ck : Int} {mem : List Int} {sts : List StV} {devs : List DevV} {vL : List Value} {w : World} (h : KerF x ck mem sts devs vL w) (i : Nat) (v : Int) (v0 : 0 ≤ v) (v1 : v < 4294967296) : KerF x ck (mem.set i v) sts devs vL (w.setCell ⟨x.M, i, none⟩ (.int .u32 v)) := by
  refine h.wr (h.r.set1 i v v0 v1).hm (Fr.one w x.M i _) (by simp) ?_
  exact (h.r.set1 i v v0 v1).mb
/-- What is saved. -/
def endM (x : KX) (k : Nat) (mem : List Int) (sts : List StV) : List Int × List StV :=
  let s : StV := { sts.getD k zeroSt with y := false }
  ((splice mem (16 + 16 * k) (stWords s)).set 0 (x.regs.length : Int), sts.set k s)
/-- What is loaded. -/
def beginM (k : Nat) (mem : List Int) (sts : List StV) : List Int × List StV := (mem.set 0 (k : Int), sts.set k (loadSt mem (16 + 16 * k)))

theorem StB.y {s : StV} (h : StB s) (b : Bool) : StB { s with y := b } := ⟨h.l, h.r, h.p0, h.p1, h.s0, h.s1, h.c0, h.c1, h.b0, h.b1⟩

theorem splice_bd (L : List Int) (o : Nat) (cs : List Int) (h1 : ∀ v ∈ L, 0 ≤ v ∧ v < 4294967296) (h2 : ∀ v ∈ cs, 0 ≤ v ∧ v < 4294967296) : ∀ v ∈ splice L o cs, 0 ≤ v ∧ v < 4294967296 := by
  intro v hv
  unfold splice at hv
  rcases List.mem_append.1 hv with h | h
  · exact h1 v (List.mem_of_mem_take h)
  · rcases List.mem_append.1 h with h | h
    · exact h2 v h
    · exact h1 v (List.mem_of_mem_drop h)
theorem stWords_bd (s : StV) (h : StB s) : ∀ v ∈ stWords s, 0 ≤ v ∧ v < 4294967296 := by
  intro v hv
  have := h.s1
  have := h.c1
  have := h.b1
  unfold stWords at hv
  rcases List.mem_append.1 hv with h1 | h1
  · exact h.r v h1
  · simp only [List.mem_cons, List.not_mem_nil, or_false] at h1
    rcases h1 with rfl | rfl | rfl | rfl | rfl
    · exact ⟨h.p0, h.p1⟩
    · exact ⟨h.s0, by omega⟩
    · exact ⟨h.c0, by omega⟩
    · exact ⟨h.b0, by omega⟩
    · unfold yWord; split <;> omega

set_option maxRecDepth 100000 in
set_option maxHeartbeats 2000000 in
theorem endTurn_any (x : KX) (ck : Int) (mem : List Int) (sts : List StV) (devs : List DevV) (vL : List Value) (w : World) (h : KerF x ck mem sts devs vL w) (k : Nat) (hk : k < x.regs.length) :
    Calls Tryz.prog 87 #[.pointer (some ⟨x.X, 0, none⟩), .int .i64 k] w fun e w' => e = .returned (.tuple #[]) ∧ KerF x ck (endM x k mem sts).1 (endM x k mem sts).2 devs vL w' ∧ Fr (fun i => i = x.M ∨ i = x.gK) w w' := by
  have hks : k < sts.length := by rw [h.sl]; exact hk
  obtain ⟨s, hs⟩ : ∃ s, sts[k]? = some s := ⟨_, List.getElem?_eq_getElem hks⟩
  have hsB := h.sb s (List.mem_of_getElem? hs)
  obtain ⟨L, hA, hS⟩ := h.stAt k s hs
  have HE : Hid (endM x k mem sts = ((splice mem (16 + 16 * k) (stWords { s with y := false })).set 0 (x.regs.length : Int), sts.set k { s with y := false })) := by unfold Hid endM; rw [getD_of hs]
  generalize endM x k mem sts = em at *
  have hki : (k : Int) < (x.regs.length : Int) := by omega
  have hwl := h.r.wl
  have hn1 := h.r.n1
  have hkern := h.r.kern
  have cX4 : w.cell? ⟨x.X, 4, none⟩ = some (.slice (some ⟨x.gK, 0, none⟩) x.regs.length x.cK) := row_cell h.r.hx _
  have cY : w.cell? ⟨x.gK, k * 15 + 12, none⟩ = some (.bool s.y) := hA.at hsB.l 4 (by omega)
  have fY : w.frozen? ⟨x.gK, k * 15 + 12, none⟩ = false := row_frozen hA.h _
  have HA2 := hid (hA.set (s' := { s with y := false }) 12 (by omega) (.bool false) (by obtain ⟨r0, r1, r2, r3, r4, r5, r6, r7, hr⟩ := st13 _ hsB.l; unfold stCells; simp only [hr]; rfl))
  have HK2 := hid (h.ws k hks { s with y := false } (hsB.y false) L hA.h hS HA2.out.h (Fr.one w x.gK _ _))
  have HH := hid h
  have HSB := hid (hsB.y false)
  clear h hA hS hs hsB
  go_enter Tryz.func87, Tryz.ntmps87
  go_wp2_with fail
  clear cX4 cY fY
  have HFR : Hid (Fr (fun i => i = x.M ∨ i = x.gK) w (w.setCell ⟨x.gK, k * 15 + 12, none⟩ (.bool false))) := (Fr.refl _ w).setCell (.inl (.inr rfl)) _
  generalize w.setCell ⟨x.gK, k * 15 + 12, none⟩ (.bool false) = w2 at *
  have hxx : w2.cell? ⟨x.X, 0, none⟩ = some (.slice (some ⟨x.M, 0, none⟩) x.n x.n) := row_cell HK2.out.r.hx _
  have hkn : 32 + 16 * k ≤ x.n := by omega
  have hoff : 16 + 16 * k + 16 ≤ mem.length := by rw [HH.out.r.hn]; omega
  have hml : mem.length ≤ 1024 := by rw [HH.out.r.hn]; exact hn1
  have hcp : 16 ≤ x.n - (16 + 16 * k) := by omega
  have hgM : x.gK ≠ x.M := by
    intro e
    have h1 := HA2.out.h
    rw [e, HK2.out.r.hm] at h1
    simp only [Option.some.injEq, Obj.cells.injEq] at h1
    exact absurd h1.2.1 (by decide)
  have HST : Hid (∀ wz : World, Fr (fun _ => False) w2 wz → ∀ j u, (stCells { s with y := false })[j]? = some u → wz.cell? ⟨x.gK, k * 15 + j, none⟩ = some u) := by
    intro wz hf j u hu
    have hj : j < 13 := by
      have := (List.getElem?_eq_some_iff.1 hu).1
      rw [stCells_len _ HSB.out.l] at this
      exact this
    rw [(HA2.out.fr hf id).cell j hj]
    exact hu
  have hml' : (splice mem (16 + 16 * k) (stWords { s with y := false })).length = mem.length := length_splice _ _ _ (by simp [stWords, HSB.out.l]; omega)
  have HK3 : Hid (∀ w6, w6.heap[x.M]? = some (.cells (wordCells (splice mem (16 + 16 * k) (stWords { s with y := false }))).toArray 33 (0, 0)) → Fr (fun i => i = x.M) w2 w6 → KerF x ck (splice mem (16 + 16 * k) (stWords { s with y := false })) (sts.set k { s with y := false }) devs vL w6) := fun w6 hm6 hf6 => HK2.out.wr hm6 hf6 hml' (splice_bd _ _ _ HH.out.r.mb (stWords_bd _ HSB.out))
  have HM2 := hid HK2.out.r.hm
  go_region_held3 (fun w' => True)
    (go_keep)
    (first
      | (go_at_call 67; refine (area_any x.X x.M x.n k _ ?_ hkn hn1).mono ?_; exact hxx; rintro e w5 ⟨rfl, rfl⟩)
      | (go_at_call 74; refine (save_any x.gK (k * 15) x.M (16 + 16 * k) (x.n - (16 + 16 * k)) { s with y := false } mem _ HSB.out.ok hgM ?_ ?_ hoff hml hcp).mono ?_; exact HST.out _ ((Fr.refl _ w2).drew); exact HM2.out; rintro e w6 ⟨rfl, hm6, hf6⟩; have hK6 := HK3.out w6 hm6 hf6.undrew; have hF6 := hid (HFR.out.step hf6.undrew (fun i hi => .inl (.inl hi)))))
  have cM : w6.drew.cell? ⟨x.X, 0, none⟩ = some (.slice (some ⟨x.M, 0, none⟩) x.n x.n) := row_cell hK6.r.hx _
  have cW : w6.drew.cell? ⟨x.X, 4, none⟩ = some (.slice (some ⟨x.gK, 0, none⟩) x.regs.length x.cK) := row_cell hK6.r.hx _
  have c0 : w6.drew.cell? ⟨x.M, 0, none⟩ = some (.int .u32 ((splice mem (16 + 16 * k) (stWords { s with y := false })).getD 0 0)) := hK6.r.word 0 (by omega)
  have f0 : w6.drew.frozen? ⟨x.M, 0, none⟩ = false := row_frozen hK6.r.hm 0
  have hn0 : (0 : Int) < (x.n : Int) := by omega
  have HK7 := hid (hK6.set1 0 (x.regs.length : Int) (by omega) (by omega))
  clear hK6 hm6 hf6 hxx
  go_wp2_with fail
  go_region
  go_wp2_with fail
  go_end0
  rw [HE.out]
  exact ⟨rfl, HK7.out.frF (Fr.refl _ _).drew, (hF6.out.setCell (p := ⟨x.M, 0, none⟩) (.inl (.inl rfl)) _).drew⟩

set_option maxRecDepth 100000 in
set_option maxHeartbeats 2000000 in
theorem beginTurn_any (x : KX) (ck : Int) (mem : List Int) (sts : List StV) (devs : List DevV) (vL : List Value) (w : World) (h : KerF x ck mem sts devs vL w) (k : Nat) (hk : k < x.regs.length) (hB : StB (loadSt mem (16 + 16 * k))) :
    Calls Tryz.prog 88 #[.pointer (some ⟨x.X, 0, none⟩), .int .i64 k] w fun e w' => e = .returned (.tuple #[]) ∧ KerF x ck (beginM k mem sts).1 (beginM k mem sts).2 devs vL w' ∧ Fr (fun i => i = x.M ∨ i = x.gK) w w' := by
  have hks : k < sts.length := by rw [h.sl]; exact hk
  obtain ⟨s, hs⟩ : ∃ s, sts[k]? = some s := ⟨_, List.getElem?_eq_getElem hks⟩
  have hsB := h.sb s (List.mem_of_getElem? hs)
  obtain ⟨L, hA, hS⟩ := h.stAt k s hs
  have hki : (k : Int) < (x.regs.length : Int) := by omega
  have hwl := h.r.wl
  have hn1 := h.r.n1
  have hkern := h.r.kern
  have cX4 : w.drew.cell? ⟨x.X, 4, none⟩ = some (.slice (some ⟨x.gK, 0, none⟩) x.regs.length x.cK) := row_cell h.r.hx _
  have hxx : w.cell? ⟨x.X, 0, none⟩ = some (.slice (some ⟨x.M, 0, none⟩) x.n x.n) := row_cell h.r.hx _
  have hkn : 32 + 16 * k ≤ x.n := by omega
  have hoff : 16 + 16 * k + 16 ≤ mem.length := by rw [h.r.hn]; omega
  have hml : mem.length ≤ 1024 := by rw [h.r.hn]; exact hn1
  have hcp : 16 ≤ x.n - (16 + 16 * k) := by omega
  have hgM : x.gK ≠ x.M := by
    intro e
    have h1 := hA.h
    rw [e, h.r.hm] at h1
    simp only [Option.some.injEq, Obj.cells.injEq] at h1
    exact absurd h1.2.1 (by decide)
  have HLD := hid (fun (w1 : World) (hf : Fr (fun _ => False) w w1) => load_in x.gK (k * 15) x.M (16 + 16 * k) (x.n - (16 + 16 * k)) 94 L s mem w1 hsB.l hgM (hA.fr hf id) (hf.get h.r.hm id) h.r.mb hoff hml hcp)
  have HK2 : Hid (∀ w2, StAt w2 x.gK (k * 15) 94 (splice L (k * 15) (stCells (loadSt mem (16 + 16 * k)))) (loadSt mem (16 + 16 * k)) → Fr (fun i => i = x.gK) w w2 → KerF x ck mem (sts.set k (loadSt mem (16 + 16 * k))) devs vL w2) := fun w2 hA2 hf => h.ws k hks _ hB L hA.h hS hA2.h hf
  clear h hA hS hs hsB hB
  go_enter Tryz.func88, Tryz.ntmps88
  go_wp2_with fail
  go_region_held3 (fun w' => w'.cell? ⟨x.X, 4, none⟩ = some (.slice (some ⟨x.gK, 0, none⟩) x.regs.length x.cK))
    (go_keep)
    (first
      | (go_at_call 67; refine (area_any x.X x.M x.n k _ ?_ hkn hn1).mono ?_; exact hxx; rintro e w5 ⟨rfl, rfl⟩)
      | (go_at_call 66; refine (HLD.out _ ?_).mono ?_; exact (Fr.refl _ w).drew; rintro e w6 ⟨rfl, hm6, hf6⟩; have hK6 := HK2.out w6 hm6 hf6.undrew; have cX46 : w6.cell? ⟨x.X, 4, none⟩ = some (.slice (some ⟨x.gK, 0, none⟩) x.regs.length x.cK) := row_cell hK6.r.hx _; have hF6 := hid hf6.undrew))
  have cM : w6.cell? ⟨x.X, 0, none⟩ = some (.slice (some ⟨x.M, 0, none⟩) x.n x.n) := row_cell hK6.r.hx _
  have c0 : w6.cell? ⟨x.M, 0, none⟩ = some (.int .u32 (mem.getD 0 0)) := hK6.r.word 0 (by omega)
  have f0 : w6.frozen? ⟨x.M, 0, none⟩ = false := row_frozen hK6.r.hm 0
  have hn0 : (0 : Int) < (x.n : Int) := by omega
  have HK7 := hid (hK6.set1 0 (k : Int) (by omega) (by omega))
  clear hK6 hm6 hf6 hxx cX46 cX4
  go_wp2_with fail
  go_end0
  exact ⟨rfl, HK7.out, (hF6.out.mono (fun i hi => .inr hi)).setCell (p := ⟨x.M, 0, none⟩) (.inl (.inl rfl)) _⟩

/-- A cycle of a gap. -/
def changeM (x : KX) (k : Nat) (first last : Bool) (mem : List Int) (sts : List StV) : List Int × List StV :=
  let a := if first then endM x k mem sts else (mem, sts)
  if last then beginM ((k + 1) % x.regs.length) a.1 a.2 else a

set_option maxRecDepth 100000 in
set_option maxHeartbeats 2000000 in
theorem change_any (x : KX) (ck : Int) (mem : List Int) (sts : List StV) (devs : List DevV) (vL : List Value) (w : World) (h : KerF x ck mem sts devs vL w) (k : Nat) (hk : k < x.regs.length) (first last : Bool)
    (hB : StB (loadSt (if first then endM x k mem sts else (mem, sts)).1 (16 + 16 * ((k + 1) % x.regs.length)))) :
    Calls Tryz.prog 62 #[.pointer (some ⟨x.X, 0, none⟩), .agg #[.int .i64 k, .bool true, .bool first, .bool last]] w fun e w' => e = .returned (.tuple #[]) ∧ KerF x ck (changeM x k first last mem sts).1 (changeM x k first last mem sts).2 devs vL w' ∧ Fr (fun i => i = x.M ∨ i = x.gK) w w' := by
  have hwl := h.r.wl
  have hk' : (k + 1) % x.regs.length < x.regs.length := Nat.mod_lt _ (by omega)
  have hk0 : (0 : Int) < (x.regs.length : Int) := by omega
  have HEN := hid (fun (w1 : World) (hf : Fr (fun _ => False) w w1) => endTurn_any x ck mem sts devs vL w1 (h.frF hf) k hk)
  have HCM : Hid (changeM x k first last mem sts = if last then beginM ((k + 1) % x.regs.length) (if first then endM x k mem sts else (mem, sts)).1 (if first then endM x k mem sts else (mem, sts)).2 else (if first then endM x k mem sts else (mem, sts))) := rfl
  generalize changeM x k first last mem sts = cm at *
  have HH := hid h
  have HBB := hid hB
  have hmod : ((k : Int) + 1) % (x.regs.length : Int) = (((k + 1) % x.regs.length : Nat) : Int) := by simp
  have HKK := hid hk'
  have hne : ¬ x.regs = [] := by intro e; rw [e] at hk; simp at hk
  have hwr : IntKind.i64.wrap ((k : Int) + 1) = (k : Int) + 1 := by rw [IntKind.wrap_i64]; omega
  have htm : ((k : Int) + 1).tmod (x.regs.length : Int) = (((k + 1) % x.regs.length : Nat) : Int) := by rw [Int.tmod_eq_emod_of_nonneg (by omega)]; exact hmod
  clear h hB hmod
  cases first with
  | true =>
    have HBG := hid (fun (w1 : World) (h1 : KerF x ck (endM x k mem sts).1 (endM x k mem sts).2 devs vL w1) => beginTurn_any x ck (endM x k mem sts).1 (endM x k mem sts).2 devs vL w1 h1 ((k + 1) % x.regs.length) hk' HBB.out)
    replace HCM : Hid (cm = if last then beginM ((k + 1) % x.regs.length) (endM x k mem sts).1 (endM x k mem sts).2 else endM x k mem sts) := HCM
    generalize endM x k mem sts = em at *
    generalize (k + 1) % x.regs.length = k2 at *
    go_enter Tryz.func62, Tryz.ntmps62
    go_wp2_with fail
    refine (HEN.out _ ((Fr.refl _ w).alloc _)).mono ?_
    rintro e w1 ⟨rfl, h1, hf1⟩
    have hb1 := hf1.get (heap_alloc_new w _) (by rintro (e | e); exact absurd (lt_of_get HH.out.r.hm) (by omega); exact absurd (HH.out.st.elim fun L hL => lt_of_get hL.1) (by omega))
    have HF1 := hid (((Fr.refl (fun i => i = x.M ∨ i = x.gK) w).alloc _).step hf1 (fun i hi => .inl hi))
    clear hf1
    have c3 : w1.cell? ⟨w.heap.size, 3, none⟩ = some (.bool last) := row_cell hb1 3
    have c0 : w1.drew.cell? ⟨w.heap.size, 0, none⟩ = some (.int .i64 k) := row_cell hb1 0
    have cW : w1.drew.cell? ⟨x.X, 4, none⟩ = some (.slice (some ⟨x.gK, 0, none⟩) x.regs.length x.cK) := row_cell h1.r.hx _
    have H1 := hid h1
    clear h1 hb1
    cases last with
    | false =>
      go_wp2_with fail
      go_end0
      rw [HCM.out]
      exact ⟨rfl, H1.out, HF1.out⟩
    | true =>
      replace HCM : Hid (cm = beginM k2 em.1 em.2) := HCM
      go_wp2_with fail
      go_region_law
        (first
          | (refine step_call Tryz.func88 (by kernel_rfl) (by kernel_rfl) (by rfl) (by rfl) [.pointer (some ⟨x.X, 0, none⟩), .int .i64 (k2 : Int)] (by rfl) ((HBG.out _ ?_).mono ?_); exact H1.out.frF (Fr.refl _ w1).drew; rintro e w2 ⟨rfl, h2, hf2⟩; refine ⟨_, rfl, ?_⟩))
      all_goals
        have H2 := hid h2
        have HF2 := hid (HF1.out.drew.step hf2 (fun i hi => .inl hi))
        clear h2 hf2 c3 c0 cW
        go_wp2_with fail
        go_end0
        rw [HCM.out]
        exact ⟨rfl, H2.out, HF2.out⟩
  | false =>
    have HBG := hid (fun (w1 : World) (h1 : KerF x ck mem sts devs vL w1) => beginTurn_any x ck mem sts devs vL w1 h1 ((k + 1) % x.regs.length) hk' HBB.out)
    replace HCM : Hid (cm = if last then beginM ((k + 1) % x.regs.length) mem sts else (mem, sts)) := HCM
    generalize (k + 1) % x.regs.length = k2 at *
    obtain ⟨em, hem⟩ : ∃ em : List Int × List StV, em = (mem, sts) := ⟨_, rfl⟩
    obtain ⟨rfl, rfl⟩ : em.1 = mem ∧ em.2 = sts := by rw [hem]; exact ⟨rfl, rfl⟩
    replace HCM : Hid (cm = if last then beginM k2 em.1 em.2 else em) := HCM
    clear hem HEN
    go_enter Tryz.func62, Tryz.ntmps62
    go_upto_region 3 with fail
    have HF1 : Hid (Fr (fun i => i = x.M ∨ i = x.gK) w (w.alloc (.cells #[.int .i64 k, .bool true, .bool false, .bool last] 134))) := (Fr.refl _ w).alloc _
    have hb1 := heap_alloc_new w (.cells #[.int .i64 k, .bool true, .bool false, .bool last] 134)
    have h1 := HH.out.frF ((Fr.refl _ w).alloc (.cells #[.int .i64 k, .bool true, .bool false, .bool last] 134))
    generalize w.alloc (.cells #[.int .i64 k, .bool true, .bool false, .bool last] 134) = w1 at *
    have c3 : w1.cell? ⟨w.heap.size, 3, none⟩ = some (.bool last) := row_cell hb1 3
    have c0 : w1.drew.cell? ⟨w.heap.size, 0, none⟩ = some (.int .i64 k) := row_cell hb1 0
    have cW : w1.drew.cell? ⟨x.X, 4, none⟩ = some (.slice (some ⟨x.gK, 0, none⟩) x.regs.length x.cK) := row_cell h1.r.hx _
    have H1 := hid h1
    clear h1 hb1
    cases last with
    | false =>
      go_wp2_with fail
      go_end0
      rw [HCM.out]
      exact ⟨rfl, H1.out, HF1.out⟩
    | true =>
      replace HCM : Hid (cm = beginM k2 em.1 em.2) := HCM
      go_wp2_with fail
      go_region_law
        (first
          | (refine step_call Tryz.func88 (by kernel_rfl) (by kernel_rfl) (by rfl) (by rfl) [.pointer (some ⟨x.X, 0, none⟩), .int .i64 (k2 : Int)] (by rfl) ((HBG.out _ ?_).mono ?_); exact H1.out.frF (Fr.refl _ w1).drew; rintro e w2 ⟨rfl, h2, hf2⟩; refine ⟨_, rfl, ?_⟩))
      all_goals
        have H2 := hid h2
        have HF2 := hid (HF1.out.drew.step hf2 (fun i hi => .inl hi))
        clear h2 hf2 c3 c0 cW
        go_wp2_with fail
        go_end0
        rw [HCM.out]
        exact ⟨rfl, H2.out, HF2.out⟩

end Go.Proofs.YthmcheoehcmglaaGreat
