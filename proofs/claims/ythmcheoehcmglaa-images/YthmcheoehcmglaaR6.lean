/- The reference's Word: the save areas, the cells, the regions. -/
import Derived.Test.YthmcheoehcmglaaR5
namespace Go.Proofs.Ythmcheoehcmglaa
open Go.RowKit
set_option linter.unusedVariables false
attribute [local go_sem ↓] Go.wp_at_zero Go.wp_at_succ

theorem rwordV_area (tv ck : Int) (rws : List RWard) (wi : List (Int × Int × Int × Int)) (k i : Nat) (hk : k < rws.length) (hi : i < 16) : rwordV tv ck rws wi (16 * (k + 1) + i) = savedN rws[k].then_ i := by
  unfold rwordV
  rw [if_neg (by omega), if_neg (by omega), if_neg (by omega), if_pos (by omega), show (16 * (k + 1) + i) / 16 - 1 = k by omega, show (16 * (k + 1) + i) % 16 = i by omega, List.getElem?_eq_getElem hk]
  rfl

set_option maxRecDepth 100000 in
set_option maxHeartbeats 4000000 in
theorem rword_area (w : World) (Y : Nat) (gap mem ck tv : Int) (rws : List RWard) (wi : List (Int × Int × Int × Int)) (vW vI vD : Value) (nd : Nat) (h : NetAt w Y gap mem ck rws wi vW vI vD nd) (hl : rws.length ≤ 4)
    (k i : Nat) (hk : k < rws.length) (hi : i < 16) (a : Int) (ea : a = 16 * ((k : Int) + 1) + i) (ha : a < mem) :
    Calls Try.prog 47 #[.pointer (some ⟨Y, 0, none⟩), .int .i64 a] w fun e w' => e = .returned (.tuple #[.int .i64 (savedN rws[k].then_ i), .int .i64 0]) ∧ Fr (fun _ => False) w w' := by
  have c1 : w.cell? ⟨Y, 1, none⟩ = some (.int .i64 mem) := row_cell h.hy 1
  obtain ⟨g, c, rfl, -, hg⟩ := h.ow.form (by omega)
  have c2 : w.cell? ⟨Y, 2, none⟩ = some (.slice (some ⟨g, 0, none⟩) rws.length c) := row_cell h.hy 2
  have hn8 := (h.rg rws[k] (List.getElem_mem hk)).2.2
  have hn9 := (h.rg rws[k] (List.getElem_mem hk)).2.1
  obtain ⟨r0, r1, r2, r3, r4, r5, r6, r7, hr⟩ := st13 _ hn8
  have hthen := fun j => h.now k hk (16 + j)
  generalize rws[k] = y at *
  have hc : ∀ j, j < 13 → (rwardCells y)[16 + j]? = [Value.int .i64 r0, .int .i64 r1, .int .i64 r2, .int .i64 r3, .int .i64 r4, .int .i64 r5, .int .i64 r6, .int .i64 r7, .int .i64 y.then_.place, .int .i64 y.then_.status, .int .i64 y.then_.cause, .int .i64 y.then_.busy, .bool y.then_.y][j]? := by
    intro j hj
    have hnl : ([Value.int .i64 y.q, y.vR, y.vD] ++ stI y.now).length = 16 := by simp [stI, hn9]
    unfold rwardCells
    rw [List.getElem?_append_right (by omega), hnl, Nat.add_sub_cancel_left]
    simp [stI, hr]
  have k0 := (hthen 0 (by omega)).trans (hc 0 (by omega))
  have k1 := (hthen 1 (by omega)).trans (hc 1 (by omega))
  have k2 := (hthen 2 (by omega)).trans (hc 2 (by omega))
  have k3 := (hthen 3 (by omega)).trans (hc 3 (by omega))
  have k4 := (hthen 4 (by omega)).trans (hc 4 (by omega))
  have k5 := (hthen 5 (by omega)).trans (hc 5 (by omega))
  have k6 := (hthen 6 (by omega)).trans (hc 6 (by omega))
  have k7 := (hthen 7 (by omega)).trans (hc 7 (by omega))
  have k8 := (hthen 8 (by omega)).trans (hc 8 (by omega))
  have k9 := (hthen 9 (by omega)).trans (hc 9 (by omega))
  have k10 := (hthen 10 (by omega)).trans (hc 10 (by omega))
  have k11 := (hthen 11 (by omega)).trans (hc 11 (by omega))
  have k12 := (hthen 12 (by omega)).trans (hc 12 (by omega))
  simp only [Nat.reduceAdd, List.getElem?_cons_succ, List.getElem?_cons_zero] at k0 k1 k2 k3 k4 k5 k6 k7 k8 k9 k10 k11 k12
  have HS : Hid (savedN y.then_ i = savedN ⟨[r0, r1, r2, r3, r4, r5, r6, r7], y.then_.place, y.then_.status, y.then_.cause, y.then_.busy, y.then_.y⟩ i) := by simp [Hid, savedN, hr]
  have hdiv : a.tdiv 16 = (k : Int) + 1 := by rw [Int.tdiv_eq_ediv_of_nonneg (by omega)]; omega
  have hmod : a.tmod 16 = (i : Int) := by rw [Int.tmod_eq_emod_of_nonneg (by omega)]; omega
  have hsub : (k : Int) + 1 - 1 = k := by omega
  have hki : (k : Int) < (rws.length : Int) := by omega
  have e0 : 0 ≤ a := by omega
  have e1 : ¬ a = 0 := by omega
  have e2 : ¬ a = 1 := by omega
  have e3 : ¬ a < 16 := by omega
  have e4 : a < 16 * (1 + (rws.length : Int)) := by omega
  have e5 : ¬ mem ≤ a := by omega
  clear h hthen hc hr hn8 hn9 ea
  go_enter Try.func47, Try.ntmps47
  go_wp2_with fail
  refine (saved_any w ⟨[r0, r1, r2, r3, r4, r5, r6, r7], y.then_.place, y.then_.status, y.then_.cause, y.then_.busy, y.then_.y⟩ rfl i hi).mono ?_
  rintro e w1 ⟨rfl, hf⟩
  have HF := hid hf
  clear hf
  rw [← HS.out]
  go_wp2_with fail
  go_ret2
  exact ⟨rfl, HF.out⟩

set_option maxRecDepth 100000 in
set_option maxHeartbeats 4000000 in
theorem rword_cell (w : World) (Y : Nat) (gap mem ck tv : Int) (rws : List RWard) (wi : List (Int × Int × Int × Int)) (vW vI vD : Value) (nd : Nat) (h : NetAt w Y gap mem ck rws wi vW vI vD nd) (hl : rws.length ≤ 4) (hli : wi.length ≤ 8)
    (k i : Nat) (hk : k < wi.length) (hi : i < 2) (a : Int) (ea : a = 16 * (1 + (rws.length : Int)) + (2 * k + i)) (ha : a < mem) (x : Int × Int × Int × Int) (hx : wi[k]? = some x) :
    Calls Try.prog 47 #[.pointer (some ⟨Y, 0, none⟩), .int .i64 a] w fun e w' => e = .returned (.tuple #[.int .i64 (if i = 0 then x.2.2.1 else x.2.2.2), .int .i64 0]) ∧ Fr (fun _ => False) w w' := by
  have HH := hid h
  have c1 : w.cell? ⟨Y, 1, none⟩ = some (.int .i64 mem) := row_cell h.hy 1
  obtain ⟨a1, q1, rfl⟩ := owns_shape h.ow
  have c2 : w.cell? ⟨Y, 2, none⟩ = some (.slice a1 rws.length q1) := row_cell h.hy 2
  obtain ⟨g, c, rfl, -, hg⟩ := h.iw.form (by omega)
  have c3 : w.cell? ⟨Y, 3, none⟩ = some (.slice (some ⟨g, 0, none⟩) wi.length c) := row_cell h.hy 3
  have hcell : ∀ j, j < 4 → w.cell? ⟨g, k * 4 + j, none⟩ = (rwireCells x)[j]? := by
    intro j hj
    have : wi[k] = x := by rw [List.getElem?_eq_getElem hk] at hx; exact Option.some.inj hx
    rw [h.iw.cellAt (k * 4 + j) (by omega), flat_get rwireCells 4 (fun _ => rfl) wi k j hk hj, this]
  have d0 : w.cell? ⟨g, k * 4, none⟩ = some (.int .i64 x.1) := hcell 0 (by omega)
  have d1 : w.cell? ⟨g, k * 4 + 1, none⟩ = some (.int .i64 x.2.1) := hcell 1 (by omega)
  have d2 : w.cell? ⟨g, k * 4 + 2, none⟩ = some (.int .i64 x.2.2.1) := hcell 2 (by omega)
  have d3 : w.cell? ⟨g, k * 4 + 3, none⟩ = some (.int .i64 x.2.2.2) := hcell 3 (by omega)
  have hsub : a - 16 * (1 + (rws.length : Int)) = ((2 * k + i : Nat) : Int) := by omega
  have hdiv : ((2 * k + i : Nat) : Int).tdiv 2 = (k : Int) := by rw [Int.tdiv_eq_ediv_of_nonneg (by omega)]; omega
  have hmod : ((2 * k + i : Nat) : Int).tmod 2 = (i : Int) := by rw [Int.tmod_eq_emod_of_nonneg (by omega)]; omega
  have hki : (k : Int) < (wi.length : Int) := by omega
  have e0 : 0 ≤ a := by omega
  have e1 : ¬ a = 0 := by omega
  have e2 : ¬ a = 1 := by omega
  have e3 : ¬ a < 16 := by omega
  have e4 : ¬ a < 16 * (1 + (rws.length : Int)) := by omega
  have e5 : ¬ mem ≤ a := by omega
  have e6 : a < 16 * (1 + (rws.length : Int)) + 2 * (wi.length : Int) := by omega
  clear h hcell ea hx
  generalize 2 * k + i = z at *
  go_enter Try.func47, Try.ntmps47
  go_wp2_with fail
  refine (rkernel_any w Y _ _ _ _ _ _ _ _ _ HH.out hl hli).mono ?_
  rintro e w1 ⟨rfl, n, hn⟩
  clear HH
  have HF : Hid (Fr (fun _ => False) w w1) := by rw [hn]; exact (Fr.refl _ w).drewN n
  have c3' : w1.cell? ⟨Y, 3, none⟩ = some (.slice (some ⟨g, 0, none⟩) wi.length c) := by rw [hn]; exact c3
  have d0' : w1.cell? ⟨g, k * 4, none⟩ = some (.int .i64 x.1) := by rw [hn]; exact d0
  have d1' : w1.cell? ⟨g, k * 4 + 1, none⟩ = some (.int .i64 x.2.1) := by rw [hn]; exact d1
  have d2' : w1.cell? ⟨g, k * 4 + 2, none⟩ = some (.int .i64 x.2.2.1) := by rw [hn]; exact d2
  have d3' : w1.cell? ⟨g, k * 4 + 3, none⟩ = some (.int .i64 x.2.2.2) := by rw [hn]; exact d3
  clear hn c1 c2 c3 d0 d1 d2 d3
  have hi2 : i = 0 ∨ i = 1 := by omega
  rcases hi2 with rfl | rfl
  · go_wp2_with fail
    go_ret2
    exact ⟨rfl, HF.out.alloc _⟩
  · go_wp2_with fail
    go_ret2
    exact ⟨rfl, HF.out.alloc _⟩

end Go.Proofs.Ythmcheoehcmglaa
