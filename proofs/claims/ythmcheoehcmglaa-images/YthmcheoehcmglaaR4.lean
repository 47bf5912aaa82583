/- The reference's View. -/
import Derived.Test.YthmcheoehcmglaaR3
namespace Go.Proofs.Ythmcheoehcmglaa
open Go.RowKit
set_option linter.unusedVariables false
attribute [local go_sem ↓] Go.wp_at_zero Go.wp_at_succ

def noSt' : StV := ⟨[0, 0, 0, 0, 0, 0, 0, 0], 0, 0, 0, 0, false⟩

theorem flat_getM {α : Type} (f : α → List Value) (m : Nat) : ∀ (xs : List α), (∀ x ∈ xs, (f x).length = m) → ∀ (k c : Nat) (hk : k < xs.length), c < m → (xs.flatMap f)[k * m + c]? = (f xs[k])[c]? := by
  intro xs
  induction xs with
  | nil => intro _ k c hk; simp at hk
  | cons x xs ih =>
    intro h8 k c hk hc
    have hx : (f x).length = m := h8 x (by simp)
    cases k with
    | zero =>
      simp only [List.flatMap_cons, Nat.zero_mul, Nat.zero_add, List.getElem_cons_zero]
      rw [List.getElem?_append_left (by rw [hx]; exact hc)]
    | succ k =>
      simp only [List.flatMap_cons, List.getElem_cons_succ]
      rw [List.getElem?_append_right (by rw [hx, Nat.succ_mul]; omega), hx, ← ih (fun y hy => h8 y (by simp [hy])) k c (by simpa using hk) hc]
      congr 1
      rw [Nat.succ_mul]
      omega

theorem rward_len (y : RWard) (h : y.now.regs.length = 8 ∧ y.then_.regs.length = 8) : (rwardCells y).length = 29 := by simp [rwardCells, stI, h.1, h.2]

/-- The cells of a ward's state in the net. -/
theorem NetAt.now {w : World} {Y : Nat} {gap mem ck : Int} {rws : List RWard} {wi : List (Int × Int × Int × Int)} {g c : Nat} {vI vD : Value} {nd : Nat} (h : NetAt w Y gap mem ck rws wi (.slice (some ⟨g, 0, none⟩) rws.length c) vI vD nd) (k : Nat) (hk : k < rws.length) (j : Nat) (hj : j < 29) :
    w.cell? ⟨g, k * 29 + j, none⟩ = (rwardCells rws[k])[j]? := by
  rw [h.ow.cellAt (k * 29 + j) (by omega), flat_getM rwardCells 29 rws (fun y hy => rward_len y (h.rg y hy).2) k j hk hj]

set_option maxRecDepth 100000 in
set_option maxHeartbeats 2000000 in
theorem rview_no (w : World) (Y : Nat) (gap mem ck : Int) (rws : List RWard) (wi : List (Int × Int × Int × Int)) (vW vI vD : Value) (nd : Nat) (h : NetAt w Y gap mem ck rws wi vW vI vD nd) (k : Int) (hk : hasB rws.length k = false) :
    Calls Try.prog 48 #[.pointer (some ⟨Y, 0, none⟩), .int .i64 k] w fun e w' => e = .returned (.tuple #[.agg (stI noSt').toArray, .int .i64 4]) ∧ Fr (fun _ => False) w w' := by
  obtain ⟨a1, q1, rfl⟩ := owns_shape h.ow
  have c2 : w.cell? ⟨Y, 2, none⟩ = some (.slice a1 rws.length q1) := row_cell h.hy 2
  have hY := lt_of_get h.hy
  have hYn : Y ≠ w.heap.size := by omega
  clear h
  by_cases h0 : k < 0
  · clear hk
    go_enter Try.func48, Try.ntmps48
    go_wp2_with fail
    refine bodyPost_ret (v := .tuple #[.agg (stI noSt').toArray, .int .i64 4]) ?_ rfl ⟨rfl, (Fr.refl _ w).alloc _⟩
    simp [results, Try.results48, go_sem, stI, noSt']
  · have h1 : (rws.length : Int) ≤ k := by simp [hasB] at hk; omega
    clear hk
    go_enter Try.func48, Try.ntmps48
    go_wp2_with fail
    refine bodyPost_ret (v := .tuple #[.agg (stI noSt').toArray, .int .i64 4]) ?_ rfl ⟨rfl, (Fr.refl _ w).alloc _⟩
    simp [results, Try.results48, go_sem, stI, noSt']

set_option maxRecDepth 100000 in
set_option maxHeartbeats 4000000 in
theorem rview_yes (w : World) (Y : Nat) (gap mem ck : Int) (rws : List RWard) (wi : List (Int × Int × Int × Int)) (vW vI vD : Value) (nd : Nat) (h : NetAt w Y gap mem ck rws wi vW vI vD nd) (k : Nat) (hk : k < rws.length) :
    Calls Try.prog 48 #[.pointer (some ⟨Y, 0, none⟩), .int .i64 k] w fun e w' => e = .returned (.tuple #[.agg (stI rws[k].now).toArray, .int .i64 0]) ∧ Fr (fun _ => False) w w' := by
  obtain ⟨g, c, rfl, -, hg⟩ := h.ow.form (by omega)
  have c2 : w.cell? ⟨Y, 2, none⟩ = some (.slice (some ⟨g, 0, none⟩) rws.length c) := row_cell h.hy 2
  have hY := lt_of_get h.hy
  have hn8 := (h.rg rws[k] (List.getElem_mem hk)).2.1
  obtain ⟨r0, r1, r2, r3, r4, r5, r6, r7, hr⟩ := st13 _ hn8
  have hnow := fun j => h.now k hk (3 + j)
  generalize rws[k] = y at *
  have hc : rwardCells y = [.int .i64 y.q, y.vR, y.vD] ++ ([.int .i64 r0, .int .i64 r1, .int .i64 r2, .int .i64 r3, .int .i64 r4, .int .i64 r5, .int .i64 r6, .int .i64 r7, .int .i64 y.now.place, .int .i64 y.now.status, .int .i64 y.now.cause, .int .i64 y.now.busy, .bool y.now.y] ++ stI y.then_) := by simp [rwardCells, stI, hr]
  rw [hc] at hnow
  have k0 := hnow 0 (by omega)
  have k1 := hnow 1 (by omega)
  have k2 := hnow 2 (by omega)
  have k3 := hnow 3 (by omega)
  have k4 := hnow 4 (by omega)
  have k5 := hnow 5 (by omega)
  have k6 := hnow 6 (by omega)
  have k7 := hnow 7 (by omega)
  have k8 := hnow 8 (by omega)
  have k9 := hnow 9 (by omega)
  have k10 := hnow 10 (by omega)
  have k11 := hnow 11 (by omega)
  have k12 := hnow 12 (by omega)
  simp only [List.cons_append, List.nil_append, Nat.reduceAdd, List.getElem?_cons_succ, List.getElem?_cons_zero] at k0 k1 k2 k3 k4 k5 k6 k7 k8 k9 k10 k11 k12
  have HSC : Hid (stI y.now = [.int .i64 r0, .int .i64 r1, .int .i64 r2, .int .i64 r3, .int .i64 r4, .int .i64 r5, .int .i64 r6, .int .i64 r7, .int .i64 y.now.place, .int .i64 y.now.status, .int .i64 y.now.cause, .int .i64 y.now.busy, .bool y.now.y]) := by simp [Hid, stI, hr]
  have hki : (k : Int) < (rws.length : Int) := by omega
  have hki2 : ¬ (rws.length : Int) ≤ (k : Int) := by omega
  clear h hnow hc hr hn8
  go_enter Try.func48, Try.ntmps48
  go_wp2_with fail
  refine bodyPost_ret (v := .tuple #[.agg #[.int .i64 r0, .int .i64 r1, .int .i64 r2, .int .i64 r3, .int .i64 r4, .int .i64 r5, .int .i64 r6, .int .i64 r7, .int .i64 y.now.place, .int .i64 y.now.status, .int .i64 y.now.cause, .int .i64 y.now.busy, .bool y.now.y], .int .i64 0]) ?_ rfl ⟨by rw [HSC.out], (Fr.refl _ w).alloc _⟩
  simp [results, Try.results48, go_sem]

end Go.Proofs.Ythmcheoehcmglaa
