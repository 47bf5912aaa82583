/- A plan in memory, and the small functions over it. -/
import Derived.Test.YthmcheoehcmglaaW6
import Derived.BigQuiet
import Derived.Deep.QuietTactic
namespace Go.Proofs.Ythmcheoehcmglaa
open Go.RowKit
set_option linter.unusedVariables false
attribute [local go_sem ↓] Go.wp_at_zero Go.wp_at_succ

/-- Of rows of m cells each, the c-th cell of the k-th. -/
theorem flat_get {α : Type} (f : α → List Value) (m : Nat) (hf : ∀ x, (f x).length = m) : ∀ (xs : List α) (k c : Nat) (hk : k < xs.length), c < m → (xs.flatMap f)[k * m + c]? = (f xs[k])[c]? := by
  intro xs
  induction xs with
  | nil => intro k c hk; simp at hk
  | cons x xs ih =>
    intro k c hk hc
    cases k with
    | zero =>
      simp only [List.flatMap_cons, Nat.zero_mul, Nat.zero_add, List.getElem_cons_zero]
      rw [List.getElem?_append_left (by rw [hf]; exact hc)]
    | succ k =>
      simp only [List.flatMap_cons, List.getElem_cons_succ]
      rw [List.getElem?_append_right (by rw [hf, Nat.succ_mul]; omega), hf, ← ih k c (by simpa using hk) hc]
      congr 1
      rw [Nat.succ_mul]
      omega

theorem owns_cell {w : World} {base e size n g cap : Nat} {xs : List Value} (h : w.ownsRow base e size (.slice (some ⟨g, 0, none⟩) n cap) n xs) (j : Nat) (hj : j < n * size) : w.cell? ⟨g, j, none⟩ = xs[j]? := h.cellAt j hj

/-- A plan lies in block G. -/
structure PlanAt (w : World) (G base : Nat) (gap mem : Int) (ws : List WardV) (wi : List (Int × Int)) (ow : List Int) (vW vI vO : Value) : Prop where
  g : w.heap[G]? = some (.cells #[.int .i64 gap, .int .i64 mem, vW, vI, vO] 58 (0, 0))
  ws : WardsAt w base vW ws
  wi : w.ownsRow base 143 2 vI wi.length (wi.flatMap wireCells)
  ow : w.ownsRow base 3 1 vO ow.length (ow.map (Value.int .i64))

theorem Fr.ownsF {w w' : World} (h : Fr (fun _ => False) w w') (e : TypeId) : Owns w w' e := fun ho => h.owns ho (fun _ _ hf => hf)

theorem PlanAt.fr {w w' : World} {G base : Nat} {gap mem : Int} {ws : List WardV} {wi : List (Int × Int)} {ow : List Int} {vW vI vO : Value} (h : PlanAt w G base gap mem ws wi ow vW vI vO) (hf : Fr (fun _ => False) w w') : PlanAt w' G base gap mem ws wi ow vW vI vO :=
  ⟨hf.get h.g id, h.ws.carry (hf.ownsF _) (hf.ownsF _) (hf.ownsF _), hf.ownsF _ h.wi, hf.ownsF _ h.ow⟩

theorem WardsAt.shape {w : World} {base : Nat} {v : Value} {ws : List WardV} (h : WardsAt w base v ws) : ∃ ao c, v = .slice ao ws.length c := by
  obtain ⟨xs, rfl, ho, _⟩ := h
  simpa using owns_shape ho

set_option maxRecDepth 100000 in
set_option maxHeartbeats 1000000 in
theorem has_any (G base : Nat) (k : Int) (w : World) {gap mem : Int} {ws : List WardV} {wi : List (Int × Int)} {ow : List Int} {vW vI vO : Value} (h : PlanAt w G base gap mem ws wi ow vW vI vO) :
    Calls Try.prog 66 #[.pointer (some ⟨G, 0, none⟩), .int .i64 k] w fun e w' => e = .returned (.bool (decide (0 ≤ k) && decide (k < ws.length))) ∧ w' = w := by
  obtain ⟨ao, c, rfl⟩ := h.ws.shape
  have c2 : w.cell? ⟨G, 2, none⟩ = some (.slice ao ws.length c) := row_cell h.g 2
  clear h
  by_cases h1 : 0 ≤ k
  · go_enter Try.func66, Try.ntmps66
    go_wp2
    all_goals go_ret
    all_goals exact ⟨ret_bool (by simp [h1]), rfl⟩
  · go_enter Try.func66, Try.ntmps66
    go_wp2
    all_goals go_ret
    all_goals exact ⟨ret_bool (by simp; omega), rfl⟩

def ovl (a ca b cb : Int) : Bool := decide (a < b + cb) && decide (b < a + ca)

set_option maxRecDepth 100000 in
set_option maxHeartbeats 1000000 in
theorem overlap_any (a ca b cb : Int) (w : World) (h1 : 0 ≤ a) (h2 : a ≤ 65535) (h3 : 0 ≤ ca) (h4 : ca ≤ 65535) (h5 : 0 ≤ b) (h6 : b ≤ 65535) (h7 : 0 ≤ cb) (h8 : cb ≤ 65535) :
    Calls Try.prog 79 #[.int .i64 a, .int .i64 ca, .int .i64 b, .int .i64 cb] w fun e w' => e = .returned (.bool (ovl a ca b cb)) ∧ w' = w := by
  unfold ovl
  by_cases hl : a < b + cb
  · go_enter Try.func79, Try.ntmps79
    go_wp2
    all_goals go_ret
    all_goals exact ⟨ret_bool (by simp [*]), rfl⟩
  · go_enter Try.func79, Try.ntmps79
    go_wp2
    all_goals go_ret
    all_goals exact ⟨ret_bool (by simp; omega), rfl⟩

set_option maxRecDepth 100000 in
set_option maxHeartbeats 1000000 in
theorem area_num (k : Int) (w : World) (h0 : 0 ≤ k) (h1 : k ≤ 1000000) :
    Calls Try.prog 67 #[.int .i64 k] w fun e w' => e = .returned (.int .i64 (16 + 16 * k)) ∧ w' = w := by
  go_enter Try.func67, Try.ntmps67
  go_wp2
  go_ret
  exact ⟨rfl, rfl⟩

set_option maxRecDepth 100000 in
set_option maxHeartbeats 1000000 in
theorem kernel_num (k j : Int) (w : World) (h0 : 0 ≤ k) (h1 : k ≤ 1000000) (h2 : 0 ≤ j) (h3 : j ≤ 1000000) :
    Calls Try.prog 62 #[.int .i64 k, .int .i64 j] w fun e w' => e = .returned (.int .i64 (16 + 16 * k + 2 * j)) ∧ w' = w := by
  go_enter Try.func62, Try.ntmps62
  go_wp2
  go_ret
  exact ⟨rfl, rfl⟩

end Go.Proofs.Ythmcheoehcmglaa
