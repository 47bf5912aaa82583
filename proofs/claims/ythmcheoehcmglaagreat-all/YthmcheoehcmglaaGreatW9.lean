/- A plan in memory, and the small functions over it. -/
import Derived.Test.YthmcheoehcmglaaGreatW6
import Derived.BigQuiet
import Derived.Deep.QuietTactic
namespace Go.Proofs.YthmcheoehcmglaaGreat
open Go.RowKit
set_option linter.unusedVariables false
attribute [local go_sem ↓] Go.wp_at_zero Go.wp_at_succ

/-- Of rows of m cells each, the c-th cell of the k-th. -/
theorem flat_get {α : Type} (f : α → List Value) (m : Nat) (hf : ∀ x, (f x).length = m) : ∀ (xs : List α) (k c : Nat) (hk : k < xs.length), c < m → (xs.flatMap f)[k * m + c]? = (f xs[k])[c]? := by
  intro xs
  induction xs with
  | nil => intro k c hk; simp at hk
  | cons x xs ih =>
    intro k c hk hc
    cases k with
    | zero =>
      simp only [List.flatMap_cons, Nat.zero_mul, Nat.zero_add, List.getElem_cons_zero]
      rw [List.getElem?_append_left (by rw [hf]; exact hc)]
    | succ k =>
      simp only [List.flatMap_cons, List.getElem_cons_succ]
      rw [List.getElem?_append_right (by rw [hf, Nat.succ_mul]; omega), hf, ← ih k c (by simpa using hk) hc]
      congr 1
      rw [Nat.succ_mul]
      omega

theorem owns_cell {w : World} {base e size n g cap : Nat} {xs : List Value} (h : w.ownsRow base e size (.slice (some ⟨g, 0, none⟩) n cap) n xs) (j : Nat) (hj : j < n * size) : w.cell? ⟨g, j, none⟩ = xs[j]? := h.cellAt j hj

/-- A plan lies in block G. -/
structure PlanAt (w : World) (G base : Nat) (gap mem : Int) (ws : List WardV) (wi : List (Int × Int)) (ow : List Int) (vW vI vO : Value) : Prop where
  g : w.heap[G]? = some (.cells #[.int .i64 gap, .int .i64 mem, vW, vI, vO] 112 (0, 0))
  ws : WardsAt w base vW ws
  wi : w.ownsRow base 177 2 vI wi.length (wi.flatMap wireCells)
  ow : w.ownsRow base 3 1 vO ow.length (ow.map (Value.int .i64))

theorem Fr.ownsF {w w' : World} (h : Fr (fun _ => False) w w') (e : TypeId) : Owns w w' e := fun ho => h.owns ho (fun _ _ hf => hf)

theorem PlanAt.fr {w w' : World} {G base : Nat} {gap mem : Int} {ws : List WardV} {wi : List (Int × Int)} {ow : List Int} {vW vI vO : Value} (h : PlanAt w G base gap mem ws wi ow vW vI vO) (hf : Fr (fun _ => False) w w') : PlanAt w' G base gap mem ws wi ow vW vI vO :=
  ⟨hf.get h.g id, h.ws.carry (hf.ownsF _) (hf.ownsF _) (hf.ownsF _), hf.ownsF _ h.wi, hf.ownsF _ h.ow⟩

theorem WardsAt.shape {w : World} {base : Nat} {v : Value} {ws : List WardV} (h : WardsAt w base v ws) : ∃ ao c, v = .slice ao ws.length c := by
  obtain ⟨xs, rfl, ho, _⟩ := h
  simpa using owns_shape ho

set_option maxRecDepth 100000 in
set_option maxHeartbeats 1000000 in
theorem has_any (G base : Nat) (k : Int) (w : World) {gap mem : Int} {ws : List WardV} {wi : List (Int × Int)} {ow : List Int} {vW vI vO : Value} (h : PlanAt w G base gap mem ws wi ow vW vI vO) :
    Calls Tryz.prog 102 #[.pointer (some ⟨G, 0, none⟩), .int .i64 k] w fun e w' => e = .returned (.bool (decide (0 ≤ k) && decide (k < ws.length))) ∧ w' = w := by
  obtain ⟨ao, c, rfl⟩ := h.ws.shape
  have c2 : w.cell? ⟨G, 2, none⟩ = some (.slice ao ws.length c) := row_cell h.g 2
  clear h
  by_cases h1 : 0 ≤ k
  · go_enter Tryz.func102, Tryz.ntmps102
    go_wp2
    all_goals go_ret
    all_goals exact ⟨ret_bool (by simp [h1]), rfl⟩
  · go_enter Tryz.func102, Tryz.ntmps102
    go_wp2
    all_goals go_ret
    all_goals exact ⟨ret_bool (by simp; omega), rfl⟩

def ovl (a ca b cb : Int) : Bool := decide (a < b + cb) && decide (b < a + ca)

set_option maxRecDepth 100000 in
set_option maxHeartbeats 1000000 in
theorem overlap_any (a ca b cb : Int) (w : World) (h1 : 0 ≤ a) (h2 : a ≤ 65535) (h3 : 0 ≤ ca) (h4 : ca ≤ 65535) (h5 : 0 ≤ b) (h6 : b ≤ 65535) (h7 : 0 ≤ cb) (h8 : cb ≤ 65535) :
    Calls Tryz.prog 113 #[.int .i64 a, .int .i64 ca, .int .i64 b, .int .i64 cb] w fun e w' => e = .returned (.bool (ovl a ca b cb)) ∧ w' = w := by
  unfold ovl
  by_cases hl : a < b + cb
  · go_enter Tryz.func113, Tryz.ntmps113
    go_wp2
    all_goals go_ret
    all_goals exact ⟨ret_bool (by simp [*]), rfl⟩
  · go_enter Tryz.func113, Tryz.ntmps113
    go_wp2
    all_goals go_ret
    all_goals exact ⟨ret_bool (by simp; omega), rfl⟩

set_option maxRecDepth 100000 in
set_option maxHeartbeats 1000000 in
theorem area_num (k : Int) (w : World) (h0 : 0 ≤ k) (h1 : k ≤ 1000000) :
    Calls Tryz.prog 92 #[.int .i64 k] w fun e w' => e = .returned (.int .i64 (16 + 16 * k)) ∧ w' = w := by
  go_enter Tryz.func92, Tryz.ntmps92
  go_wp2
  go_ret
  exact ⟨rfl, rfl⟩

set_option maxRecDepth 100000 in
set_option maxHeartbeats 1000000 in
theorem kernel_num (k j : Int) (w : World) (h0 : 0 ≤ k) (h1 : k ≤ 1000000) (h2 : 0 ≤ j) (h3 : j ≤ 1000000) :
    Calls Tryz.prog 98 #[.int .i64 k, .int .i64 j] w fun e w' => e = .returned (.int .i64 (16 + 16 * k + 2 * j)) ∧ w' = w := by
  go_enter Tryz.func98, Tryz.ntmps98
  go_wp2
  go_ret
  exact ⟨rfl, rfl⟩

end Go.Proofs.YthmcheoehcmglaaGreat
/- Two regions held against one another; wires and devices. -/
namespace Go.Proofs.YthmcheoehcmglaaGreat
open Go.RowKit
set_option linter.unusedVariables false
attribute [local go_sem ↓] Go.wp_at_zero Go.wp_at_succ

/-- A region with the number of its ward, in bounds. -/
def OwnedOk (r : (Int × Int × Int × Int) × Int) : Prop := 0 ≤ r.1.1 ∧ r.1.1 ≤ 65535 ∧ 0 ≤ r.1.2.1 ∧ r.1.2.1 ≤ 65535 ∧ 0 ≤ r.1.2.2.1 ∧ r.1.2.2.1 ≤ 65535
def ownCells (r : (Int × Int × Int × Int) × Int) : List Value := [.int .i64 r.1.1, .int .i64 r.1.2.1, .int .i64 r.1.2.2.1, .int .i64 r.1.2.2.2, .int .i64 r.2]
def shAddr (a b : (Int × Int × Int × Int) × Int) : Bool := (a.2 == b.2) && ovl a.1.1 a.1.2.1 b.1.1 b.1.2.1
def shWord (a b : (Int × Int × Int × Int) × Int) : Bool := ovl a.1.2.2.1 a.1.2.1 b.1.2.2.1 b.1.2.1

set_option maxRecDepth 100000 in
set_option maxHeartbeats 1000000 in
theorem sharesAddress_any (a b : (Int × Int × Int × Int) × Int) (w : World) (ha : OwnedOk a) (hb : OwnedOk b) :
    Calls Tryz.prog 100 #[.agg #[.int .i64 a.1.1, .int .i64 a.1.2.1, .int .i64 a.1.2.2.1, .int .i64 a.1.2.2.2, .int .i64 a.2], .agg #[.int .i64 b.1.1, .int .i64 b.1.2.1, .int .i64 b.1.2.2.1, .int .i64 b.1.2.2.2, .int .i64 b.2]] w fun e w' => e = .returned (.bool (shAddr a b)) ∧ Fr (fun _ => False) w w' := by
  obtain ⟨a1, a2, a3, a4, a5, a6⟩ := ha
  obtain ⟨b1, b2, b3, b4, b5, b6⟩ := hb
  by_cases hw : a.2 = b.2
  · have hw' : (a.2 == b.2) = true := by simp [hw]
    have HS : Hid (shAddr a b = ovl a.1.1 a.1.2.1 b.1.1 b.1.2.1) := by simp [Hid, shAddr, hw]
    clear hw
    go_enter Tryz.func100, Tryz.ntmps100
    go_wp2_with (go_at_call 113; refine (overlap_any _ _ _ _ _ (by omega) (by omega) (by omega) (by omega) (by omega) (by omega) (by omega) (by omega)).mono ?_; rintro e w1 ⟨rfl, rfl⟩)
    go_ret
    exact ⟨ret_bool HS.out.symm, ((Fr.refl _ _).alloc _).alloc _⟩
  · have hw' : (a.2 == b.2) = false := by simp [hw]
    have HS : Hid (shAddr a b = false) := by simp [Hid, shAddr, hw]
    clear hw
    go_enter Tryz.func100, Tryz.ntmps100
    go_wp2_with fail
    go_ret
    exact ⟨ret_bool HS.out.symm, ((Fr.refl _ _).alloc _).alloc _⟩

set_option maxRecDepth 100000 in
set_option maxHeartbeats 1000000 in
theorem sharesWord_any (a b : (Int × Int × Int × Int) × Int) (w : World) (ha : OwnedOk a) (hb : OwnedOk b) :
    Calls Tryz.prog 101 #[.agg #[.int .i64 a.1.1, .int .i64 a.1.2.1, .int .i64 a.1.2.2.1, .int .i64 a.1.2.2.2, .int .i64 a.2], .agg #[.int .i64 b.1.1, .int .i64 b.1.2.1, .int .i64 b.1.2.2.1, .int .i64 b.1.2.2.2, .int .i64 b.2]] w fun e w' => e = .returned (.bool (shWord a b)) ∧ Fr (fun _ => False) w w' := by
  obtain ⟨a1, a2, a3, a4, a5, a6⟩ := ha
  obtain ⟨b1, b2, b3, b4, b5, b6⟩ := hb
  unfold shWord
  go_enter Tryz.func101, Tryz.ntmps101
  go_wp2_with (go_at_call 113; refine (overlap_any _ _ _ _ _ (by omega) (by omega) (by omega) (by omega) (by omega) (by omega) (by omega) (by omega)).mono ?_; rintro e w1 ⟨rfl, rfl⟩)
  go_ret
  exact ⟨rfl, ((Fr.refl _ _).alloc _).alloc _⟩

/-- Is there a ward of this number among n? -/
def hasB (n : Nat) (k : Int) : Bool := decide (0 ≤ k) && decide (k < n)
def wireOk (n : Nat) (x : Int × Int) : Bool := hasB n x.1 && hasB n x.2 && !(x.1 == x.2)

theorem all_take {α : Type} (p : α → Bool) (xs : List α) (k : Nat) (hk : k < xs.length) : (xs.take (k + 1)).all p = ((xs.take k).all p && p xs[k]) := by
  rw [List.take_succ_eq_append_getElem hk, List.all_append]
  simp only [List.all_cons, List.all_nil, Bool.and_true]

set_option maxRecDepth 100000 in
set_option maxHeartbeats 1000000 in
theorem devicesFit_any (G base : Nat) (w : World) {gap mem : Int} {ws : List WardV} {wi : List (Int × Int)} {ow : List Int} {vW vI vO : Value} (h : PlanAt w G base gap mem ws wi ow vW vI vO) (hl : ow.length ≤ 8) :
    Calls Tryz.prog 72 #[.pointer (some ⟨G, 0, none⟩)] w fun e w' => e = .returned (.bool (ow.all (hasB ws.length))) ∧ w' = w := by
  obtain ⟨ao, c, rfl⟩ := owns_shape h.ow
  have c4 : w.cell? ⟨G, 4, none⟩ = some (.slice ao ow.length c) := row_cell h.g 4
  go_enter Tryz.func72, Tryz.ntmps72
  go_wp2_with fail
  go_loop [10] (fun i => ∃ k : Nat, k ≤ ow.length ∧ i = .int .i64 k ∧ (ow.take k).all (hasB ws.length) = true) (fun i => ow.length - (intOf i).toNat)
  case atStart => exact ⟨0, Nat.zero_le _, rfl, by simp⟩
  case round =>
    obtain ⟨k, hk, rfl, hall⟩ := hrel
    have HA := (show Hid _ from hall)
    clear hall
    by_cases hlt : k < ow.length
    · obtain ⟨gv, cp, hv, _, _⟩ := h.ow.form (by omega)
      simp only [Value.slice.injEq] at hv
      obtain ⟨rfl, _, rfl⟩ := hv
      have ck : w.cell? ⟨gv, k, none⟩ = some (.int .i64 ow[k]) := by
        rw [h.ow.cellAt k (by omega)]; simp [hlt]
      have hat := all_take (hasB ws.length) ow k hlt
      have HAT := (show Hid _ from hat)
      clear hat
      cases hh : hasB ws.length ow[k]
      · go_wp2_with (go_at_call 102; refine (has_any G base _ _ h).mono ?_; rintro e w1 ⟨rfl, rfl⟩; rw [show (decide (0 ≤ ow[k]) && decide (ow[k] < (ws.length : Int))) = hasB ws.length ow[k] from rfl, hh])
        go_ret
        refine ⟨ret_bool ?_, rfl⟩
        symm
        rw [List.all_eq_false]
        exact ⟨ow[k], List.getElem_mem hlt, by rw [hh]; simp⟩
      · have HH := (show Hid _ from hh)
        go_wp2_with (go_at_call 102; refine (has_any G base _ _ h).mono ?_; rintro e w1 ⟨rfl, rfl⟩; rw [show (decide (0 ≤ ow[k]) && decide (ow[k] < (ws.length : Int))) = hasB ws.length ow[k] from rfl, hh])
        go_round
        case rel => exact ⟨k + 1, by omega, by go_num, by rw [HAT.out, HA.out, HH.out]; rfl⟩
        case measure => simp [intOf]; omega
    · obtain rfl : k = ow.length := by omega
      go_wp2_with fail
      go_ret
      refine ⟨ret_bool ?_, rfl⟩
      have := HA.out
      rw [List.take_length] at this
      exact this.symm

theorem any_false {α : Type} (p : α → Bool) (xs : List α) (k : Nat) (hk : k < xs.length) (h : p xs[k] = false) : false = xs.all p := by
  symm
  rw [List.all_eq_false]
  exact ⟨xs[k], List.getElem_mem hk, by rw [h]; simp⟩

set_option maxRecDepth 100000 in
set_option maxHeartbeats 2000000 in
theorem wiresFit_any (G base : Nat) (w : World) {gap mem : Int} {ws : List WardV} {wi : List (Int × Int)} {ow : List Int} {vW vI vO : Value} (h : PlanAt w G base gap mem ws wi ow vW vI vO) (hl : wi.length ≤ 8) :
    Calls Tryz.prog 71 #[.pointer (some ⟨G, 0, none⟩)] w fun e w' => e = .returned (.bool (wi.all (wireOk ws.length))) ∧ Fr (fun _ => False) w w' := by
  obtain ⟨ao, c, rfl⟩ := owns_shape h.wi
  have c4 : w.cell? ⟨G, 3, none⟩ = some (.slice ao wi.length c) := row_cell h.g 3
  go_enter Tryz.func71, Tryz.ntmps71
  go_wp2_with fail
  go_loopw [10] (fun i wr => ∃ k : Nat, k ≤ wi.length ∧ i = .int .i64 k ∧ (wi.take k).all (wireOk ws.length) = true ∧ Fr (fun _ => False) w wr) (fun i _ => wi.length - (intOf i).toNat)
  case atStart => exact ⟨0, Nat.zero_le _, rfl, by simp, Fr.refl _ _⟩
  case round =>
    obtain ⟨k, hk, rfl, hall, hF⟩ := hrel
    have HA := (show Hid _ from hall)
    clear hall c4
    have hP := h.fr hF
    by_cases hlt : k < wi.length
    · obtain ⟨gv, cp, hv, _, _⟩ := hP.wi.form (by omega)
      simp only [Value.slice.injEq] at hv
      obtain ⟨rfl, _, rfl⟩ := hv
      have ck0 : wr.cell? ⟨gv, k * 2, none⟩ = some (.int .i64 wi[k].1) := by
        have := flat_get wireCells 2 (fun _ => rfl) wi k 0 hlt (by omega)
        rw [hP.wi.cellAt (k * 2) (by omega)]
        simpa [wireCells] using this
      have ck1 : wr.cell? ⟨gv, k * 2 + 1, none⟩ = some (.int .i64 wi[k].2) := by
        have := flat_get wireCells 2 (fun _ => rfl) wi k 1 hlt (by omega)
        rw [hP.wi.cellAt (k * 2 + 1) (by omega)]
        simpa [wireCells] using this
      have HAT := (show Hid _ from all_take (wireOk ws.length) wi k hlt)
      have HNO := (show Hid _ from any_false (wireOk ws.length) wi k hlt)
      have hP2 : ∀ o, PlanAt (wr.alloc o) G base gap mem ws wi ow vW (.slice (some ⟨gv, 0, none⟩) wi.length c) vO := fun o => hP.fr ((Fr.refl _ wr).alloc o)
      have HP2 := (show Hid _ from hP2)
      have HH := (show Hid _ from h)
      have HHP := (show Hid _ from hP)
      clear h hP hP2
      cases h1 : hasB ws.length wi[k].1
      · have HW : Hid (wireOk ws.length wi[k] = false) := by simp [Hid, wireOk, h1]
        go_wp2_with (go_at_call 102; refine (has_any G base _ _ (HP2.out _)).mono ?_; rintro e w1 ⟨rfl, rfl⟩; rw [show (decide (0 ≤ wi[k].1) && decide (wi[k].1 < (ws.length : Int))) = hasB ws.length wi[k].1 from rfl, h1])
        go_ret
        exact ⟨ret_bool (HNO.out HW.out), hF.alloc _⟩
      · go_wp2_with fail
        refine (has_any G base _ _ (HP2.out _)).mono ?_
        rintro e w1 ⟨rfl, rfl⟩
        rw [show (decide (0 ≤ wi[k].1) && decide (wi[k].1 < (ws.length : Int))) = hasB ws.length wi[k].1 from rfl, h1]
        cases h2 : hasB ws.length wi[k].2
        · have HW : Hid (wireOk ws.length wi[k] = false) := by simp [Hid, wireOk, h2]
          go_wp2_with fail
          refine (has_any G base _ _ (HP2.out _)).mono ?_
          rintro e w1 ⟨rfl, rfl⟩
          rw [show (decide (0 ≤ wi[k].2) && decide (wi[k].2 < (ws.length : Int))) = hasB ws.length wi[k].2 from rfl, h2]
          go_wp2_with fail
          go_ret
          exact ⟨ret_bool (HNO.out HW.out), hF.alloc _⟩
        · go_wp2_with fail
          refine (has_any G base _ _ (HP2.out _)).mono ?_
          rintro e w1 ⟨rfl, rfl⟩
          rw [show (decide (0 ≤ wi[k].2) && decide (wi[k].2 < (ws.length : Int))) = hasB ws.length wi[k].2 from rfl, h2]
          cases h3 : (wi[k].1 == wi[k].2)
          · have HW : Hid (wireOk ws.length wi[k] = true) := by simp [Hid, wireOk, h1, h2, h3]
            go_wp2_with fail
            go_roundw
            case rel => exact ⟨k + 1, by omega, by go_num, by rw [HAT.out, HA.out, HW.out]; rfl, hF.alloc _⟩
            case measure => simp [intOf]; omega
          · have HW : Hid (wireOk ws.length wi[k] = false) := by simp [Hid, wireOk, h1, h2, h3]
            go_wp2_with fail
            go_ret
            exact ⟨ret_bool (HNO.out HW.out), hF.alloc _⟩
    · obtain rfl : k = wi.length := by omega
      go_wp2_with fail
      go_ret
      refine ⟨ret_bool ?_, hF⟩
      have := HA.out
      rw [List.take_length] at this
      exact this.symm

end Go.Proofs.YthmcheoehcmglaaGreat
/- The list of all regions. -/
namespace Go.Proofs.YthmcheoehcmglaaGreat
open Go.RowKit
set_option linter.unusedVariables false
attribute [local go_sem ↓] Go.wp_at_zero Go.wp_at_succ

/-- The regions of the first k wards, each with its ward's number. -/
def ownedN (ws : List WardV) : Nat → List ((Int × Int × Int × Int) × Int)
  | 0 => []
  | k + 1 => ownedN ws k ++ ((ws[k]?.map (·.regs)).getD []).map (fun r => (r, (k : Int)))

theorem slOwned : SlT Tryz.prog 180 183 5 40 := SlT.mk' (z := .agg #[.int .i64 0, .int .i64 0, .int .i64 0, .int .i64 0, .int .i64 0]) Tryz.underlying180 (by kernel_rfl) rfl (by omega)
theorem heap_new2 (w : World) (A B : Obj) : ((w.alloc A).alloc B).heap[w.heap.size + 1]? = some B := heap_alloc2_new w A B
theorem ownCells_one (r : (Int × Int × Int × Int) × Int) : ∀ u ∈ (ownCells r).toArray.toList, u.oneCell' = true := by simp [ownCells, Value.oneCell']

theorem owned_snoc (ws : List WardV) (k j : Nat) (x : WardV) (hx : ws[k]? = some x) (hj : j < x.regs.length) :
    ownedN ws k ++ (x.regs.take (j + 1)).map (fun r => (r, (k : Int))) = (ownedN ws k ++ (x.regs.take j).map (fun r => (r, (k : Int)))) ++ [(x.regs[j], (k : Int))] := by
  rw [List.take_succ_eq_append_getElem hj, List.map_append]
  simp only [List.map_cons, List.map_nil, List.append_assoc]
theorem owned_full (ws : List WardV) (k : Nat) (x : WardV) (hx : ws[k]? = some x) : ownedN ws (k + 1) = ownedN ws k ++ (x.regs.take x.regs.length).map (fun r => (r, (k : Int))) := by
  simp [ownedN, hx]

/-- The bound that the appends want. -/
theorem ownedN_len (ws : List WardV) (m : Nat) (h : ∀ x ∈ ws, x.regs.length ≤ m) : ∀ k, (ownedN ws k).length ≤ k * m := by
  intro k
  induction k with
  | zero => simp [ownedN]
  | succ k ih =>
    simp only [ownedN, List.length_append, List.length_map]
    cases hk : ws[k]? with
    | none => simp; rw [Nat.succ_mul]; omega
    | some x => simp; have := h x (List.mem_of_getElem? hk); rw [Nat.succ_mul]; omega

set_option maxRecDepth 100000 in
set_option maxHeartbeats 2000000 in
theorem regions_any (G base : Nat) (w : World) {gap mem : Int} {ws : List WardV} {wi : List (Int × Int)} {ow : List Int} {vW vI vO : Value} (h : PlanAt w G base gap mem ws wi ow vW vI vO) (hl : ws.length ≤ 4) (h3 : ∀ x ∈ ws, x.regs.length ≤ 3) :
    Calls Tryz.prog 99 #[.pointer (some ⟨G, 0, none⟩)] w fun e w' => ∃ v, e = .returned v ∧ w'.ownsRow w.heap.size 183 5 v (ownedN ws ws.length).length ((ownedN ws ws.length).flatMap ownCells) ∧ Fr (fun _ => False) w w' := by
  obtain ⟨ao, c, rfl⟩ := h.ws.shape
  have c4 : w.cell? ⟨G, 2, none⟩ = some (.slice ao ws.length c) := row_cell h.g 2
  go_enter Tryz.func99, Tryz.ntmps99
  go_wp2_with fail
  go_loopw [3, 13] (fun v i wr => ∃ k : Nat, k ≤ ws.length ∧ i = .int .i64 k ∧ wr.ownsRow w.heap.size 183 5 v (ownedN ws k).length ((ownedN ws k).flatMap ownCells) ∧ Fr (fun _ => False) w wr) (fun _ i _ => ws.length - (intOf i).toNat)
  case atStart => exact ⟨0, Nat.zero_le _, rfl, World.ownsRow_nil _ _ _ _, Fr.refl _ _⟩
  case round =>
    obtain ⟨k, hk, rfl, hown, hF⟩ := hrel
    clear c4
    by_cases hlt : k < ws.length
    · have hP := h.fr hF
      obtain ⟨xs, hxs, ho, hx⟩ := hP.ws
      have hxl : xs.length = ws.length := by rw [← hxs]; simp
      have hkx : k < xs.length := by omega
      obtain ⟨gv, cp, hv, -, hgl⟩ := ho.form (by omega)
      simp only [Value.slice.injEq] at hv
      obtain ⟨rfl, -, rfl⟩ := hv
      rw [← hxl] at ho
      have hcell : ∀ c', c' < 4 → wr.cell? ⟨gv, k * 4 + c', none⟩ = (wardCells xs[k])[c']? := by
        intro c' hc'
        rw [ho.cellAt (k * 4 + c') (by omega), flat_get wardCells 4 (fun _ => rfl) xs k c' hkx hc']
      have ck0 : wr.cell? ⟨gv, k * 4, none⟩ = some (.int .i64 xs[k].1.q) := hcell 0 (by omega)
      have ck1 : wr.cell? ⟨gv, k * 4 + 1, none⟩ = some (.int .u32 xs[k].1.bg) := hcell 1 (by omega)
      have hxk := hx xs[k] (List.getElem_mem hkx)
      obtain ⟨ar, cr, har⟩ := owns_shape hxk.1
      obtain ⟨ap, cq, hap⟩ := owns_shape hxk.2
      have ck2 : wr.cell? ⟨gv, k * 4 + 2, none⟩ = some (.slice ar xs[k].1.regs.length cr) := by rw [← har]; exact hcell 2 (by omega)
      have ck3 : wr.cell? ⟨gv, k * 4 + 3, none⟩ = some (.slice ap xs[k].1.prog.length cq) := by rw [← hap]; exact hcell 3 (by omega)
      have hreg := hxk.1
      rw [har] at hreg
      have hwk : ws[k]? = some xs[k].1 := by rw [← hxs]; simp [hkx]
      have hr3 : xs[k].1.regs.length ≤ 3 := h3 _ (List.mem_of_getElem? hwk)
      generalize xs[k].1 = x at *
      have hnl := ownedN_len ws 3 h3 k
      have HWK := hid hwk
      have HOWN := hid hown
      have HREG := hid hreg
      have H3 := hid h3
      have HH := hid h
      have hlt' : (k : Int) < (ws.length : Int) := by omega
      clear hcell hx hxs hP hxk har hap hwk ho hown hreg h3 h hxl hkx
      go_wp2_with fail
      go_loopw [3, 21] (fun v i wq => ∃ j : Nat, j ≤ x.regs.length ∧ i = .int .i64 j ∧ wq.ownsRow w.heap.size 183 5 v (ownedN ws k ++ (x.regs.take j).map (fun r => (r, (k : Int)))).length ((ownedN ws k ++ (x.regs.take j).map (fun r => (r, (k : Int)))).flatMap ownCells) ∧ Fr (fun _ => False) w wq ∧ wq.ownsRow base 151 4 (.slice ar x.regs.length cr) x.regs.length (x.regs.flatMap regCells)) (fun _ i _ => x.regs.length - (intOf i).toNat)
      case atStart =>
        refine ⟨0, Nat.zero_le _, rfl, ?_, hF.alloc _, HREG.out.alloc _⟩
        simp only [List.take_zero, List.map_nil, List.append_nil]
        exact HOWN.out.alloc _
      case round =>
        obtain ⟨j, hj, rfl, hown, hFq, hreg⟩ := hrel
        by_cases hjl : j < x.regs.length
        · obtain ⟨gr, cp, hv, -, -⟩ := hreg.form (by omega)
          simp only [Value.slice.injEq] at hv
          obtain ⟨rfl, -, rfl⟩ := hv
          have hcell : ∀ c', c' < 4 → wr.cell? ⟨gr, j * 4 + c', none⟩ = (regCells x.regs[j])[c']? := by
            intro c' hc'
            rw [hreg.cellAt (j * 4 + c') (by omega), flat_get regCells 4 (fun _ => rfl) x.regs j c' hjl hc']
          have d0 : wr.cell? ⟨gr, j * 4, none⟩ = some (.int .i64 x.regs[j].1) := hcell 0 (by omega)
          have d1 : wr.cell? ⟨gr, j * 4 + 1, none⟩ = some (.int .i64 x.regs[j].2.1) := hcell 1 (by omega)
          have d2 : wr.cell? ⟨gr, j * 4 + 2, none⟩ = some (.int .i64 x.regs[j].2.2.1) := hcell 2 (by omega)
          have d3 : wr.cell? ⟨gr, j * 4 + 3, none⟩ = some (.int .i64 x.regs[j].2.2.2) := hcell 3 (by omega)
          have hsn := hid (owned_snoc ws k j x HWK.out hjl)
          have hlen : (ownedN ws k ++ (x.regs.take j).map (fun r => (r, (k : Int)))).length + 1 ≤ 1073741824 := by simp; omega
          have HOW := hid hown
          have HRG := hid hreg
          have hFs : w.heap.size ≤ wr.heap.size := hFq.size
          generalize hLj : ownedN ws k ++ (x.regs.take j).map (fun r => (r, (k : Int))) = Lj at *
          generalize hrj : x.regs[j] = rj at *
          clear hcell hreg hown hLj hrj
          go_wp2_with (at_builtin; refine wpList_app slOwned (by rfl) _ _ (by rfl) w.heap.size _ Lj.length _ (by rfl) ((HOW.out.alloc _).alloc _) (wr.heap.size + 1) (ownCells (rj, (k : Int))).toArray _ (by rfl) (heap_new2 wr _ _) rfl (ownCells_one _) hlen (by decide) (le_alloc (le_alloc hFs _) _) ?_; intro gg cap w7 hown7 hf7 hat)
          have hF7 : Fr (fun _ => False) w w7 := ((hFq.alloc _).alloc _).step hf7 (fun i hi => .inr (HOW.out.lt i hi).1)
          have hreg7 := hf7.ownsT ((HOW.out.alloc _).alloc _) ((HRG.out.alloc _).alloc _) (by decide)
          have h7 := hid hown7
          have h8 := hid hF7
          have h9 := hid hreg7
          clear hown7 hF7 hreg7 hf7 hat
          go_wp2_with fail
          go_roundw
          case rel =>
            refine ⟨j + 1, by omega, by go_num, ?_, h8.out, h9.out⟩
            rw [hsn.out]
            have := h7.out
            simpa using this
          case measure => simp [intOf]; omega
        · obtain rfl : j = x.regs.length := by omega
          have HOW := hid hown
          clear hown
          go_wp2_with fail
          go_roundw
          case rel =>
            refine ⟨k + 1, by omega, by go_num, ?_, hFq⟩
            rw [owned_full ws k x HWK.out]
            exact HOW.out
          case measure => simp [intOf]; omega
    · obtain rfl : k = ws.length := by omega
      go_wp2_with fail
      go_ret
      exact ⟨_, rfl, hown, hF⟩

end Go.Proofs.YthmcheoehcmglaaGreat
