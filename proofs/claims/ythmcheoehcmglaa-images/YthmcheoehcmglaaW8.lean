/- Two regions held against one another; wires and devices. -/
import Derived.Test.YthmcheoehcmglaaW7
namespace Go.Proofs.Ythmcheoehcmglaa
open Go.RowKit
set_option linter.unusedVariables false
attribute [local go_sem ↓] Go.wp_at_zero Go.wp_at_succ

/-- A region with the number of its ward, in bounds. -/
def OwnedOk (r : (Int × Int × Int × Int) × Int) : Prop := 0 ≤ r.1.1 ∧ r.1.1 ≤ 65535 ∧ 0 ≤ r.1.2.1 ∧ r.1.2.1 ≤ 65535 ∧ 0 ≤ r.1.2.2.1 ∧ r.1.2.2.1 ≤ 65535
def ownCells (r : (Int × Int × Int × Int) × Int) : List Value := [.int .i64 r.1.1, .int .i64 r.1.2.1, .int .i64 r.1.2.2.1, .int .i64 r.1.2.2.2, .int .i64 r.2]
def shAddr (a b : (Int × Int × Int × Int) × Int) : Bool := (a.2 == b.2) && ovl a.1.1 a.1.2.1 b.1.1 b.1.2.1
def shWord (a b : (Int × Int × Int × Int) × Int) : Bool := ovl a.1.2.2.1 a.1.2.1 b.1.2.2.1 b.1.2.1

set_option maxRecDepth 100000 in
set_option maxHeartbeats 1000000 in
theorem sharesAddress_any (a b : (Int × Int × Int × Int) × Int) (w : World) (ha : OwnedOk a) (hb : OwnedOk b) :
    Calls Try.prog 64 #[.agg #[.int .i64 a.1.1, .int .i64 a.1.2.1, .int .i64 a.1.2.2.1, .int .i64 a.1.2.2.2, .int .i64 a.2], .agg #[.int .i64 b.1.1, .int .i64 b.1.2.1, .int .i64 b.1.2.2.1, .int .i64 b.1.2.2.2, .int .i64 b.2]] w fun e w' => e = .returned (.bool (shAddr a b)) ∧ Fr (fun _ => False) w w' := by
  obtain ⟨a1, a2, a3, a4, a5, a6⟩ := ha
  obtain ⟨b1, b2, b3, b4, b5, b6⟩ := hb
  by_cases hw : a.2 = b.2
  · have hw' : (a.2 == b.2) = true := by simp [hw]
    have HS : Hid (shAddr a b = ovl a.1.1 a.1.2.1 b.1.1 b.1.2.1) := by simp [Hid, shAddr, hw]
    clear hw
    go_enter Try.func64, Try.ntmps64
    go_wp2_with (go_at_call 79; refine (overlap_any _ _ _ _ _ (by omega) (by omega) (by omega) (by omega) (by omega) (by omega) (by omega) (by omega)).mono ?_; rintro e w1 ⟨rfl, rfl⟩)
    go_ret
    exact ⟨ret_bool HS.out.symm, ((Fr.refl _ _).alloc _).alloc _⟩
  · have hw' : (a.2 == b.2) = false := by simp [hw]
    have HS : Hid (shAddr a b = false) := by simp [Hid, shAddr, hw]
    clear hw
    go_enter Try.func64, Try.ntmps64
    go_wp2_with fail
    go_ret
    exact ⟨ret_bool HS.out.symm, ((Fr.refl _ _).alloc _).alloc _⟩

set_option maxRecDepth 100000 in
set_option maxHeartbeats 1000000 in
theorem sharesWord_any (a b : (Int × Int × Int × Int) × Int) (w : World) (ha : OwnedOk a) (hb : OwnedOk b) :
    Calls Try.prog 65 #[.agg #[.int .i64 a.1.1, .int .i64 a.1.2.1, .int .i64 a.1.2.2.1, .int .i64 a.1.2.2.2, .int .i64 a.2], .agg #[.int .i64 b.1.1, .int .i64 b.1.2.1, .int .i64 b.1.2.2.1, .int .i64 b.1.2.2.2, .int .i64 b.2]] w fun e w' => e = .returned (.bool (shWord a b)) ∧ Fr (fun _ => False) w w' := by
  obtain ⟨a1, a2, a3, a4, a5, a6⟩ := ha
  obtain ⟨b1, b2, b3, b4, b5, b6⟩ := hb
  unfold shWord
  go_enter Try.func65, Try.ntmps65
  go_wp2_with (go_at_call 79; refine (overlap_any _ _ _ _ _ (by omega) (by omega) (by omega) (by omega) (by omega) (by omega) (by omega) (by omega)).mono ?_; rintro e w1 ⟨rfl, rfl⟩)
  go_ret
  exact ⟨rfl, ((Fr.refl _ _).alloc _).alloc _⟩

/-- Is there a ward of this number among n? -/
def hasB (n : Nat) (k : Int) : Bool := decide (0 ≤ k) && decide (k < n)
def wireOk (n : Nat) (x : Int × Int) : Bool := hasB n x.1 && hasB n x.2 && !(x.1 == x.2)

theorem all_take {α : Type} (p : α → Bool) (xs : List α) (k : Nat) (hk : k < xs.length) : (xs.take (k + 1)).all p = ((xs.take k).all p && p xs[k]) := by
  rw [List.take_succ_eq_append_getElem hk, List.all_append]
  simp only [List.all_cons, List.all_nil, Bool.and_true]

set_option maxRecDepth 100000 in
set_option maxHeartbeats 1000000 in
theorem devicesFit_any (G base : Nat) (w : World) {gap mem : Int} {ws : List WardV} {wi : List (Int × Int)} {ow : List Int} {vW vI vO : Value} (h : PlanAt w G base gap mem ws wi ow vW vI vO) (hl : ow.length ≤ 8) :
    Calls Try.prog 39 #[.pointer (some ⟨G, 0, none⟩)] w fun e w' => e = .returned (.bool (ow.all (hasB ws.length))) ∧ w' = w := by
  obtain ⟨ao, c, rfl⟩ := owns_shape h.ow
  have c4 : w.cell? ⟨G, 4, none⟩ = some (.slice ao ow.length c) := row_cell h.g 4
  go_enter Try.func39, Try.ntmps39
  go_wp2_with fail
  go_loop [10] (fun i => ∃ k : Nat, k ≤ ow.length ∧ i = .int .i64 k ∧ (ow.take k).all (hasB ws.length) = true) (fun i => ow.length - (intOf i).toNat)
  case atStart => exact ⟨0, Nat.zero_le _, rfl, by simp⟩
  case round =>
    obtain ⟨k, hk, rfl, hall⟩ := hrel
    have HA := (show Hid _ from hall)
    clear hall
    by_cases hlt : k < ow.length
    · obtain ⟨gv, cp, hv, _, _⟩ := h.ow.form (by omega)
      simp only [Value.slice.injEq] at hv
      obtain ⟨rfl, _, rfl⟩ := hv
      have ck : w.cell? ⟨gv, k, none⟩ = some (.int .i64 ow[k]) := by
        rw [h.ow.cellAt k (by omega)]; simp [hlt]
      have hat := all_take (hasB ws.length) ow k hlt
      have HAT := (show Hid _ from hat)
      clear hat
      cases hh : hasB ws.length ow[k]
      · go_wp2_with (go_at_call 66; refine (has_any G base _ _ h).mono ?_; rintro e w1 ⟨rfl, rfl⟩; rw [show (decide (0 ≤ ow[k]) && decide (ow[k] < (ws.length : Int))) = hasB ws.length ow[k] from rfl, hh])
        go_ret
        refine ⟨ret_bool ?_, rfl⟩
        symm
        rw [List.all_eq_false]
        exact ⟨ow[k], List.getElem_mem hlt, by rw [hh]; simp⟩
      · have HH := (show Hid _ from hh)
        go_wp2_with (go_at_call 66; refine (has_any G base _ _ h).mono ?_; rintro e w1 ⟨rfl, rfl⟩; rw [show (decide (0 ≤ ow[k]) && decide (ow[k] < (ws.length : Int))) = hasB ws.length ow[k] from rfl, hh])
        go_round
        case rel => exact ⟨k + 1, by omega, by go_num, by rw [HAT.out, HA.out, HH.out]; rfl⟩
        case measure => simp [intOf]; omega
    · obtain rfl : k = ow.length := by omega
      go_wp2_with fail
      go_ret
      refine ⟨ret_bool ?_, rfl⟩
      have := HA.out
      rw [List.take_length] at this
      exact this.symm

theorem any_false {α : Type} (p : α → Bool) (xs : List α) (k : Nat) (hk : k < xs.length) (h : p xs[k] = false) : false = xs.all p := by
  symm
  rw [List.all_eq_false]
  exact ⟨xs[k], List.getElem_mem hk, by rw [h]; simp⟩

set_option maxRecDepth 100000 in
set_option maxHeartbeats 2000000 in
theorem wiresFit_any (G base : Nat) (w : World) {gap mem : Int} {ws : List WardV} {wi : List (Int × Int)} {ow : List Int} {vW vI vO : Value} (h : PlanAt w G base gap mem ws wi ow vW vI vO) (hl : wi.length ≤ 8) :
    Calls Try.prog 38 #[.pointer (some ⟨G, 0, none⟩)] w fun e w' => e = .returned (.bool (wi.all (wireOk ws.length))) ∧ Fr (fun _ => False) w w' := by
  obtain ⟨ao, c, rfl⟩ := owns_shape h.wi
  have c4 : w.cell? ⟨G, 3, none⟩ = some (.slice ao wi.length c) := row_cell h.g 3
  go_enter Try.func38, Try.ntmps38
  go_wp2_with fail
  go_loopw [10] (fun i wr => ∃ k : Nat, k ≤ wi.length ∧ i = .int .i64 k ∧ (wi.take k).all (wireOk ws.length) = true ∧ Fr (fun _ => False) w wr) (fun i _ => wi.length - (intOf i).toNat)
  case atStart => exact ⟨0, Nat.zero_le _, rfl, by simp, Fr.refl _ _⟩
  case round =>
    obtain ⟨k, hk, rfl, hall, hF⟩ := hrel
    have HA := (show Hid _ from hall)
    clear hall c4
    have hP := h.fr hF
    by_cases hlt : k < wi.length
    · obtain ⟨gv, cp, hv, _, _⟩ := hP.wi.form (by omega)
      simp only [Value.slice.injEq] at hv
      obtain ⟨rfl, _, rfl⟩ := hv
      have ck0 : wr.cell? ⟨gv, k * 2, none⟩ = some (.int .i64 wi[k].1) := by
        have := flat_get wireCells 2 (fun _ => rfl) wi k 0 hlt (by omega)
        rw [hP.wi.cellAt (k * 2) (by omega)]
        simpa [wireCells] using this
      have ck1 : wr.cell? ⟨gv, k * 2 + 1, none⟩ = some (.int .i64 wi[k].2) := by
        have := flat_get wireCells 2 (fun _ => rfl) wi k 1 hlt (by omega)
        rw [hP.wi.cellAt (k * 2 + 1) (by omega)]
        simpa [wireCells] using this
      have HAT := (show Hid _ from all_take (wireOk ws.length) wi k hlt)
      have HNO := (show Hid _ from any_false (wireOk ws.length) wi k hlt)
      have hP2 : ∀ o, PlanAt (wr.alloc o) G base gap mem ws wi ow vW (.slice (some ⟨gv, 0, none⟩) wi.length c) vO := fun o => hP.fr ((Fr.refl _ wr).alloc o)
      have HP2 := (show Hid _ from hP2)
      have HH := (show Hid _ from h)
      have HHP := (show Hid _ from hP)
      clear h hP hP2
      cases h1 : hasB ws.length wi[k].1
      · have HW : Hid (wireOk ws.length wi[k] = false) := by simp [Hid, wireOk, h1]
        go_wp2_with (go_at_call 66; refine (has_any G base _ _ (HP2.out _)).mono ?_; rintro e w1 ⟨rfl, rfl⟩; rw [show (decide (0 ≤ wi[k].1) && decide (wi[k].1 < (ws.length : Int))) = hasB ws.length wi[k].1 from rfl, h1])
        go_ret
        exact ⟨ret_bool (HNO.out HW.out), hF.alloc _⟩
      · go_wp2_with fail
        refine (has_any G base _ _ (HP2.out _)).mono ?_
        rintro e w1 ⟨rfl, rfl⟩
        rw [show (decide (0 ≤ wi[k].1) && decide (wi[k].1 < (ws.length : Int))) = hasB ws.length wi[k].1 from rfl, h1]
        cases h2 : hasB ws.length wi[k].2
        · have HW : Hid (wireOk ws.length wi[k] = false) := by simp [Hid, wireOk, h2]
          go_wp2_with fail
          refine (has_any G base _ _ (HP2.out _)).mono ?_
          rintro e w1 ⟨rfl, rfl⟩
          rw [show (decide (0 ≤ wi[k].2) && decide (wi[k].2 < (ws.length : Int))) = hasB ws.length wi[k].2 from rfl, h2]
          go_wp2_with fail
          go_ret
          exact ⟨ret_bool (HNO.out HW.out), hF.alloc _⟩
        · go_wp2_with fail
          refine (has_any G base _ _ (HP2.out _)).mono ?_
          rintro e w1 ⟨rfl, rfl⟩
          rw [show (decide (0 ≤ wi[k].2) && decide (wi[k].2 < (ws.length : Int))) = hasB ws.length wi[k].2 from rfl, h2]
          cases h3 : (wi[k].1 == wi[k].2)
          · have HW : Hid (wireOk ws.length wi[k] = true) := by simp [Hid, wireOk, h1, h2, h3]
            go_wp2_with fail
            go_roundw
            case rel => exact ⟨k + 1, by omega, by go_num, by rw [HAT.out, HA.out, HW.out]; rfl, hF.alloc _⟩
            case measure => simp [intOf]; omega
          · have HW : Hid (wireOk ws.length wi[k] = false) := by simp [Hid, wireOk, h1, h2, h3]
            go_wp2_with fail
            go_ret
            exact ⟨ret_bool (HNO.out HW.out), hF.alloc _⟩
    · obtain rfl : k = wi.length := by omega
      go_wp2_with fail
      go_ret
      refine ⟨ret_bool ?_, hF⟩
      have := HA.out
      rw [List.take_length] at this
      exact this.symm

end Go.Proofs.Ythmcheoehcmglaa
