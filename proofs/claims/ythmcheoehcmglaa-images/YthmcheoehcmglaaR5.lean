/- The reference's Word. -/
import Derived.Test.YthmcheoehcmglaaR4
namespace Go.Proofs.Ythmcheoehcmglaa
open Go.RowKit
set_option linter.unusedVariables false
attribute [local go_sem ↓] Go.wp_at_zero Go.wp_at_succ

def inReg (a : Int) (r : RReg) : Bool := decide (r.r.2.2.1 ≤ a) && decide (a < r.r.2.2.1 + r.r.2.1)
def regWord (a : Int) (r : RReg) : Int := r.ws.getD (a - r.r.2.2.1).toNat 0
def findW (L : List RReg) (a : Int) : Int := ((L.find? (inReg a)).map (regWord a)).getD 0
def rwordV (tv ck : Int) (rws : List RWard) (wi : List (Int × Int × Int × Int)) (a : Nat) : Int :=
  if a = 0 then tv else if a = 1 then ck % 4294967296 else if a < 16 then 0
  else if a < 16 * (1 + rws.length) then savedN ((rws[a / 16 - 1]?.map (·.then_)).getD noSt') (a % 16)
  else if a < 16 * (1 + rws.length) + 2 * wi.length then (let x := wi.getD ((a - 16 * (1 + rws.length)) / 2) (0, 0, 0, 0); if (a - 16 * (1 + rws.length)) % 2 = 0 then x.2.2.1 else x.2.2.2)
  else findW (rws.flatMap (·.regs)) a

structure RegsOk (rws : List RWard) (nw : Nat) : Prop where
  l : rws.length ≤ 4
  li : nw ≤ 8
  r : ∀ y ∈ rws, ∀ r ∈ y.regs, 0 ≤ r.r.1 ∧ r.r.1 ≤ 65535 ∧ 0 ≤ r.r.2.1 ∧ r.r.2.1 ≤ 65535 ∧ 0 ≤ r.r.2.2.1 ∧ r.r.2.2.1 ≤ 65535 ∧ (r.ws.length : Int) = r.r.2.1
  c : ∀ y ∈ rws, y.regs.length ≤ 3

set_option maxRecDepth 100000 in
set_option maxHeartbeats 2000000 in
theorem rword_no (w : World) (Y : Nat) (gap mem ck : Int) (rws : List RWard) (wi : List (Int × Int × Int × Int)) (vW vI vD : Value) (nd : Nat) (h : NetAt w Y gap mem ck rws wi vW vI vD nd) (a : Int) (ha : ¬ (0 ≤ a ∧ a < mem)) :
    Calls Try.prog 47 #[.pointer (some ⟨Y, 0, none⟩), .int .i64 a] w fun e w' => e = .returned (.tuple #[.int .i64 0, .int .i64 6]) ∧ Fr (fun _ => False) w w' := by
  have c1 : w.cell? ⟨Y, 1, none⟩ = some (.int .i64 mem) := row_cell h.hy 1
  clear h
  by_cases h0 : a < 0
  · clear ha
    go_enter Try.func47, Try.ntmps47
    go_wp2_with fail
    go_ret2
    exact ⟨rfl, Fr.refl _ _⟩
  · have h1 : mem ≤ a := by omega
    clear ha
    go_enter Try.func47, Try.ntmps47
    go_wp2_with fail
    go_ret2
    exact ⟨rfl, Fr.refl _ _⟩

set_option maxRecDepth 100000 in
set_option maxHeartbeats 2000000 in
theorem rword_low (w : World) (Y : Nat) (gap mem ck tv : Int) (rws : List RWard) (wi : List (Int × Int × Int × Int)) (vW vI vD : Value) (nd : Nat) (h : NetAt w Y gap mem ck rws wi vW vI vD nd) (hk0 : 0 ≤ ck) (hl : rws.length ≤ 4)
    (hT : Calls Try.prog 68 #[.pointer (some ⟨Y, 0, none⟩)] w fun e w' => e = .returned (.int .i64 tv) ∧ w' = w) (a : Nat) (ha : (a : Int) < mem) (h16 : a < 16) :
    Calls Try.prog 47 #[.pointer (some ⟨Y, 0, none⟩), .int .i64 a] w fun e w' => e = .returned (.tuple #[.int .i64 (rwordV tv ck rws wi a), .int .i64 0]) ∧ Fr (fun _ => False) w w' := by
  have c1 : w.cell? ⟨Y, 1, none⟩ = some (.int .i64 mem) := row_cell h.hy 1
  have c5 : w.cell? ⟨Y, 5, none⟩ = some (.int .i64 ck) := row_cell h.hy 5
  obtain ⟨a1, q1, rfl⟩ := owns_shape h.ow
  have c2 : w.cell? ⟨Y, 2, none⟩ = some (.slice a1 rws.length q1) := row_cell h.hy 2
  have HT := hid hT
  have hm : ¬ mem ≤ (a : Int) := by omega
  clear h hT
  by_cases ha0 : a = 0
  · subst ha0
    go_enter Try.func47, Try.ntmps47
    go_wp2_with fail
    refine HT.out.mono ?_
    rintro e w1 ⟨rfl, rfl⟩
    go_wp2_with fail
    go_ret2
    exact ⟨by simp [rwordV], Fr.refl _ _⟩
  · by_cases ha1 : a = 1
    · subst ha1
      have hmod : Int.tmod ck 4294967296 = ck % 4294967296 := Int.tmod_eq_emod_of_nonneg hk0
      go_enter Try.func47, Try.ntmps47
      go_wp2_with fail
      go_ret2
      exact ⟨by simp [rwordV], Fr.refl _ _⟩
    · have e0 : ¬ (a : Int) = 0 := by omega
      have e1 : ¬ (a : Int) = 1 := by omega
      have e2 : (a : Int) < 16 := by omega
      have HV : Hid (rwordV tv ck rws wi a = 0) := by unfold Hid rwordV; rw [if_neg ha0, if_neg ha1, if_pos h16]
      clear ha0 ha1
      go_enter Try.func47, Try.ntmps47
      go_wp2_with fail
      go_ret2
      exact ⟨by rw [HV.out]; rfl, Fr.refl _ _⟩

end Go.Proofs.Ythmcheoehcmglaa
