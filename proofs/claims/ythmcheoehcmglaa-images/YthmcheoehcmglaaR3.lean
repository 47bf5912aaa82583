/- The reference's net in memory: Kernel, saved, Turn (ahead of the first cycle), View. -/
import Derived.Test.YthmcheoehcmglaaR2
import Derived.Test.YthmcheoehcmglaaW16
namespace Go.Proofs.Ythmcheoehcmglaa
open Go.RowKit
set_option linter.unusedVariables false
attribute [local go_sem ↓] Go.wp_at_zero Go.wp_at_succ

def stI (s : StV) : List Value := s.regs.map (Value.int .i64) ++ [.int .i64 s.place, .int .i64 s.status, .int .i64 s.cause, .int .i64 s.busy, .bool s.y]
/-- A ward of the reference. -/
structure RWard where
  q : Int
  vR : Value
  vD : Value
  now : StV
  then_ : StV
  regs : List RReg
  devs : List Int
def rwardCells (y : RWard) : List Value := [.int .i64 y.q, y.vR, y.vD] ++ stI y.now ++ stI y.then_
def rwireCells (x : Int × Int × Int × Int) : List Value := [.int .i64 x.1, .int .i64 x.2.1, .int .i64 x.2.2.1, .int .i64 x.2.2.2]

/-- A net lies in block Y. -/
structure NetAt (w : World) (Y : Nat) (gap mem ck : Int) (rws : List RWard) (wi : List (Int × Int × Int × Int)) (vW vI vD : Value) (nd : Nat) : Prop where
  hy : w.heap[Y]? = some (.cells #[.int .i64 gap, .int .i64 mem, vW, vI, vD, .int .i64 ck] 68 (0, 0))
  ow : w.ownsRow 0 76 29 vW rws.length (rws.flatMap rwardCells)
  rg : ∀ y ∈ rws, RRegsAt w 0 y.vR y.regs ∧ y.now.regs.length = 8 ∧ y.then_.regs.length = 8
  dr : ∀ y ∈ rws, w.ownsRow 0 3 1 y.vD y.devs.length (y.devs.map (Value.int .i64))
  iw : w.ownsRow 0 70 4 vI wi.length (wi.flatMap rwireCells)
  dv : ∃ cs, w.ownsRow 0 117 2 vD nd cs

theorem NetAt.fr {w w' : World} {Y : Nat} {gap mem ck : Int} {rws : List RWard} {wi : List (Int × Int × Int × Int)} {vW vI vD : Value} {nd : Nat} (h : NetAt w Y gap mem ck rws wi vW vI vD nd) (hf : Fr (fun _ => False) w w') : NetAt w' Y gap mem ck rws wi vW vI vD nd :=
  ⟨hf.get h.hy id, hf.ownsF _ h.ow, fun y hy => ⟨(h.rg y hy).1.fr hf, (h.rg y hy).2⟩, fun y hy => hf.ownsF _ (h.dr y hy), hf.ownsF _ h.iw, h.dv.elim fun cs hc => ⟨cs, hf.ownsF _ hc⟩⟩

set_option maxRecDepth 100000 in
set_option maxHeartbeats 1000000 in
theorem rkernel_any (w : World) (Y : Nat) (gap mem ck : Int) (rws : List RWard) (wi : List (Int × Int × Int × Int)) (vW vI vD : Value) (nd : Nat) (h : NetAt w Y gap mem ck rws wi vW vI vD nd) (h1 : rws.length ≤ 4) (h2 : wi.length ≤ 8) :
    Calls Try.prog 46 #[.pointer (some ⟨Y, 0, none⟩)] w fun e w' => e = .returned (.int .i64 (16 * (1 + rws.length) + 2 * wi.length)) ∧ ∃ n, w' = w.drewN n := by
  obtain ⟨a1, q1, rfl⟩ := owns_shape h.ow
  obtain ⟨a2, q2, rfl⟩ := owns_shape h.iw
  have c2 : w.cell? ⟨Y, 2, none⟩ = some (.slice a1 rws.length q1) := row_cell h.hy 2
  have c3 : w.cell? ⟨Y, 3, none⟩ = some (.slice a2 wi.length q2) := row_cell h.hy 3
  clear h
  go_enter Try.func46, Try.ntmps46
  go_wp2_with fail
  go_quiet (fail)
  go_wp2_with fail
  go_ret
  exact ⟨rfl, _, rfl⟩

set_option maxRecDepth 100000 in
set_option maxHeartbeats 1000000 in
theorem turn_zero (w : World) (Y : Nat) (gap mem : Int) (rws : List RWard) (wi : List (Int × Int × Int × Int)) (vW vI vD : Value) (nd : Nat) (h : NetAt w Y gap mem 0 rws wi vW vI vD nd) :
    Calls Try.prog 68 #[.pointer (some ⟨Y, 0, none⟩)] w fun e w' => e = .returned (.int .i64 0) ∧ w' = w := by
  have c5 : w.cell? ⟨Y, 5, none⟩ = some (.int .i64 0) := row_cell h.hy 5
  clear h
  go_enter Try.func68, Try.ntmps68
  go_wp2_with fail
  go_ret
  exact ⟨rfl, rfl⟩

def savedN (s : StV) (i : Nat) : Int := (s.regs ++ [s.place, s.status, s.cause, s.busy]).getD i 0

set_option maxRecDepth 100000 in
set_option maxHeartbeats 4000000 in
theorem saved_any (w : World) (s : StV) (hs : s.regs.length = 8) (i : Nat) (hi : i < 16) :
    Calls Try.prog 69 #[.agg (stI s).toArray, .int .i64 i] w fun e w' => e = .returned (.int .i64 (savedN s i)) ∧ Fr (fun _ => False) w w' := by
  obtain ⟨r0, r1, r2, r3, r4, r5, r6, r7, hr⟩ := st13 _ hs
  unfold savedN stI
  rw [hr]
  clear hr hs
  have h16 : i = 0 ∨ i = 1 ∨ i = 2 ∨ i = 3 ∨ i = 4 ∨ i = 5 ∨ i = 6 ∨ i = 7 ∨ i = 8 ∨ i = 9 ∨ i = 10 ∨ i = 11 ∨ i = 12 ∨ i = 13 ∨ i = 14 ∨ i = 15 := by omega
  clear hi
  rcases h16 with rfl | rfl | rfl | rfl | rfl | rfl | rfl | rfl | rfl | rfl | rfl | rfl | rfl | rfl | rfl | rfl
  all_goals
    go_enter Try.func69, Try.ntmps69
    go_wp2_with fail
    go_ret
    exact ⟨rfl, (Fr.refl _ _).alloc _⟩

end Go.Proofs.Ythmcheoehcmglaa
