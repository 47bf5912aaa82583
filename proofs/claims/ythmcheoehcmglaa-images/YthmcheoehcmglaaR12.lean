/- Laws on structs within blocks; what the reference's read leaves. -/
import Derived.Test.YthmcheoehcmglaaR11
import Derived.Test.YthmcheoehcmglaaS1
namespace Go.Proofs.Ythmcheoehcmglaa
open Go.RowKit
set_option linter.unusedVariables false
attribute [local go_sem ↓] Go.wp_at_zero Go.wp_at_succ

/-- A struct that fills its block is loaded, in a region that draws its order. -/
theorem step_loadRow {P : Program} {w : World} {ops : Array Oper} {o : Oper} {a : Act} {K : Act → World → Prop} {Q : Exit → Act → World → Prop} {E : Prop} (hgd : o.guard = none) (ty : TypeId) (x : Operand) (ho : o.op = .load ty x)
    (g : Nat) (t : TypeId) (cells : Array Value) {d : TypeDesc} (hx : a.eval x = .pointer (some ⟨g, 0, none⟩)) (hg : w.heap[g]? = some (.cells cells t (0, 0)))
    (hu : P.underlying ty = some d) (hd : (match d with | .struct _ | .array _ _ => true | _ => false) = true) (hi : (P.info? ty).map (·.size) = some cells.size)
    (h : K (a.put o.dst (.agg cells)) w) : if Region.wanted o (yielded ops a.tmps) = true then Oper.wp P o a w K Q else E := by
  obtain ⟨dst, op, ty', pos, after, guard⟩ := o
  simp only at hgd ho h
  subst hgd ho
  rw [if_pos (by simp [Region.wanted])]
  unfold Oper.wp execOp
  simp only [hx, Instr.loadAt, Instr.sureAddr, Sem.run_bind, Sem.run_pure, Result.andThen_ok, run_loadVar_row w g t ty cells (0, 0) d hg hu hd hi]
  exact h

/-- What is to be seen of a ward, but for its devices. -/
def rkey (y : RWard) := (y.q, y.now, y.then_, y.regs.map (·.r), y.regs.map (·.ws))
def wkey (x : WardV) := (x.q, st0 x.bg, st0 x.bg, x.regs, (x.regs.map (fun r => List.replicate r.2.1.toNat (0 : Int))).modifyHead (fun z => splice z 0 x.prog))
/-- The devices of ward k, of the first d ones. -/
def devsN (ow : List Int) (k : Nat) : Nat → List Int
  | 0 => []
  | d + 1 => devsN ow k d ++ (if ow[d]? = some (k : Int) then [(d : Int)] else [])

structure NetOf (m : Img) (rws : List RWard) (wi : List (Int × Int × Int × Int)) : Prop where
  wi : wi = m.wi.map (fun x => (x.1, x.2, 0, 0))
  key : rws.map rkey = m.ws.map wkey
  dev : ∀ k y, rws[k]? = some y → y.devs = devsN m.ow k m.ow.length

def ReadPost (l : List UInt8) (w : World) (e : Ending) (w' : World) : Prop :=
  ∃ Y, e = .returned (.tuple #[.pointer (some ⟨Y, 0, none⟩), .bool (rimg l).2]) ∧ Fr (fun _ => False) w w' ∧
    ((rimg l).2 = true → ∃ rws wi vW vI vD, NetAt w' Y (rimg l).1.gap (rimg l).1.mem 0 rws wi vW vI vD (rimg l).1.ow.length ∧ NetOf (rimg l).1 rws wi)

/-- A net that is being read. -/
structure RdIn (w : World) (gap mem : Int) (rws : List RWard) (wi : List (Int × Int × Int × Int)) (nd : Nat) (vW vI vD : Value) (wr : World) : Prop where
  n : NetAt wr w.heap.size gap mem 0 rws wi vW vI vD nd
  f : Fr (fun _ => False) w wr
  bw : ∀ k, vW.ownBlock = some k → w.heap.size ≤ k
  bi : ∀ k, vI.ownBlock = some k → w.heap.size ≤ k
  bd : ∀ k, vD.ownBlock = some k → w.heap.size ≤ k

theorem slRWard : SlT Try.prog 64 76 29 264 := SlT.mk' (z := .agg #[.int .i64 0, .slice none 0 0, .slice none 0 0, .int .i64 0, .int .i64 0, .int .i64 0, .int .i64 0, .int .i64 0, .int .i64 0, .int .i64 0, .int .i64 0, .int .i64 0, .int .i64 0, .int .i64 0, .int .i64 0, .bool false, .int .i64 0, .int .i64 0, .int .i64 0, .int .i64 0, .int .i64 0, .int .i64 0, .int .i64 0, .int .i64 0, .int .i64 0, .int .i64 0, .int .i64 0, .int .i64 0, .bool false]) Try.underlying64 (by kernel_rfl) rfl (by omega)
theorem slRWire : SlT Try.prog 65 70 4 32 := SlT.mk' (z := .agg #[.int .i64 0, .int .i64 0, .int .i64 0, .int .i64 0]) Try.underlying65 (by kernel_rfl) rfl (by omega)
theorem slRDev : SlT Try.prog 66 117 2 32 := SlT.mk' (z := .agg #[.int .i64 0, .slice none 0 0]) Try.underlying66 (by kernel_rfl) rfl (by omega)

end Go.Proofs.Ythmcheoehcmglaa
