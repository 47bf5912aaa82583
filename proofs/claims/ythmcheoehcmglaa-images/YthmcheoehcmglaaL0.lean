/- Structs compared with themselves. -/
import Derived.Test.YthmcheoehcmglaaR3
import Derived.ChangeKeysEq
namespace Go.Proofs.Ythmcheoehcmglaa
open Go.RowKit

/-- A call in a region that draws its order, under a guard that is met. -/
theorem step_callW {P : Program} {w : World} {ops : Array Oper} {o : Oper} {a : Act} {K : Act → World → Prop} {Q : Exit → Act → World → Prop} {E : Prop} {f : FuncId} {xl : List Operand} {ats : Array TypeId} {fn : Func}
    (hf : P.funcs[f]? = some fn) (hnm : (fn.name == "runtime.NumGoroutine") = false) (hbd : fn.body.isNone = false) (hw : Region.wanted o (yielded ops a.tmps) = true) (ho : o.op = .call { callee := .value (.func f), args := xl.toArray, argTypes := ats })
    (args : List Value) (hargs : xl.map a.eval = args) (h : Calls P f args.toArray w fun e w' => ∃ v, e = .returned v ∧ K (a.put o.dst v) w') :
    if Region.wanted o (yielded ops a.tmps) = true then Oper.wp P o a w K Q else E := by
  rw [if_pos hw]
  obtain ⟨dst, op, ty, pos, after, guard⟩ := o
  simp only at ho h
  subst ho
  unfold Oper.wp
  have hargs' : (#[] ++ xl.toArray.map a.eval ++ #[] : Array Value) = args.toArray := by simp [hargs]
  rw [execOp_call_go, hargs']
  have hr : (callFunc f args.toArray).run P w = .ok (.enter f args.toArray) w := by
    unfold callFunc program
    simp only [bind, Sem.bind, Sem.run, hf, hnm, hbd]
    rfl
  rw [hr, Oper.upon_enter]
  refine h.mono ?_
  rintro e w' ⟨v, rfl, hk⟩
  exact hk

theorem eq8 (q : IntKind) (t e : TypeId) (d : Nat) (i : TypeInfo) (hu : Try.prog.underlying t = some (.array 8 e)) (he : Try.prog.underlying e = some (.int q)) (hi : Try.prog.info? e = some i) (hc : Try.prog.cellsOf e = 1) (hp : Try.prog.plainKey e = true) (r0 r1 r2 r3 r4 r5 r6 r7 : Int) (w : World) :
    (Op.equalIn (d + 2) t (.agg #[.int q r0, .int q r1, .int q r2, .int q r3, .int q r4, .int q r5, .int q r6, .int q r7]) (.agg #[.int q r0, .int q r1, .int q r2, .int q r3, .int q r4, .int q r5, .int q r6, .int q r7])).run Try.prog w = .ok true w := by
  have hp8 : ∀ (off : Nat) (v : Value), (#[.int q r0, .int q r1, .int q r2, .int q r3, .int q r4, .int q r5, .int q r6, .int q r7] : Array Value)[off]? = some v → (part e #[.int q r0, .int q r1, .int q r2, .int q r3, .int q r4, .int q r5, .int q r6, .int q r7] off).run Try.prog w = .ok v w := fun off v h => run_part_plain w hp h
  have heq : ∀ r : Int, (Op.equalIn (d + 1) e (.int q r) (.int q r)).run Try.prog w = .ok true w := by
    intro r
    simp [Op.equalIn, run_underlying he]
  rw [run_equalIn_array w (d + 1) _ _ hu hi, hc]
  simp only [List.range_succ, List.range_zero, List.nil_append, List.cons_append, Op.eqItems, Sem.run_bind, Nat.mul_one]
  rw [hp8 0 (.int q r0) rfl]
  simp only [Result.andThen_ok]
  rw [hp8 0 (.int q r0) rfl]
  simp only [Result.andThen_ok, heq, Bool.not_true, Bool.false_eq_true, if_false, Sem.run_bind]
  rw [hp8 1 (.int q r1) rfl]
  simp only [Result.andThen_ok]
  rw [hp8 1 (.int q r1) rfl]
  simp only [Result.andThen_ok, heq, Bool.not_true, Bool.false_eq_true, if_false, Sem.run_bind]
  rw [hp8 2 (.int q r2) rfl]
  simp only [Result.andThen_ok]
  rw [hp8 2 (.int q r2) rfl]
  simp only [Result.andThen_ok, heq, Bool.not_true, Bool.false_eq_true, if_false, Sem.run_bind]
  rw [hp8 3 (.int q r3) rfl]
  simp only [Result.andThen_ok]
  rw [hp8 3 (.int q r3) rfl]
  simp only [Result.andThen_ok, heq, Bool.not_true, Bool.false_eq_true, if_false, Sem.run_bind]
  rw [hp8 4 (.int q r4) rfl]
  simp only [Result.andThen_ok]
  rw [hp8 4 (.int q r4) rfl]
  simp only [Result.andThen_ok, heq, Bool.not_true, Bool.false_eq_true, if_false, Sem.run_bind]
  rw [hp8 5 (.int q r5) rfl]
  simp only [Result.andThen_ok]
  rw [hp8 5 (.int q r5) rfl]
  simp only [Result.andThen_ok, heq, Bool.not_true, Bool.false_eq_true, if_false, Sem.run_bind]
  rw [hp8 6 (.int q r6) rfl]
  simp only [Result.andThen_ok]
  rw [hp8 6 (.int q r6) rfl]
  simp only [Result.andThen_ok, heq, Bool.not_true, Bool.false_eq_true, if_false, Sem.run_bind]
  rw [hp8 7 (.int q r7) rfl]
  simp only [Result.andThen_ok]
  rw [hp8 7 (.int q r7) rfl]
  simp only [Result.andThen_ok, heq, Bool.not_true, Bool.false_eq_true, if_false, Sem.run_pure]

theorem eq8i (r0 r1 r2 r3 r4 r5 r6 r7 : Int) (w : World) : (Op.equalIn 9999 72 (.agg #[.int .i64 r0, .int .i64 r1, .int .i64 r2, .int .i64 r3, .int .i64 r4, .int .i64 r5, .int .i64 r6, .int .i64 r7]) (.agg #[.int .i64 r0, .int .i64 r1, .int .i64 r2, .int .i64 r3, .int .i64 r4, .int .i64 r5, .int .i64 r6, .int .i64 r7])).run Try.prog w = .ok true w := by
  obtain ⟨i0, hi0⟩ : ∃ i, Try.prog.info? 3 = some i := info_of_underlying Try.underlying3
  exact eq8 .i64 72 3 9997 i0 Try.underlying72 Try.underlying3 hi0 (by kernel_rfl) (by kernel_rfl) r0 r1 r2 r3 r4 r5 r6 r7 w
theorem eq8u (r0 r1 r2 r3 r4 r5 r6 r7 : Int) (w : World) : (Op.equalIn 9999 49 (.agg #[.int .u32 r0, .int .u32 r1, .int .u32 r2, .int .u32 r3, .int .u32 r4, .int .u32 r5, .int .u32 r6, .int .u32 r7]) (.agg #[.int .u32 r0, .int .u32 r1, .int .u32 r2, .int .u32 r3, .int .u32 r4, .int .u32 r5, .int .u32 r6, .int .u32 r7])).run Try.prog w = .ok true w := by
  obtain ⟨i0, hi0⟩ : ∃ i, Try.prog.info? 42 = some i := info_of_underlying Try.underlying42
  exact eq8 .u32 49 42 9997 i0 Try.underlying49 Try.underlying42 hi0 (by kernel_rfl) (by kernel_rfl) r0 r1 r2 r3 r4 r5 r6 r7 w
end Go.Proofs.Ythmcheoehcmglaa
