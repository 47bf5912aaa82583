/- Calls through an interface, and of a function that is a value. -/
import Derived.Test.YthmcheoehcmglaaGreatP3
namespace Go.Proofs.YthmcheoehcmglaaGreat
open Go.RowKit
set_option linter.unusedVariables false

/-- A call through an interface, in a region that draws its order: by the callee's contract. -/
theorem step_invoke {P : Program} {w : World} {ops : Array Oper} {o : Oper} {a : Act} {K : Act → World → Prop} {Q : Exit → Act → World → Prop} {E : Prop} {f : FuncId} {x : Operand} {name : String} {xl : List Operand} {ats : Array TypeId} {fn : Func} {t : TypeId} {v : Value}
    (hf : P.funcs[f]? = some fn) (hnm : (fn.name == "runtime.NumGoroutine") = false) (hbd : fn.body.isNone = false) (hgd : o.guard = none) (ho : o.op = .call { callee := .invoke x name, args := xl.toArray, argTypes := ats })
    (hx : a.eval x = .iface t v) (hm : (method (P.types.size + Made.depth) t v name).run P w = .ok (f, v) w)
    (args : List Value) (hargs : xl.map a.eval = args) (h : Calls P f (v :: args).toArray w fun e w' => ∃ r, e = .returned r ∧ K (a.put o.dst r) w') :
    if Region.wanted o (yielded ops a.tmps) = true then Oper.wp P o a w K Q else E := by
  obtain ⟨dst, op, ty, pos, after, guard⟩ := o
  simp only at hgd ho h
  subst hgd ho
  rw [if_pos (by simp [Region.wanted])]
  unfold Oper.wp
  have hr : (callFunc f (v :: args).toArray).run P w = .ok (.enter f (v :: args).toArray) w := by
    unfold callFunc program
    simp only [bind, Sem.bind, Sem.run, hf, hnm, hbd]
    rfl
  have he : (execOp a.eval { dst := dst, op := .call { callee := .invoke x name, args := xl.toArray, argTypes := ats }, type := ty, pos := pos, after := after, guard := none }).run P w = .ok (.enter f (v :: args).toArray) w := by
    rw [← hr]
    simp only [execOp, resolve, invoke, hx, Sem.run_bind, Sem.run_pure, Result.andThen_ok]
    simp [callMethod, hm, hargs]
  rw [he, Oper.upon_enter]
  refine h.mono ?_
  rintro e w' ⟨r, rfl, hk⟩
  exact hk

/-- A call of a function that is a value, at a plain region's list: by the callee's contract. -/
theorem wpList_callV {P : Program} {w : World} {ops : Array Oper} {rest : List Oper} {o : Oper} {a : Act} {Q : Exit → Act → World → Prop} {f : FuncId} {x : Operand} {xl : List Operand} {ats : Array TypeId} {fn : Func}
    (hf : P.funcs[f]? = some fn) (hnm : (fn.name == "runtime.NumGoroutine") = false) (hbd : fn.body.isNone = false) (hgd : o.guard = none) (ho : o.op = .call { callee := .value x, args := xl.toArray, argTypes := ats })
    (hx : a.eval x = .func (Fn.func f) #[] #[]) (args : List Value) (hargs : xl.map a.eval = args) (h : Calls P f args.toArray w fun e w' => ∃ r, e = .returned r ∧ wpList P ops Q rest (a.put o.dst r) w') :
    wpList P ops Q (o :: rest) a w := by
  refine wpList_plain hgd fun K hK => ?_
  obtain ⟨dst, op, ty, pos, after, guard⟩ := o
  simp only at hgd ho h
  subst hgd ho
  unfold Oper.wp
  have hr : (callFunc f args.toArray).run P w = .ok (.enter f args.toArray) w := by
    unfold callFunc program
    simp only [bind, Sem.bind, Sem.run, hf, hnm, hbd]
    rfl
  have he : (execOp a.eval { dst := dst, op := .call { callee := .value x, args := xl.toArray, argTypes := ats }, type := ty, pos := pos, after := after, guard := none }).run P w = .ok (.enter f args.toArray) w := by
    rw [← hr]
    simp only [execOp, resolve, hx, Sem.run_bind]
    simp [Deferred.ofValue, invoke, hargs]
  rw [he, Oper.upon_enter]
  refine h.mono ?_
  rintro e w' ⟨r, rfl, hk⟩
  exact hK _ _ hk

end Go.Proofs.YthmcheoehcmglaaGreat
