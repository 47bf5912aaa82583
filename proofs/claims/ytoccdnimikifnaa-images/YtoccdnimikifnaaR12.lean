/- Laws on structs within blocks; what the reference's read leaves. -/
import Derived.Test.YtoccdnimikifnaaR11
namespace Go.Proofs.Ytoccdnimikifnaa
open Go.RowKit
set_option linter.unusedVariables false
attribute [local go_sem ↓] Go.wp_at_zero Go.wp_at_succ

theorem splice_cons {α : Type} (L : List α) (o : Nat) (v : α) (r : List α) (h : o + (v :: r).length ≤ L.length) : splice (L.set o v) (o + 1) r = splice L o (v :: r) := by
  unfold splice
  simp only [List.length_cons] at h ⊢
  rw [List.drop_set_of_lt (by omega), List.take_succ_eq_append_getElem (by simp; omega), List.getElem_set_self, List.take_set_of_le (Nat.le_refl _)]
  simp only [List.append_assoc, List.cons_append, List.nil_append]
  rw [show o + 1 + r.length = o + (r.length + 1) by omega]

theorem heap_setCells {b : Nat} {t : TypeId} : ∀ (vs : List Value) (o : Nat) (w : World) (cs : List Value), w.heap[b]? = some (.cells cs.toArray t (0, 0)) → o + vs.length ≤ cs.length →
    (w.setCells b o vs).heap[b]? = some (.cells (splice cs o vs).toArray t (0, 0)) ∧ Fr (fun i => i = b) w (w.setCells b o vs) := by
  intro vs
  induction vs with
  | nil => intro o w cs h _; exact ⟨by simpa [World.setCells, splice] using h, Fr.refl _ _⟩
  | cons v r ih =>
    intro o w cs h hl
    have h1 := row_set h o v
    rw [List.setIfInBounds_toArray] at h1
    have := ih (o + 1) _ (cs.set o v) h1 (by simp only [List.length_cons, List.length_set] at *; omega)
    rw [splice_cons cs o v r hl] at this
    exact ⟨this.1, (Fr.one w b o v).step this.2 (fun i hi => .inl hi)⟩

/-- A struct within a block is stored. -/
theorem wpList_storeMid {P : Program} {ops : Array Oper} {rest : List Oper} {o : Oper} {a : Act} {w : World} {Q : Exit → Act → World → Prop} (hgd : o.guard = none) (ty : TypeId) (x y : Operand) (ho : o.op = .store ty x y)
    (g off : Nat) (t : TypeId) (old cells : List Value) (hx : a.eval x = .pointer (some ⟨g, off, none⟩)) (hy : a.eval y = .agg cells.toArray) (hg : w.heap[g]? = some (.cells old.toArray t (0, 0)))
    (hi : (P.info? ty).map (·.size) = some cells.toArray.size) (hol : off + cells.length ≤ old.length) (h1 : cells.toArray.all (·.oneCell') = true)
    (h : ∀ w', w'.heap[g]? = some (.cells (splice old off cells).toArray t (0, 0)) → Fr (fun i => i = g) w w' → wpList P ops Q rest (a.put o.dst undef) w') : wpList P ops Q (o :: rest) a w := by
  have hs := heap_setCells cells off w old hg hol
  refine wpList_store_mid hgd ty x y ho g off cells.toArray hx hy ?_ hi h1 ?_
  · intro j hj
    simp only [List.size_toArray] at hj
    refine ⟨?_, row_frozen hg _⟩
    rw [row_cell hg, List.getElem?_toArray, List.getElem?_eq_getElem (by omega)]
    rfl
  · exact h _ hs.1 hs.2
theorem wpList_loadMid {P : Program} {ops : Array Oper} {rest : List Oper} {o : Oper} {a : Act} {w : World} {Q : Exit → Act → World → Prop} (hgd : o.guard = none) (ty : TypeId) (x : Operand) (ho : o.op = .load ty x)
    (g off : Nat) (t : TypeId) (old cells : List Value) {d : TypeDesc} (hx : a.eval x = .pointer (some ⟨g, off, none⟩)) (hg : w.heap[g]? = some (.cells old.toArray t (0, 0))) (hc : cells = (old.drop off).take cells.length)
    (hu : P.underlying ty = some d) (hd : d.isRow = true) (hi : (P.info? ty).map (·.size) = some cells.length)
    (h : wpList P ops Q rest (a.put o.dst (.agg cells.toArray)) w) : wpList P ops Q (o :: rest) a w := by
  refine wpList_load_mid hgd ty x ho g off hx cells d ?_ hu hd hi h
  intro j v hv
  rw [row_cell hg, List.getElem?_toArray]
  rw [hc, List.getElem?_take] at hv
  split at hv
  · rw [List.getElem?_drop] at hv; exact hv
  · cases hv
/-- A struct that fills its block is loaded, in a region that draws its order. -/
theorem step_loadRow {P : Program} {w : World} {ops : Array Oper} {o : Oper} {a : Act} {K : Act → World → Prop} {Q : Exit → Act → World → Prop} {E : Prop} (hgd : o.guard = none) (ty : TypeId) (x : Operand) (ho : o.op = .load ty x)
    (g : Nat) (t : TypeId) (cells : Array Value) {d : TypeDesc} (hx : a.eval x = .pointer (some ⟨g, 0, none⟩)) (hg : w.heap[g]? = some (.cells cells t (0, 0)))
    (hu : P.underlying ty = some d) (hd : (match d with | .struct _ | .array _ _ => true | _ => false) = true) (hi : (P.info? ty).map (·.size) = some cells.size)
    (h : K (a.put o.dst (.agg cells)) w) : if Region.wanted o (yielded ops a.tmps) = true then Oper.wp P o a w K Q else E := by
  obtain ⟨dst, op, ty', pos, after, guard⟩ := o
  simp only at hgd ho h
  subst hgd ho
  rw [if_pos (by simp [Region.wanted])]
  unfold Oper.wp execOp
  simp only [hx, Instr.loadAt, Instr.sureAddr, Sem.run_bind, Sem.run_pure, Result.andThen_ok, run_loadVar_row w g t ty cells (0, 0) d hg hu hd hi]
  exact h

/-- What is to be seen of a ward, but for its devices. -/
def rkey (y : RWard) := (y.q, y.now, y.then_, y.regs.map (·.r), y.regs.map (·.ws))
def wkey (x : WardV) := (x.q, st0 x.bg, st0 x.bg, x.regs, (x.regs.map (fun r => List.replicate r.2.1.toNat (0 : Int))).modifyHead (fun z => splice z 0 x.prog))
/-- The devices of ward k, of the first d ones. -/
def devsN (ow : List Int) (k : Nat) : Nat → List Int
  | 0 => []
  | d + 1 => devsN ow k d ++ (if ow[d]? = some (k : Int) then [(d : Int)] else [])

structure NetOf (m : Img) (rws : List RWard) (wi : List (Int × Int × Int × Int)) : Prop where
  wi : wi = m.wi.map (fun x => (x.1, x.2, 0, 0))
  key : rws.map rkey = m.ws.map wkey
  dev : ∀ k y, rws[k]? = some y → y.devs = devsN m.ow k m.ow.length

def ReadPost (l : List UInt8) (w : World) (e : Ending) (w' : World) : Prop :=
  ∃ Y, e = .returned (.tuple #[.pointer (some ⟨Y, 0, none⟩), .bool (rimg l).2]) ∧ Fr (fun _ => False) w w' ∧
    ((rimg l).2 = true → ∃ rws wi vW vI vD, NetAt w' Y (rimg l).1.gap (rimg l).1.mem 0 rws wi vW vI vD (rimg l).1.ow.length ∧ NetOf (rimg l).1 rws wi)

/-- A net that is being read. -/
structure RdIn (w : World) (gap mem : Int) (rws : List RWard) (wi : List (Int × Int × Int × Int)) (nd : Nat) (vW vI vD : Value) (wr : World) : Prop where
  n : NetAt wr w.heap.size gap mem 0 rws wi vW vI vD nd
  f : Fr (fun _ => False) w wr
  bw : ∀ k, vW.ownBlock = some k → w.heap.size ≤ k
  bi : ∀ k, vI.ownBlock = some k → w.heap.size ≤ k
  bd : ∀ k, vD.ownBlock = some k → w.heap.size ≤ k

theorem slRWard : SlT Try.prog 55 67 29 264 := SlT.mk' (z := .agg #[.int .i64 0, .slice none 0 0, .slice none 0 0, .int .i64 0, .int .i64 0, .int .i64 0, .int .i64 0, .int .i64 0, .int .i64 0, .int .i64 0, .int .i64 0, .int .i64 0, .int .i64 0, .int .i64 0, .int .i64 0, .bool false, .int .i64 0, .int .i64 0, .int .i64 0, .int .i64 0, .int .i64 0, .int .i64 0, .int .i64 0, .int .i64 0, .int .i64 0, .int .i64 0, .int .i64 0, .int .i64 0, .bool false]) Try.underlying55 (by kernel_rfl) rfl (by omega)
theorem slRWire : SlT Try.prog 56 61 4 32 := SlT.mk' (z := .agg #[.int .i64 0, .int .i64 0, .int .i64 0, .int .i64 0]) Try.underlying56 (by kernel_rfl) rfl (by omega)
theorem slRDev : SlT Try.prog 57 96 2 32 := SlT.mk' (z := .agg #[.int .i64 0, .slice none 0 0]) Try.underlying57 (by kernel_rfl) rfl (by omega)

end Go.Proofs.Ytoccdnimikifnaa
