/- A struct within a block, loaded and stored. -/
import Derived.Test.YthmcheoehcmglaaR0
import Derived.Laws.CopyOwn
namespace Go.Proofs.Ythmcheoehcmglaa
open Go.RowKit
set_option linter.unusedVariables false

theorem splice_cons {α : Type} (L : List α) (o : Nat) (v : α) (r : List α) (h : o + (v :: r).length ≤ L.length) : splice (L.set o v) (o + 1) r = splice L o (v :: r) := by
  unfold splice
  simp only [List.length_cons] at h ⊢
  rw [List.drop_set_of_lt (by omega), List.take_succ_eq_append_getElem (by simp; omega), List.getElem_set_self, List.take_set_of_le (Nat.le_refl _)]
  simp only [List.append_assoc, List.cons_append, List.nil_append]
  rw [show o + 1 + r.length = o + (r.length + 1) by omega]

theorem heap_setCells {b : Nat} {t : TypeId} : ∀ (vs : List Value) (o : Nat) (w : World) (cs : List Value), w.heap[b]? = some (.cells cs.toArray t (0, 0)) → o + vs.length ≤ cs.length →
    (w.setCells b o vs).heap[b]? = some (.cells (splice cs o vs).toArray t (0, 0)) ∧ Fr (fun i => i = b) w (w.setCells b o vs) := by
  intro vs
  induction vs with
  | nil => intro o w cs h _; exact ⟨by simpa [World.setCells, splice] using h, Fr.refl _ _⟩
  | cons v r ih =>
    intro o w cs h hl
    have h1 := row_set h o v
    rw [List.setIfInBounds_toArray] at h1
    have := ih (o + 1) _ (cs.set o v) h1 (by simp only [List.length_cons, List.length_set] at *; omega)
    rw [splice_cons cs o v r hl] at this
    exact ⟨this.1, (Fr.one w b o v).step this.2 (fun i hi => .inl hi)⟩

/-- A struct within a block is stored. -/
theorem wpList_storeMid {P : Program} {ops : Array Oper} {rest : List Oper} {o : Oper} {a : Act} {w : World} {Q : Exit → Act → World → Prop} (hgd : o.guard = none) (ty : TypeId) (x y : Operand) (ho : o.op = .store ty x y)
    (g off : Nat) (t : TypeId) (old cells : List Value) (hx : a.eval x = .pointer (some ⟨g, off, none⟩)) (hy : a.eval y = .agg cells.toArray) (hg : w.heap[g]? = some (.cells old.toArray t (0, 0)))
    (hi : (P.info? ty).map (·.size) = some cells.toArray.size) (hol : off + cells.length ≤ old.length) (h1 : cells.toArray.all (·.oneCell') = true)
    (h : ∀ w', w'.heap[g]? = some (.cells (splice old off cells).toArray t (0, 0)) → Fr (fun i => i = g) w w' → wpList P ops Q rest (a.put o.dst undef) w') : wpList P ops Q (o :: rest) a w := by
  have hs := heap_setCells cells off w old hg hol
  refine wpList_store_mid hgd ty x y ho g off cells.toArray hx hy ?_ hi h1 ?_
  · intro j hj
    simp only [List.size_toArray] at hj
    refine ⟨?_, row_frozen hg _⟩
    rw [row_cell hg, List.getElem?_toArray, List.getElem?_eq_getElem (by omega)]
    rfl
  · exact h _ hs.1 hs.2
theorem wpList_loadMid {P : Program} {ops : Array Oper} {rest : List Oper} {o : Oper} {a : Act} {w : World} {Q : Exit → Act → World → Prop} (hgd : o.guard = none) (ty : TypeId) (x : Operand) (ho : o.op = .load ty x)
    (g off : Nat) (t : TypeId) (old cells : List Value) {d : TypeDesc} (hx : a.eval x = .pointer (some ⟨g, off, none⟩)) (hg : w.heap[g]? = some (.cells old.toArray t (0, 0))) (hc : cells = (old.drop off).take cells.length)
    (hu : P.underlying ty = some d) (hd : d.isRow = true) (hi : (P.info? ty).map (·.size) = some cells.length)
    (h : wpList P ops Q rest (a.put o.dst (.agg cells.toArray)) w) : wpList P ops Q (o :: rest) a w := by
  refine wpList_load_mid hgd ty x ho g off hx cells d ?_ hu hd hi h
  intro j v hv
  rw [row_cell hg, List.getElem?_toArray]
  rw [hc, List.getElem?_take] at hv
  split at hv
  · rw [List.getElem?_drop] at hv; exact hv
  · cases hv
theorem splice_get {α : Type} (L : List α) (off : Nat) (cs : List α) (h : off + cs.length ≤ L.length) (i : Nat) : (splice L off cs)[i]? = if off ≤ i ∧ i < off + cs.length then cs[i - off]? else L[i]? := by
  unfold splice
  by_cases h1 : i < off
  · rw [if_neg (by omega), List.getElem?_append_left (by simp; omega), List.getElem?_take, if_pos h1]
  · rw [List.getElem?_append_right (by simp; omega)]
    simp only [List.length_take, Nat.min_eq_left (show off ≤ L.length by omega)]
    by_cases h2 : i < off + cs.length
    · rw [if_pos (by omega), List.getElem?_append_left (by omega)]
    · rw [if_neg (by omega), List.getElem?_append_right (by omega), List.getElem?_drop]
      congr 1
      omega
theorem splice_map {α β : Type} (f : α → β) (L : List α) (off : Nat) (cs : List α) : splice (L.map f) off (cs.map f) = (splice L off cs).map f := by
  simp [splice, List.map_take, List.map_drop]

end Go.Proofs.Ythmcheoehcmglaa
