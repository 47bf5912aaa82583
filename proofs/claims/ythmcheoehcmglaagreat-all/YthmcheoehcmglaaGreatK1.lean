/- Plain facts: the numbers that bytes tell, what a frame keeps, how the reader lies in memory. Nothing of the program. -/
import Derived.WalkKit
import Derived.WalkSpells
import Derived.WalkLawsBesides
import Derived.Laws.BitsAllLaws
import Derived.Deep.AppendLies
import Derived.Test.YthmcheoehcmglaaGreatProg
import Derived.BigQuiet
import Derived.Deep.QuietTactic
import Derived.Deep.RegionLaw
import Derived.Deep.MidRow
import Derived.Deep.CutRange
import Derived.Deep.DrawnRows
import Derived.Deep.RegionHeld3
import Derived.Laws.BytesString
namespace Go.Proofs.YthmcheoehcmglaaGreat
open Go.RowKit

/-- The number that some bytes tell, the high one first. -/
def be (l : List UInt8) : Int := l.foldl (fun v b => 256 * v + (b.toNat : Int)) 0

theorem be_snoc (l : List UInt8) (b : UInt8) : be (l ++ [b]) = 256 * be l + (b.toNat : Int) := by simp [be]

theorem be_take (l : List UInt8) (k : Nat) (h : k < l.length) : be (l.take (k + 1)) = 256 * be (l.take k) + (l[k].toNat : Int) := by
  rw [List.take_succ_eq_append_getElem h, be_snoc]

theorem be_bd_take (l : List UInt8) : ∀ k, k ≤ l.length → 0 ≤ be (l.take k) ∧ be (l.take k) < 256 ^ k := by
  intro k
  induction k with
  | zero => intro _; simp [be]
  | succ k ih =>
    intro hk
    rw [be_take l k (by omega)]
    have := ih (by omega)
    have hb := (l[k]).toNat_lt
    rw [Int.pow_succ]
    omega

theorem pow256 (k : Nat) (h : k ≤ 4) : (256 : Int) ^ k ≤ 4294967296 ∧ (k ≤ 3 → (256 : Int) ^ k ≤ 16777216) ∧ (k ≤ 2 → (256 : Int) ^ k ≤ 65536) ∧ (k ≤ 1 → (256 : Int) ^ k ≤ 256) := by
  match k, h with
  | 0, _ => simp
  | 1, _ => simp
  | 2, _ => simp
  | 3, _ => simp
  | 4, _ => simp

theorem be_bd4 (l : List UInt8) (k : Nat) (h : k ≤ 4) (hk : k ≤ l.length) : 0 ≤ be (l.take k) ∧ be (l.take k) < 4294967296 ∧ (k ≤ 3 → be (l.take k) < 16777216) ∧ (k ≤ 2 → be (l.take k) < 65536) ∧ (k ≤ 1 → be (l.take k) < 256) := by
  have h1 := be_bd_take l k hk
  have h2 := pow256 k h
  refine ⟨h1.1, by omega, fun h => ?_, fun h => ?_, fun h => ?_⟩
  · have := h2.2.1 h; omega
  · have := h2.2.2.1 h; omega
  · have := h2.2.2.2 h; omega

theorem ret_int {k : IntKind} {a b : Int} (h : a = b) : Ending.returned (.int k a) = .returned (.int k b) := by rw [h]
theorem ret_bool {a b : Bool} (h : a = b) : Ending.returned (.bool a) = .returned (.bool b) := by rw [h]

theorem hid {p : Prop} (h : p) : Hid p := h

theorem len_data (s : ByteArray) : s.data.toList.length = s.size := Array.length_toList

/-- A byte more: the shift leaves room for it. -/
theorem or_byte (x c : Int) (h0 : 0 ≤ x) (h1 : x < 16777216) (c0 : 0 ≤ c) (c1 : c < 256) : bits .or .u32 (x * 256) c = 256 * x + c := by
  rw [u32_or _ _ (by omega) (by omega) c0 (by omega), nat_join 8 _ _ (by omega) (by omega)]
  omega

/-- Of the blocks of w all but those of S are in w' as they were; new ones may have come. -/
structure Fr (S : Nat → Prop) (w w' : World) : Prop where
  os : w'.os = w.os
  tape : w'.tape = w.tape
  output : w'.output = w.output
  size : w.heap.size ≤ w'.heap.size
  block : ∀ k, k < w.heap.size → ¬ S k → w'.heap[k]? = w.heap[k]?

theorem Fr.refl (S : Nat → Prop) (w : World) : Fr S w w := ⟨rfl, rfl, rfl, Nat.le_refl _, fun _ _ _ => rfl⟩
theorem Fr.trans {S : Nat → Prop} {a b c : World} (h : Fr S a b) (k : Fr (fun i => S i ∨ a.heap.size ≤ i) b c) : Fr S a c :=
  ⟨k.os.trans h.os, k.tape.trans h.tape, k.output.trans h.output, Nat.le_trans h.size k.size,
    fun i hi hs => (k.block i (Nat.lt_of_lt_of_le hi h.size) (fun h' => h'.elim hs (by omega))).trans (h.block i hi hs)⟩
theorem Fr.mono {S S' : Nat → Prop} {a b : World} (h : Fr S a b) (hs : ∀ i, S i → S' i) : Fr S' a b :=
  ⟨h.os, h.tape, h.output, h.size, fun i hi hn => h.block i hi fun hh => hn (hs i hh)⟩
theorem Fr.step {S S' : Nat → Prop} {a b c : World} (h : Fr S a b) (k : Fr S' b c) (hs : ∀ i, S' i → S i ∨ a.heap.size ≤ i) : Fr S a c := h.trans (k.mono hs)
theorem Fr.drew {S : Nat → Prop} {a w : World} (h : Fr S a w) : Fr S a w.drew := ⟨h.os, h.tape, h.output, h.size, h.block⟩
theorem Fr.drewN {S : Nat → Prop} {a w : World} (h : Fr S a w) (n : Nat) : Fr S a (w.drewN n) := ⟨h.os, h.tape, h.output, h.size, h.block⟩
theorem Fr.undrew {S : Nat → Prop} {a w : World} (h : Fr S a.drew w) : Fr S a w := ⟨h.os, h.tape, h.output, h.size, h.block⟩
theorem Fr.redrew {S : Nat → Prop} {a w : World} (h : Fr S a w) : Fr S a.drew w := ⟨h.os, h.tape, h.output, h.size, h.block⟩
theorem Fr.alloc {S : Nat → Prop} {a w : World} (h : Fr S a w) (o : Obj) : Fr S a (w.alloc o) :=
  h.step (S' := fun _ => False) ⟨rfl, rfl, rfl, by simp, fun k hk _ => Below.heap_alloc _ _ _ hk⟩ (by simp)
theorem Fr.setCell {S : Nat → Prop} {a w : World} (h : Fr S a w) {p : Addr} (hp : S p.block ∨ a.heap.size ≤ p.block) (u : Value) : Fr S a (w.setCell p u) :=
  h.step (S' := fun i => i = p.block) ⟨rfl, rfl, rfl, by simp [World.setCell], fun k _ hn => Below.heap_setCell _ _ _ _ hn⟩ (by rintro i rfl; exact hp)
theorem Fr.set1 (w : World) (p : Addr) (v : Value) : Fr (fun i => i = p.block) w (w.setCell p v) := (Fr.refl (fun i => i = p.block) w).setCell (p := p) (Or.inl rfl) v
theorem Fr.one (w : World) (b j : Nat) (v : Value) : Fr (fun i => i = b) w (w.setCell ⟨b, j, none⟩ v) := (Fr.refl (fun i => i = b) w).setCell (p := ⟨b, j, none⟩) (Or.inl rfl) v
theorem Fr.setRow {S : Nat → Prop} {a w : World} (h : Fr S a w) {g : Nat} (hp : S g ∨ a.heap.size ≤ g) (cs : Array Value) : Fr S a (w.setRow g cs) := by
  refine h.step (S' := fun i => i = g) ⟨rfl, rfl, rfl, by simp, fun k _ hn => ?_⟩ (by rintro i rfl; exact hp)
  simp only [World.setRow, Array.getElem?_modify]
  rw [if_neg (by omega)]
theorem Fr.grown {S : Nat → Prop} {a w w' : World} {row : Option Nat} (h : Fr S a w) (hg : w.grownBy w' row) (hr : ∀ k, row = some k → S k ∨ a.heap.size ≤ k) : Fr S a w' :=
  h.step (S' := fun i => row = some i) ⟨hg.os, hg.tape, hg.output, hg.size, fun k hk hn => hg.block k hk fun e => hn e.symm⟩ (fun i hi => hr i hi)
theorem Fr.get {S : Nat → Prop} {w w' : World} (h : Fr S w w') {b : Nat} {o : Obj} (hb : w.heap[b]? = some o) (hn : ¬ S b) : w'.heap[b]? = some o :=
  (h.block b (Array.getElem?_eq_some_iff.1 hb).1 hn).trans hb
theorem Fr.below {w w' : World} (h : Fr (fun _ => False) w w') : Below w.heap.size w w' := ⟨h.os, h.tape, h.output, h.size, fun k hk => h.block k hk id⟩
theorem Fr.owns {S : Nat → Prop} {w w' : World} (h : Fr S w w') {base e size n : Nat} {v : Value} {xs : List Value} (ho : w.ownsRow base e size v n xs) (hn : ∀ k, v.ownBlock = some k → ¬ S k) :
    w'.ownsRow base e size v n xs := by
  refine ⟨ho.1, ?_⟩
  rcases ho.2 with h0 | ⟨g, cap, cur, rfl, hb, hgg, rest⟩
  · exact .inl h0
  · exact .inr ⟨g, cap, cur, rfl, hb, h.get hgg (hn g rfl), rest⟩

theorem Fr.owns1 {b : Nat} {w w' : World} (h : Fr (fun i => i = b) w w') {base e size n : Nat} {v : Value} {xs : List Value} (ho : w.ownsRow base e size v n xs) (hb : b < base) : w'.ownsRow base e size v n xs :=
  h.owns ho (fun k hk (e : k = b) => by have := (ho.lt k hk).1; omega)
theorem Fr.get1 {b : Nat} {w w' : World} (h : Fr (fun i => i = b) w w') {c : Nat} {o : Obj} (hc : w.heap[c]? = some o) (hn : c ≠ b) : w'.heap[c]? = some o := h.get hc hn
theorem lt_of_get {w : World} {b : Nat} {o : Obj} (h : w.heap[b]? = some o) : b < w.heap.size := (Array.getElem?_eq_some_iff.1 h).1

/-- The row of cells of a block, as the walk asks for them. -/
theorem row_cell {w : World} {b : Nat} {cs : Array Value} {t : TypeId} (h : w.heap[b]? = some (.cells cs t (0, 0))) (j : Nat) : w.cell? ⟨b, j, none⟩ = cs[j]? := cell_of_row w b j cs t (0, 0) h
theorem row_frozen {w : World} {b : Nat} {cs : Array Value} {t : TypeId} (h : w.heap[b]? = some (.cells cs t (0, 0))) (j : Nat) : w.frozen? ⟨b, j, none⟩ = false := frozen_of_row w b j cs t h
theorem row_set {w : World} {b : Nat} {cs : Array Value} {t : TypeId} (h : w.heap[b]? = some (.cells cs t (0, 0))) (j : Nat) (v : Value) :
    (w.setCell ⟨b, j, none⟩ v).heap[b]? = some (.cells (cs.setIfInBounds j v) t (0, 0)) := heap_setCell_same w b j cs t v h

theorem set_other {w : World} {b : Nat} {o : Obj} (h : w.heap[b]? = some o) {p : Addr} (hne : b ≠ p.block) (v : Value) : (w.setCell p v).heap[b]? = some o :=
  (heap_setCell_other w p b v hne).trans h

theorem Fr.getOwn {w w' w0 : World} {base e size n : Nat} {v : Value} {xs : List Value} (h : Fr (fun i => v.ownBlock = some i) w w') (ho : w0.ownsRow base e size v n xs) {c : Nat} {o : Obj} (hc : w.heap[c]? = some o) (hn : c < base) : w'.heap[c]? = some o :=
  h.get hc (fun e => by have := (ho.lt c e).1; omega)
theorem get_alloc {w : World} {c : Nat} {o : Obj} (h : w.heap[c]? = some o) (o' : Obj) : (w.alloc o').heap[c]? = some o := (Below.heap_alloc w o' c (lt_of_get h)).trans h

theorem owns_shape {w : World} {base e size n : Nat} {v : Value} {xs : List Value} (h : w.ownsRow base e size v n xs) : ∃ ao c, v = .slice ao n c := by
  rcases h.2 with ⟨h1, rfl⟩ | ⟨g, cap, cur, h1, _⟩
  · exact ⟨none, 0, h1⟩
  · exact ⟨_, _, h1⟩

/-- A row of another element type lies in another block. -/
theorem owns_ne {w : World} {base e size n : Nat} {v : Value} {xs : List Value} (h : w.ownsRow base e size v n xs) {c : Nat} {cs : Array Value} {t : TypeId} {fr : Nat × Nat} (hc : w.heap[c]? = some (.cells cs t fr)) (hne : t ≠ e) : v.ownBlock ≠ some c := by
  intro hv
  rcases h.2 with ⟨rfl, _⟩ | ⟨g, cap, cur, rfl, _, hg, _⟩
  · cases hv
  · simp only [Value.ownBlock, Option.some.injEq] at hv
    subst hv
    rw [hc] at hg
    simp only [Option.some.injEq, Obj.cells.injEq] at hg
    exact hne hg.2.1
theorem Fr.getT {w w' : World} {base e size n : Nat} {v : Value} {xs : List Value} (h : Fr (fun i => v.ownBlock = some i) w w') (ho : w.ownsRow base e size v n xs) {c : Nat} {cs : Array Value} {t : TypeId} {fr : Nat × Nat} (hc : w.heap[c]? = some (.cells cs t fr)) (hne : t ≠ e) : w'.heap[c]? = some (.cells cs t fr) :=
  h.get hc (owns_ne ho hc hne)
theorem Fr.ownsT {w w' : World} {base e size n : Nat} {v : Value} {xs : List Value} (h : Fr (fun i => v.ownBlock = some i) w w') (ho : w.ownsRow base e size v n xs)
    {base' e' size' n' : Nat} {v' : Value} {xs' : List Value} (ho' : w.ownsRow base' e' size' v' n' xs') (hne : e' ≠ e) : w'.ownsRow base' e' size' v' n' xs' := by
  refine ⟨ho'.1, ?_⟩
  rcases ho'.2 with h0 | ⟨g, cap, cur, rfl, hb, hgg, rest⟩
  · exact .inl h0
  · exact .inr ⟨g, cap, cur, rfl, hb, h.getT ho hgg hne, rest⟩
/-- A store into a block of another element type. -/
theorem owns_setT {w : World} {base e size n : Nat} {v : Value} {xs : List Value} (h : w.ownsRow base e size v n xs) {c j : Nat} {cs : Array Value} {t : TypeId} {fr : Nat × Nat} (hc : w.heap[c]? = some (.cells cs t fr)) (hne : t ≠ e) (u : Value) :
    (w.setCell ⟨c, j, none⟩ u).ownsRow base e size v n xs :=
  (Fr.set1 w ⟨c, j, none⟩ u).owns h (fun k hk (e' : k = c) => owns_ne h hc hne (by rw [hk, e']))

theorem le_alloc {n : Nat} {w : World} (h : n ≤ w.heap.size) (o : Obj) : n ≤ (w.alloc o).heap.size := by simp; omega

/-- What the laws on append ask of a slice type and of its elements. -/
structure SlT (P : Program) (t e : TypeId) (size bytes : Nat) : Prop where
  ht : P.underlying t = some (.slice e)
  info : ∃ i z, P.info? e = some i ∧ i.zero = some z ∧ i.size = size ∧ i.bytes = bytes ∧ z.cells.size = size
  pos : 0 < size

theorem SlT.mk' {P : Program} {t e : TypeId} {size bytes : Nat} {z : Value} (ht : P.underlying t = some (.slice e)) (hi : (P.info? e).map (fun i => (i.zero, i.size, i.bytes)) = some (some z, size, bytes)) (hz : z.cells.size = size) (hp : 0 < size) : SlT P t e size bytes := by
  obtain ⟨i0, hi0, hz0, hz1, hz2⟩ := info_parts hi
  exact ⟨ht, ⟨i0, z, hi0, hz0, hz1, hz2, hz⟩, hp⟩

/-- append of one element that lies in a block of its own, as a step of a region that draws its order. -/
theorem step_app {P : Program} {w : World} {ops : Array Oper} {o : Oper} {a : Act} {K : Act → World → Prop} {Q : Exit → Act → World → Prop} {E : Prop} {t e : TypeId} {size bytes : Nat} (T : SlT P t e size bytes)
    (hgd : o.guard = none) (s x : Operand) (ho : o.op = .call { callee := .builtin .append, args := #[s, x], argTypes := #[t, t] })
    (base : Nat) (v : Value) (n : Nat) (xs : List Value) (hs : a.eval s = v) (hown : w.ownsRow base e size v n xs)
    (B : Nat) (cs : Array Value) (e' : TypeId) (hx : a.eval x = .slice (some ⟨B, 0, none⟩) 1 1) (hB : w.heap[B]? = some (.cells cs e' (0, 0))) (hl : cs.size = size) (h1 : ∀ u ∈ cs.toList, u.oneCell' = true)
    (hn : n + 1 ≤ 1073741824) (hby : bytes ≤ 4096) (hbase : base ≤ w.heap.size)
    (h : ∀ g cap w', w'.ownsRow base e size (.slice (some ⟨g, 0, none⟩) (n + 1) cap) (n + 1) (xs ++ cs.toList) → Fr (fun i => v.ownBlock = some i) w w' → (v.ownBlock = some g ∨ g = w.heap.size) → K (a.put o.dst (.slice (some ⟨g, 0, none⟩) (n + 1) cap)) w') :
    if Region.wanted o (yielded ops a.tmps) = true then Oper.wp P o a w K Q else E := by
  obtain ⟨i, z, hi, hz, hsz, hb, hzs⟩ := T.info
  have hmul : (n + 1) * bytes ≤ 1073741824 * 4096 := Nat.mul_le_mul hn hby
  exact step_append_lies w hgd s x t ho base e i z size bytes T.ht hi hz hsz hb hzs T.pos v n xs hs hown ⟨B, 0, none⟩ 1 1 cs.toList hx (by simp [hl]) (World.news_of_block hB) h1
    (by omega) (by unfold maxLen; omega) (by omega) hbase w.heap.size rfl
    (fun g cap w' h2 h3 h4 h5 => h g cap w' h2 ⟨h3.os, h3.tape, h3.output, h3.size, fun k hk hn => h3.block k hk (fun e => hn e.symm)⟩ h4)

/-- The same at a plain region's list. -/
theorem wpList_app {P : Program} {w : World} {ops : Array Oper} {rest : List Oper} {o : Oper} {a : Act} {Q : Exit → Act → World → Prop} {t e : TypeId} {size bytes : Nat} (T : SlT P t e size bytes)
    (hgd : o.guard = none) (s x : Operand) (ho : o.op = .call { callee := .builtin .append, args := #[s, x], argTypes := #[t, t] })
    (base : Nat) (v : Value) (n : Nat) (xs : List Value) (hs : a.eval s = v) (hown : w.ownsRow base e size v n xs)
    (B : Nat) (cs : Array Value) (e' : TypeId) (hx : a.eval x = .slice (some ⟨B, 0, none⟩) 1 1) (hB : w.heap[B]? = some (.cells cs e' (0, 0))) (hl : cs.size = size) (h1 : ∀ u ∈ cs.toList, u.oneCell' = true)
    (hn : n + 1 ≤ 1073741824) (hby : bytes ≤ 4096) (hbase : base ≤ w.heap.size)
    (h : ∀ g cap w', w'.ownsRow base e size (.slice (some ⟨g, 0, none⟩) (n + 1) cap) (n + 1) (xs ++ cs.toList) → Fr (fun i => v.ownBlock = some i) w w' → (v.ownBlock = some g ∨ g = w.heap.size) → wpList P ops Q rest (a.put o.dst (.slice (some ⟨g, 0, none⟩) (n + 1) cap)) w') :
    wpList P ops Q (o :: rest) a w := by
  obtain ⟨i, z, hi, hz, hsz, hb, hzs⟩ := T.info
  have hmul : (n + 1) * bytes ≤ 1073741824 * 4096 := Nat.mul_le_mul hn hby
  exact wpList_append_lies w hgd s x t ho base e i z size bytes T.ht hi hz hsz hb hzs T.pos v n xs hs hown ⟨B, 0, none⟩ 1 1 cs.toList hx (by simp [hl]) (World.news_of_block hB) h1
    (by omega) (by unfold maxLen; omega) (by omega) hbase w.heap.size rfl
    (fun g cap w' h2 h3 h4 h5 => h g cap w' h2 ⟨h3.os, h3.tape, h3.output, h3.size, fun k hk hn => h3.block k hk (fun e => hn e.symm)⟩ h4)

/-- A call of a Go function that has a body, as a step of a region that draws its order: by the callee's contract. -/
theorem step_call {P : Program} {w : World} {ops : Array Oper} {o : Oper} {a : Act} {K : Act → World → Prop} {Q : Exit → Act → World → Prop} {E : Prop} {f : FuncId} {xl : List Operand} {ats : Array TypeId} {fn : Func}
    (hf : P.funcs[f]? = some fn) (hnm : (fn.name == "runtime.NumGoroutine") = false) (hbd : fn.body.isNone = false) (hgd : o.guard = none) (ho : o.op = .call { callee := .value (.func f), args := xl.toArray, argTypes := ats })
    (args : List Value) (hargs : xl.map a.eval = args) (h : Calls P f args.toArray w fun e w' => ∃ v, e = .returned v ∧ K (a.put o.dst v) w') :
    if Region.wanted o (yielded ops a.tmps) = true then Oper.wp P o a w K Q else E := by
  obtain ⟨dst, op, ty, pos, after, guard⟩ := o
  simp only at hgd ho h
  subst hgd ho
  rw [if_pos (by simp [Region.wanted])]
  unfold Oper.wp
  have hargs' : (#[] ++ xl.toArray.map a.eval ++ #[] : Array Value) = args.toArray := by simp [hargs]
  rw [execOp_call_go, hargs']
  have hr : (callFunc f args.toArray).run P w = .ok (.enter f args.toArray) w := by
    unfold callFunc program
    simp only [bind, Sem.bind, Sem.run, hf, hnm, hbd]
    rfl
  rw [hr, Oper.upon_enter]
  refine h.mono ?_
  rintro e w' ⟨v, rfl, hk⟩
  exact hk

theorem owns_base {w : World} {base base' e size n : Nat} {v : Value} {xs : List Value} (h : w.ownsRow base e size v n xs) (hb : base' ≤ base) : w.ownsRow base' e size v n xs := by
  refine ⟨h.1, ?_⟩
  rcases h.2 with h | ⟨g, cap, cur, h1, h2, h3⟩
  · exact .inl h
  · exact .inr ⟨g, cap, cur, h1, by omega, h3⟩

end Go.Proofs.YthmcheoehcmglaaGreat
/- How a ward is: the words, and the cells. -/
namespace Go.Proofs.YthmcheoehcmglaaGreat
open Go.RowKit

/-- How a ward is. -/
structure StV where
  regs : List Int
  place : Int
  status : Int
  cause : Int
  busy : Int
  y : Bool
def StV.Ok (s : StV) : Prop := s.regs.length = 8 ∧ 0 ≤ s.status ∧ s.status < 4294967296 ∧ 0 ≤ s.cause ∧ s.cause < 4294967296 ∧ 0 ≤ s.busy ∧ s.busy < 4294967296
def stCells (s : StV) : List Value := s.regs.map (Value.int .u32) ++ [.int .u32 s.place, .int .i64 s.status, .int .i64 s.cause, .int .i64 s.busy, .bool s.y]
def yWord (b : Bool) : Int := if b then 1 else 0
def stWords (s : StV) : List Int := s.regs ++ [s.place, s.status, s.cause, s.busy, yWord s.y]
def wordCells (l : List Int) : List Value := l.map (Value.int .u32)

theorem st13 (s : StV) (h : s.regs.length = 8) : ∃ r0 r1 r2 r3 r4 r5 r6 r7, s.regs = [r0, r1, r2, r3, r4, r5, r6, r7] := by
  match hs : s.regs, h with
  | [r0, r1, r2, r3, r4, r5, r6, r7], _ => exact ⟨r0, r1, r2, r3, r4, r5, r6, r7, rfl⟩

end Go.Proofs.YthmcheoehcmglaaGreat
/- The processor: first, second, address, become, jumpIf, register, decode. -/
namespace Go.Proofs.YthmcheoehcmglaaGreat
open Go.RowKit
set_option linter.unusedVariables false
attribute [local go_sem ↓] Go.wp_at_zero Go.wp_at_succ

/-- An instruction that is being done lies in block B. -/
def workCells (s : StV) (c a b n : Int) (o : Value) : List Value := stCells s ++ [.int .i64 c, .int .i64 a, .int .i64 b, .int .u32 n, o]
def WorkAt (w : World) (B : Nat) (s : StV) (c a b n : Int) (o : Value) : Prop := w.heap[B]? = some (.cells (workCells s c a b n o).toArray 191 (0, 0))

theorem work_lit (s : StV) (h : s.regs.length = 8) (c a b n : Int) (o : Value) : ∃ r0 r1 r2 r3 r4 r5 r6 r7, s.regs = [r0, r1, r2, r3, r4, r5, r6, r7] ∧ workCells s c a b n o = [.int .u32 r0, .int .u32 r1, .int .u32 r2, .int .u32 r3, .int .u32 r4, .int .u32 r5, .int .u32 r6, .int .u32 r7, .int .u32 s.place, .int .i64 s.status, .int .i64 s.cause, .int .i64 s.busy, .bool s.y, .int .i64 c, .int .i64 a, .int .i64 b, .int .u32 n, o] := by
  obtain ⟨r0, r1, r2, r3, r4, r5, r6, r7, hr⟩ := st13 _ h
  exact ⟨r0, r1, r2, r3, r4, r5, r6, r7, hr, by unfold workCells stCells; rw [hr]; rfl⟩

theorem WorkAt.reg {w : World} {B : Nat} {s : StV} {c a b n : Int} {o : Value} (h : WorkAt w B s c a b n o) (i : Nat) (r : Int) (hr : s.regs[i]? = some r) : w.cell? ⟨B, i, none⟩ = some (.int .u32 r) := by
  unfold WorkAt at h
  have hi := (List.getElem?_eq_some_iff.1 hr).1
  rw [row_cell h]
  unfold workCells stCells
  rw [List.getElem?_toArray, List.getElem?_append_left (by simp; omega), List.getElem?_append_left (by simp; omega), List.getElem?_map, hr]
  rfl
theorem WorkAt.at {w : World} {B : Nat} {s : StV} {c a b n : Int} {o : Value} (h : WorkAt w B s c a b n o) (h8 : s.regs.length = 8) (j : Nat) : w.cell? ⟨B, 8 + j, none⟩ = ([.int .u32 s.place, .int .i64 s.status, .int .i64 s.cause, .int .i64 s.busy, .bool s.y, .int .i64 c, .int .i64 a, .int .i64 b, .int .u32 n, o] : List Value)[j]? := by
  unfold WorkAt at h
  obtain ⟨r0, r1, r2, r3, r4, r5, r6, r7, hr, hc⟩ := work_lit s h8 c a b n o
  rw [row_cell h, hc, List.getElem?_toArray, Nat.add_comm]
  rfl

set_option maxRecDepth 100000 in
set_option maxHeartbeats 1000000 in
theorem first_any (w : World) (B : Nat) (s : StV) (c b n : Int) (a : Nat) (o : Value) (h : WorkAt w B s c a b n o) (h8 : s.regs.length = 8) (r : Int) (hr : s.regs[a]? = some r) :
    Calls Tryz.prog 145 #[.pointer (some ⟨B, 0, none⟩)] w fun e w' => e = .returned (.int .u32 r) ∧ ∃ m, w' = w.drewN m := by
  have ha : a < 8 := by rw [← h8]; exact (List.getElem?_eq_some_iff.1 hr).1
  have hai : (a : Int) < 8 := by omega
  have ha0 : (0 : Int) ≤ (a : Int) := by omega
  have c1 : w.cell? ⟨B, 14, none⟩ = some (.int .i64 a) := h.at h8 6
  have c2 : w.cell? ⟨B, a, none⟩ = some (.int .u32 r) := h.reg a r hr
  clear h hr h8
  go_enter Tryz.func145, Tryz.ntmps145
  go_wp2_with fail
  go_quiet (fail)
  go_wp2_with fail
  go_ret
  exact ⟨rfl, _, rfl⟩

set_option maxRecDepth 100000 in
set_option maxHeartbeats 1000000 in
theorem second_any (w : World) (B : Nat) (s : StV) (c a n : Int) (b : Nat) (o : Value) (h : WorkAt w B s c a b n o) (h8 : s.regs.length = 8) (r : Int) (hr : s.regs[b]? = some r) :
    Calls Tryz.prog 146 #[.pointer (some ⟨B, 0, none⟩)] w fun e w' => e = .returned (.int .u32 r) ∧ ∃ m, w' = w.drewN m := by
  have ha : b < 8 := by rw [← h8]; exact (List.getElem?_eq_some_iff.1 hr).1
  have hai : (b : Int) < 8 := by omega
  have ha0 : (0 : Int) ≤ (b : Int) := by omega
  have c1 : w.cell? ⟨B, 15, none⟩ = some (.int .i64 b) := h.at h8 7
  have c2 : w.cell? ⟨B, b, none⟩ = some (.int .u32 r) := h.reg b r hr
  clear h hr h8
  go_enter Tryz.func146, Tryz.ntmps146
  go_wp2_with fail
  go_quiet (fail)
  go_wp2_with fail
  go_ret
  exact ⟨rfl, _, rfl⟩

theorem WorkAt.fr {w w' : World} {B : Nat} {s : StV} {c a b n : Int} {o : Value} (h : WorkAt w B s c a b n o) (hf : Fr (fun _ => False) w w') : WorkAt w' B s c a b n o := hf.get h id
theorem WorkAt.drewN {w : World} {B : Nat} {s : StV} {c a b n : Int} {o : Value} (h : WorkAt w B s c a b n o) (m : Nat) : WorkAt (w.drewN m) B s c a b n o := h

theorem WorkAt.setReg {w : World} {B : Nat} {s : StV} {c a b n : Int} {o : Value} (h : WorkAt w B s c a b n o) (i : Nat) (hi : i < s.regs.length) (v : Int) : WorkAt (w.setCell ⟨B, i, none⟩ (.int .u32 v)) B { s with regs := s.regs.set i v } c a b n o := by
  unfold WorkAt at h ⊢
  rw [row_set h, List.setIfInBounds_toArray]
  unfold workCells stCells
  rw [List.set_append_left _ _ (by simp; omega), List.set_append_left _ _ (by simp; omega), List.map_set]

set_option maxRecDepth 100000 in
set_option maxHeartbeats 1000000 in
theorem become_any (w : World) (B : Nat) (s : StV) (c b n : Int) (a : Nat) (o : Value) (h : WorkAt w B s c a b n o) (h8 : s.regs.length = 8) (ha : a < 8) (v : Int) :
    Calls Tryz.prog 144 #[.pointer (some ⟨B, 0, none⟩), .int .u32 v] w fun e w' => e = .returned (.int .i64 0) ∧ WorkAt w' B { s with regs := s.regs.set a v } c a b n o ∧ Fr (fun i => i = B) w w' := by
  have H := hid h
  have HA := hid (h8 ▸ ha)
  have hai : (a : Int) < 8 := by omega
  have ha0 : (0 : Int) ≤ (a : Int) := by omega
  have c1 : w.cell? ⟨B, 14, none⟩ = some (.int .i64 a) := h.at h8 6
  obtain ⟨r, hr⟩ : ∃ r, s.regs[a]? = some r := ⟨_, List.getElem?_eq_getElem (by omega)⟩
  have c2 : w.cell? ⟨B, a, none⟩ = some (.int .u32 r) := h.reg a r hr
  have f2 : w.frozen? ⟨B, a, none⟩ = false := row_frozen h a
  clear h hr h8
  go_enter Tryz.func144, Tryz.ntmps144
  go_wp2_with fail
  go_region_law (fail)
  all_goals
    have HW := hid ((show WorkAt w.drew B s c a b n o from H.out).setReg a HA.out v)
    have HF := hid ((((Fr.refl (fun i => i = B) w).drew).setCell (p := ⟨B, a, none⟩) (.inl rfl) (.int .u32 v)))
    go_wp2_with fail
    go_ret
    exact ⟨rfl, HW.out, HF.out⟩

set_option maxRecDepth 100000 in
set_option maxHeartbeats 1000000 in
theorem register_any (w : World) (v : Int) (h0 : 0 ≤ v) (h1 : v < 4294967296) :
    Calls Tryz.prog 125 #[.int .u32 v] w fun e w' => e = .returned (.int .i64 (v % 8)) ∧ w' = w := by
  have hm : v.tmod 8 = v % 8 := Int.tmod_eq_emod_of_nonneg h0
  have hm0 : 0 ≤ v % 8 := by omega
  have hm1 : v % 8 < 8 := by omega
  go_enter Tryz.func125, Tryz.ntmps125
  go_wp2_with fail
  go_ret
  exact ⟨rfl, rfl⟩

set_option maxRecDepth 100000 in
set_option maxHeartbeats 1000000 in
theorem decode_any (w : World) (v : Int) (h0 : 0 ≤ v) (h1 : v < 4294967296) :
    Calls Tryz.prog 118 #[.int .u32 v] w fun e w' => e = .returned (.agg #[.int .i64 (v / 16777216), .int .i64 (v / 1048576 % 8), .int .i64 (v / 65536 % 8), .int .u32 (v % 65536)]) ∧ Fr (fun _ => False) w w' := by
  go_enter Tryz.func118, Tryz.ntmps118
  have ha0 : 0 ≤ v / 1048576 := by omega
  have ha1 : v / 1048576 < 4294967296 := by omega
  have hb0 : 0 ≤ v / 65536 := by omega
  have hb1 : v / 65536 < 4294967296 := by omega
  go_wp2_with fail
  refine (register_any _ _ ha0 ha1).mono ?_
  rintro e w1 ⟨rfl, rfl⟩
  go_wp2_with fail
  refine (register_any _ _ hb0 hb1).mono ?_
  rintro e w1 ⟨rfl, rfl⟩
  have hand : bits .and .u32 v 65535 = v % 65536 := by
    rw [u32_and v 65535 h0 h1 (by omega) (by omega), show (65535 : Int).toNat = 2 ^ 16 - 1 from rfl, Nat.and_two_pow_sub_one_eq_mod]
    omega
  go_wp2_with fail
  refine bodyPost_ret (v := .agg #[.int .i64 (v / 16777216), .int .i64 (v / 1048576 % 8), .int .i64 (v / 65536 % 8), .int .u32 (v % 65536)]) ?_ rfl ⟨rfl, (Fr.refl _ w).alloc _⟩
  simp [results, Tryz.results118, go_sem]

end Go.Proofs.YthmcheoehcmglaaGreat
/- The statements' own functions (wardskeep): pick, within, bytes, code. -/
namespace Go.Proofs.YthmcheoehcmglaaGreat
open Go.RowKit
set_option linter.unusedVariables false
attribute [local go_sem ↓] Go.wp_at_zero Go.wp_at_succ

def pickM (c n : Int) : Int := (if c < 0 then -(c + 1) else c) % n
theorem pickM_bd (c n : Int) (h : 0 < n) : 0 ≤ pickM c n ∧ pickM c n < n := ⟨Int.emod_nonneg _ (by omega), Int.emod_lt_of_pos _ h⟩
def I64 (c : Int) : Prop := -9223372036854775808 ≤ c ∧ c ≤ 9223372036854775807

set_option maxRecDepth 100000 in
set_option maxHeartbeats 1000000 in
theorem pick_any (c n : Int) (w : World) (hc : I64 c) (hn : 0 < n) (hn2 : n ≤ 4294967296) :
    Calls Tryz.prog 27 #[.int .i64 c, .int .i64 n] w fun e w' => e = .returned (.int .i64 (pickM c n)) ∧ w' = w := by
  obtain ⟨h0, h1⟩ := hc
  have hnz : ¬ n = 0 := by omega
  by_cases h : c < 0
  · have HP : Hid (pickM c n = -((c + 1).tmod n)) := by unfold Hid pickM; rw [if_pos h, ← Int.neg_tmod, Int.tmod_eq_emod_of_nonneg (by omega)]
    go_enter Tryz.func27, Tryz.ntmps27
    go_wp2
    go_ret
    exact ⟨by rw [HP.out]; rfl, rfl⟩
  · have HP : Hid (pickM c n = c % n) := by unfold Hid pickM; rw [if_neg h]
    go_enter Tryz.func27, Tryz.ntmps27
    go_wp2
    go_ret
    exact ⟨by rw [HP.out]; rfl, rfl⟩

theorem conv1 (w : World) (b : Nat) (x : Int) (h : w.cell? ⟨b, 0, none⟩ = some (.int .u8 x)) : (convert 107 9 (.slice (some ⟨b, 0, none⟩) 1 1)).run Tryz.prog w = .ok (.string ⟨#[UInt8.ofNat x.toNat]⟩) w := by
  have hl : (loadCells ⟨b, 0, none⟩ 1).run Tryz.prog w = .ok ([x].map (Value.int .u8)).toArray w := by
    go_simp
  rw [run_convert_bytes_string w 107 9 5 _ 1 1 Tryz.underlying107 Tryz.underlying5 Tryz.underlying9, run_bytesToString w _ 1 1 [x] hl]
  rfl
attribute [local go_sem] conv1
def byteN (v : Int) : UInt8 := UInt8.ofNat (v % 256).toNat
/-- The n low bytes, the high one first. -/
def lowB (v : Int) : Nat → List UInt8
  | 0 => []
  | k + 1 => byteN (v / 256 ^ k) :: lowB v k
theorem lowB_len (v : Int) (n : Nat) : (lowB v n).length = n := by induction n with
  | zero => rfl
  | succ n ih => simp [lowB, ih]

set_option maxRecDepth 100000 in
set_option maxHeartbeats 1000000 in
theorem bytes_any (v : Int) (n : Nat) (w : World) (hv : I64 v) (hn : n ≤ 4) :
    Calls Tryz.prog 32 #[.int .i64 v, .int .i64 n] w fun e w' => e = .returned (.string ⟨(lowB v n).toArray⟩) ∧ Fr (fun _ => False) w w' := by
  obtain ⟨h0, h1⟩ := hv
  go_enter Tryz.func32, Tryz.ntmps32
  go_wp2_with fail
  go_loopw [0, 1, 5] (fun a b c wr => ∃ k : Nat, k ≤ n ∧ b = .int .i64 ((n - k : Nat) : Int) ∧ a = .int .i64 (v / 256 ^ k) ∧ c = .string ⟨(lowB v k).toArray⟩ ∧ Fr (fun _ => False) w wr) (fun _ b _ _ => (intOf b).toNat)
  case atStart => exact ⟨0, Nat.zero_le _, rfl, by simp, rfl, Fr.refl _ _⟩
  case round =>
    obtain ⟨k, hk, rfl, rfl, rfl, hf⟩ := hrel
    have HF := hid hf
    clear hf
    by_cases hlt : k < n
    · obtain ⟨j, hj⟩ : ∃ j, n - k = j + 1 := ⟨n - k - 1, by omega⟩
      have hj1 : (0 : Int) < ((n - k : Nat) : Int) := by omega
      have hvb : I64 (v / 256 ^ k) := by
        have hk4 : k < 4 := by omega
        unfold I64
        match k, hk4 with
        | 0, _ => simp; omega
        | 1, _ => simp; omega
        | 2, _ => simp; omega
        | 3, _ => simp; omega
      obtain ⟨hv0, hv1⟩ := hvb
      have HV : Hid (v / 256 ^ (k + 1) = v / 256 ^ k / 256) := by unfold Hid; rw [Int.pow_succ, Int.ediv_ediv_of_nonneg (Int.le_of_lt (Int.pow_pos (by omega)))]
      have HL : Hid (lowB v (k + 1) = UInt8.ofNat (v / 256 ^ k % 256).toNat :: lowB v k) := rfl
      have hsz : ¬ (9223372036854775807 < 1 + (lowB v k).length) := by rw [lowB_len]; omega
      generalize v / 256 ^ k = u at *
      go_wp2_with fail
      refine ⟨⟨k + 1, by omega, by go_num, by rw [HV.out], ?_, HF.out.alloc _⟩, ?_⟩
      · rw [HL.out, ByteArray.mk_append_mk]
        simp
      · simp [intOf]
        omega
    · obtain rfl : k = n := by omega
      have hj1 : ¬ ((0 : Int) < ((k - k : Nat) : Int)) := by omega
      go_wp2_with fail
      go_ret
      exact ⟨rfl, HF.out⟩

set_option maxRecDepth 100000 in
set_option maxHeartbeats 1000000 in
theorem kwithin_in (v lo hi : Int) (w : World) (h0 : lo ≤ v) (h1 : v ≤ hi) :
    Calls Tryz.prog 42 #[.int .i64 v, .int .i64 lo, .int .i64 hi] w fun e w' => e = .returned (.int .i64 v) ∧ w' = w := by
  go_enter Tryz.func42, Tryz.ntmps42
  go_wp2_with fail
  go_ret
  exact ⟨rfl, rfl⟩

def withinM (v lo hi : Int) : Int := if lo ≤ v ∧ v ≤ hi then v else lo + pickM v (hi - lo + 1)
theorem withinM_bd (v lo hi : Int) (h : lo ≤ hi) : lo ≤ withinM v lo hi ∧ withinM v lo hi ≤ hi := by
  unfold withinM
  have := pickM_bd v (hi - lo + 1) (by omega)
  split <;> omega

set_option maxRecDepth 100000 in
set_option maxHeartbeats 1000000 in
theorem kwithin_any (v lo hi : Int) (w : World) (hv : I64 v) (hl : 0 ≤ lo) (hlh : lo ≤ hi) (hh : hi ≤ 100000) :
    Calls Tryz.prog 42 #[.int .i64 v, .int .i64 lo, .int .i64 hi] w fun e w' => e = .returned (.int .i64 (withinM v lo hi)) ∧ w' = w := by
  by_cases h : lo ≤ v ∧ v ≤ hi
  · have e : withinM v lo hi = v := by unfold withinM; rw [if_pos h]
    rw [e]
    exact kwithin_in v lo hi w h.1 h.2
  · have HE : Hid (withinM v lo hi = lo + pickM v (hi - lo + 1)) := by unfold Hid withinM; rw [if_neg h]
    have hp := pickM_bd v (hi - lo + 1) (by omega)
    have HV := hid hv
    clear hv
    by_cases hlo : lo ≤ v
    · have hhi : ¬ v ≤ hi := by omega
      go_enter Tryz.func42, Tryz.ntmps42
      go_wp2_with fail
      refine (pick_any _ _ _ HV.out (by omega) (by omega)).mono ?_
      rintro e w1 ⟨rfl, rfl⟩
      generalize pickM v (hi - lo + 1) = p at *
      go_wp2_with fail
      go_ret
      exact ⟨by rw [HE.out]; rfl, rfl⟩
    · go_enter Tryz.func42, Tryz.ntmps42
      go_wp2_with fail
      refine (pick_any _ _ _ HV.out (by omega) (by omega)).mono ?_
      rintro e w1 ⟨rfl, rfl⟩
      generalize pickM v (hi - lo + 1) = p at *
      go_wp2_with fail
      go_ret
      exact ⟨by rw [HE.out]; rfl, rfl⟩

end Go.Proofs.YthmcheoehcmglaaGreat
