/- wards.start: the machine that a plan tells of. -/
import Derived.Test.YthmcheoehcmglaaW16
import Derived.Deep.CutRange
namespace Go.Proofs.Ythmcheoehcmglaa
open Go.RowKit
set_option linter.unusedVariables false
attribute [local go_sem ↓] Go.wp_at_zero Go.wp_at_succ

/-- copy, in words of rows, at a step of a region that draws its order; the source may be nil. -/
theorem step_copyF {P : Program} {ops : Array Oper} {o : Oper} {a : Act} {w : World} {K : Act → World → Prop} {Q : Exit → Act → World → Prop} {E : Prop} (hgd : o.guard = none) (d s : Operand) (dT sT : TypeId)
    (ho : o.op = .call { callee := .builtin .copy, args := #[d, s], argTypes := #[dT, sT] }) (elem : TypeId) (hu : P.underlying dT = some (.slice elem)) (hsz : (P.info? elem).map (·.size) = some 1)
    (g off dLen dCap : Nat) (sp : Option Addr) (sLen sCap : Nat) (hd : a.eval d = .slice (some ⟨g, off, none⟩) dLen dCap) (hs : a.eval s = .slice sp sLen sCap)
    (cur : List Value) (t : TypeId) (hg : w.heap[g]? = some (.cells cur.toArray t (0, 0))) (cs : List Value) (hn : cs.length = Nat.min sLen dLen)
    (hpos : 0 < cs.length → ∃ ad, sp = some ad ∧ ∀ j v, cs[j]? = some v → w.cell? (ad.add j) = some v) (hfit : off + cs.length ≤ cur.length) (h1 : ∀ v ∈ cs, v.oneCell' = true)
    (h : ∀ w', w'.heap[g]? = some (.cells (splice cur off cs).toArray t (0, 0)) → Fr (fun i => i = g) w w' → K (a.put o.dst (goInt cs.length)) w') :
    if Region.wanted o (yielded ops a.tmps) = true then Oper.wp P o a w K Q else E := by
  have hw : Region.wanted o (yielded ops a.tmps) = true := by simp [Region.wanted, hgd]
  rw [if_pos hw]
  by_cases h0 : cs.length = 0
  · obtain rfl : cs = [] := List.eq_nil_of_length_eq_zero h0
    have hrun := run_copy_none (P := P) w dT sT o.type elem (some ⟨g, off, none⟩) sp dLen dCap sLen sCap hu hsz (by simpa using hn.symm)
    unfold Oper.wp
    simp [execOp, ho, resolve, invoke, builtin, hd, hs, hrun, Result.andThen]
    exact h w (by simpa [splice] using hg) (Fr.refl _ _)
  · obtain ⟨ad, rfl, hsrc⟩ := hpos (by omega)
    obtain ⟨w', hrun, hM, hf⟩ := run_copyF (P := P) w dT sT o.type elem g off dLen dCap ad sLen sCap cur t cs hu hsz hg hn hsrc hfit h1
    unfold Oper.wp
    simp [execOp, ho, resolve, invoke, builtin, hd, hs, hrun, Result.andThen]
    exact h w' hM hf

/-- A ward that has done nothing yet. -/
def st0 (bg : Int) : StV := ⟨[0, 0, 0, 0, 0, 0, 0, 0], bg, 0, 0, 0, false⟩

/-- Where a ward's first region lies. -/
def firstBase (rs : List (Int × Int × Int × Int)) : Int := (rs.getD 0 (0, 0, 0, 0)).2.2.1

/-- The memory when the first k wards are laid. -/
def memN (m : Img) : Nat → List Int
  | 0 => List.replicate m.mem.toNat 0
  | k + 1 => match m.ws[k]? with
    | some x => splice (splice (memN m k) (16 + 16 * k) (stWords (st0 x.bg))) (firstBase x.regs).toNat x.prog
    | none => memN m k

theorem slKw : SlT Try.prog 89 106 15 120 := SlT.mk' (z := .agg #[.int .u32 0, .int .u32 0, .int .u32 0, .int .u32 0, .int .u32 0, .int .u32 0, .int .u32 0, .int .u32 0, .int .u32 0, .int .i64 0, .int .i64 0, .int .i64 0, .bool false, .slice none 0 0, .slice none 0 0]) Try.underlying89 (by kernel_rfl) rfl (by omega)

/-- What a plan must be for a machine to be made of it. -/
structure Img.Fits (m : Img) : Prop where
  ok : m.Ok
  m64 : 64 ≤ m.mem
  kern : 16 + 16 * (m.ws.length : Int) + 2 * m.wi.length ≤ m.mem
  reg : ∀ x ∈ m.ws, 1 ≤ x.regs.length ∧ 0 ≤ firstBase x.regs ∧ firstBase x.regs + x.prog.length ≤ m.mem ∧ firstBase x.regs < m.mem
  own : ∀ o ∈ m.ow, 0 ≤ o ∧ o < m.ws.length
  w1 : 1 ≤ m.ws.length

theorem memN_len (m : Img) (h : m.Fits) : ∀ k, k ≤ m.ws.length → (memN m k).length = m.mem.toNat := by
  intro k
  induction k with
  | zero => intro _; simp [memN]
  | succ k ih =>
    intro hk
    have hx : m.ws[k]? = some m.ws[k] := List.getElem?_eq_getElem (by omega)
    simp only [memN, hx]
    have h1 := ih (by omega)
    have hr := h.reg m.ws[k] (List.getElem_mem _)
    have hkk := h.kern
    have h2 : (splice (memN m k) (16 + 16 * k) (stWords (st0 m.ws[k].bg))).length = m.mem.toNat := by
      rw [length_splice _ _ _ (by rw [h1]; simp [stWords, st0]; omega), h1]
    rw [length_splice _ _ _ (by rw [h2]; omega), h2]

/-- The kernel's wards, at the beginning. -/
def kws (xs : List (WardV × Value × Value)) : List (StV × Value) := xs.map (fun x => (st0 x.1.bg, x.2.1))

/-- A new ward's cells. -/
def kwNew (x : WardV × Value × Value) : List Value := stCells (st0 x.1.bg) ++ [x.2.1, .slice none 0 0]
theorem kwNew_len (x : WardV × Value × Value) : (kwNew x).length = 15 := by simp [kwNew, stCells, st0]
def dev0 (n : Nat) : List Value := (List.replicate n ([.int .u32 0, .slice none 0 0] : List Value)).flatten
def qCell (x : WardV × Value × Value) : Value := .int .i64 x.1.q

/-- A machine that is being made: kq quanta, k wards are laid. -/
structure KerIn (w : World) (im : Img) (vI : Value) (X M n D : Nat) (mem : List Int) (xs : List (WardV × Value × Value)) (kq k : Nat) (vQ vK : Value) (wr : World) : Prop where
  hx : wr.heap[X]? = some (.cells #[.slice (some ⟨M, 0, none⟩) n n, .int .i64 0, .int .i64 im.gap, vQ, vK, vI, .slice (some ⟨D, 0, none⟩) im.ow.length im.ow.length] 92 (0, 0))
  hm : wr.heap[M]? = some (.cells (wordCells mem).toArray 42 (0, 0))
  hd : wr.heap[D]? = some (.cells (dev0 im.ow.length).toArray 153 (0, 0))
  hq : wr.ownsRow w.heap.size 3 1 vQ kq ((xs.take kq).map qCell)
  hk : wr.ownsRow w.heap.size 106 15 vK k ((xs.take k).flatMap kwNew)
  fr : Fr (fun _ => False) w wr
  x1 : w.heap.size ≤ X
  m1 : w.heap.size ≤ M

theorem KerIn.on {w wr w' : World} {im : Img} {vI : Value} {X M n D kq k : Nat} {mem : List Int} {xs : List (WardV × Value × Value)} {vQ vK : Value} (h : KerIn w im vI X M n D mem xs kq k vQ vK wr) (hf : Fr (fun _ => False) wr w') : KerIn w im vI X M n D mem xs kq k vQ vK w' :=
  ⟨hf.get h.hx id, hf.get h.hm id, hf.get h.hd id, hf.ownsF _ h.hq, hf.ownsF _ h.hk, h.fr.step hf (fun _ h => .inl h), h.x1, h.m1⟩

theorem ne_of_ty {w : World} {a b : Nat} {c d : Array Value} {s t : TypeId} {f g : Nat × Nat} (h1 : w.heap[a]? = some (.cells c s f)) (h2 : w.heap[b]? = some (.cells d t g)) (hne : s ≠ t) : a ≠ b := by
  intro e
  rw [e, h2] at h1
  simp only [Option.some.injEq, Obj.cells.injEq] at h1
  exact hne h1.2.1.symm

/-- One quantum more. -/
theorem KerIn.appQ {w wa w3 : World} {im : Img} {vI : Value} {X M n D k : Nat} {mem : List Int} {xs : List (WardV × Value × Value)} {vQ vK v' : Value} (h : KerIn w im vI X M n D mem xs k k vQ vK wa) (x : WardV × Value × Value) (hx : xs[k]? = some x)
    (hown3 : w3.ownsRow w.heap.size 3 1 v' (k + 1) ((xs.take k).map qCell ++ (#[.int .i64 x.1.q] : Array Value).toList)) (hf : Fr (fun i => vQ.ownBlock = some i) wa w3) :
    KerIn w im vI X M n D mem xs (k + 1) k v' vK (w3.setCell ⟨X, 3, none⟩ v') := by
  obtain ⟨hk, rfl⟩ := List.getElem?_eq_some_iff.1 hx
  have x3 := hf.getT h.hq h.hx (by decide)
  have m3 := hf.getT h.hq h.hm (by decide)
  have d3 := hf.getT h.hq h.hd (by decide)
  refine ⟨by rw [row_set x3]; simp, set_other m3 (ne_of_ty m3 x3 (by decide)) _, set_other d3 (ne_of_ty d3 x3 (by decide)) _, ?_, owns_setT (hf.ownsT h.hq h.hk (by decide)) x3 (by decide) _, ?_, h.x1, h.m1⟩
  · have e1 : (xs.take (k + 1)).map qCell = (xs.take k).map qCell ++ (#[.int .i64 xs[k].1.q] : Array Value).toList := by
      rw [List.take_succ_eq_append_getElem hk, List.map_append]
      rfl
    rw [e1]
    exact owns_setT hown3 x3 (by decide) _
  · exact (h.fr.step hf (fun i hi => .inr (h.hq.lt i hi).1)).setCell (.inr h.x1) _

/-- One ward more. -/
theorem KerIn.app {w wa w3 : World} {im : Img} {vI : Value} {X M n D k : Nat} {mem : List Int} {xs : List (WardV × Value × Value)} {vQ vK v' : Value} (h : KerIn w im vI X M n D mem xs (k + 1) k vQ vK wa) (x : WardV × Value × Value) (hx : xs[k]? = some x)
    (hown3 : w3.ownsRow w.heap.size 106 15 v' (k + 1) ((xs.take k).flatMap kwNew ++ (kwNew x).toArray.toList)) (hf : Fr (fun i => vK.ownBlock = some i) wa w3) :
    KerIn w im vI X M n D mem xs (k + 1) (k + 1) vQ v' (w3.setCell ⟨X, 4, none⟩ v') := by
  obtain ⟨hk, rfl⟩ := List.getElem?_eq_some_iff.1 hx
  have x3 := hf.getT h.hk h.hx (by decide)
  have m3 := hf.getT h.hk h.hm (by decide)
  have d3 := hf.getT h.hk h.hd (by decide)
  refine ⟨by rw [row_set x3]; simp, set_other m3 (ne_of_ty m3 x3 (by decide)) _, set_other d3 (ne_of_ty d3 x3 (by decide)) _, owns_setT (hf.ownsT h.hk h.hq (by decide)) x3 (by decide) _, ?_, ?_, h.x1, h.m1⟩
  · have e1 : (xs.take (k + 1)).flatMap kwNew = (xs.take k).flatMap kwNew ++ (kwNew xs[k]).toArray.toList := by
      rw [List.take_succ_eq_append_getElem hk, List.flatMap_append]
      simp
    rw [e1]
    exact owns_setT hown3 x3 (by decide) _
  · exact (h.fr.step hf (fun i hi => .inr (h.hk.lt i hi).1)).setCell (.inr h.x1) _

/-- The memory is written. -/
theorem KerIn.wr {w wa w3 : World} {im : Img} {vI : Value} {X M n D kq k : Nat} {mem mem' : List Int} {xs : List (WardV × Value × Value)} {vQ vK : Value} (h : KerIn w im vI X M n D mem xs kq k vQ vK wa) (hm : w3.heap[M]? = some (.cells (wordCells mem').toArray 42 (0, 0))) (hf : Fr (fun i => i = M) wa w3) :
    KerIn w im vI X M n D mem' xs kq k vQ vK w3 := by
  have h1 := h.m1
  exact ⟨hf.get1 h.hx (ne_of_ty h.hx h.hm (by decide)), hm, hf.get1 h.hd (ne_of_ty h.hd h.hm (by decide)), hf.owns1T h.hm h.hq (by decide), hf.owns1T h.hm h.hk (by decide), h.fr.step hf (fun i hi => .inr (by omega)), h.x1, h.m1⟩

theorem flat_base (rs : List (Int × Int × Int × Int)) (h : 1 ≤ rs.length) : (rs.flatMap regCells)[2]? = some (.int .i64 (firstBase rs)) := by
  match rs, h with
  | r :: rs, _ => simp [regCells, firstBase]

theorem kwNew_one (x : WardV) (ar : Option Addr) (a b : Nat) (vp : Value) : ∀ u ∈ (kwNew (x, .slice ar a b, vp)).toArray.toList, u.oneCell' = true := by simp [kwNew, stCells, st0, Value.oneCell']

theorem made_row {w : World} {base g n : Nat} (h : w.ownsRow base 42 1 (.slice (some ⟨g, 0, none⟩) n n) n (madeCells (Value.int .u32 0).cells (n * 1)).toList) :
    w.heap[g]? = some (.cells (wordCells (List.replicate n 0)).toArray 42 (0, 0)) := by
  rcases h.2 with ⟨h1, _⟩ | ⟨g', cap, cur, h1, _, hg, _, _, hs, ht⟩
  · simp at h1
  · simp only [Value.slice.injEq, Option.some.injEq, Addr.mk.injEq] at h1
    obtain ⟨⟨rfl, _⟩, _, rfl⟩ := h1
    rw [hg]
    have e1 : (Value.int IntKind.u32 0).cells = #[Value.int .u32 0] := rfl
    rw [e1, toList_madeCells_one, List.take_of_length_le (by simp [hs])] at ht
    have e2 : cur = (wordCells (List.replicate n 0)).toArray := by
      apply Array.ext'
      rw [ht]
      simp [wordCells]
    rw [e2]

theorem made2 (a b : Value) (n : Nat) : (madeCells #[a, b] (n * 2)).toList = (List.replicate n ([a, b] : List Value)).flatten := by
  unfold madeCells
  rw [Array.toList_map, Array.toList_range]
  induction n with
  | zero => rfl
  | succ n ih =>
    rw [show (n + 1) * 2 = n * 2 + 1 + 1 by omega, List.range_succ, List.range_succ, List.map_append, List.map_append, ih, List.replicate_succ', List.flatten_append]
    have h1 : (n * 2) % 2 = 0 := by omega
    have h2 : (n * 2 + 1) % 2 = 1 := by omega
    simp [h1, h2]

theorem made_dev {w : World} {base g n : Nat} (h : w.ownsRow base 153 2 (.slice (some ⟨g, 0, none⟩) n n) n (madeCells (Value.agg #[.int .u32 0, .slice none 0 0]).cells (n * 2)).toList) :
    w.heap[g]? = some (.cells (dev0 n).toArray 153 (0, 0)) := by
  rcases h.2 with ⟨h1, _⟩ | ⟨g', cap, cur, h1, _, hg, _, _, hs, ht⟩
  · simp at h1
  · simp only [Value.slice.injEq, Option.some.injEq, Addr.mk.injEq] at h1
    obtain ⟨⟨rfl, _⟩, _, rfl⟩ := h1
    rw [hg]
    have e2 : cur = (dev0 n).toArray := by
      apply Array.ext'
      rw [List.take_of_length_le (by simp [hs])] at ht
      rw [ht]
      exact made2 _ _ n
    rw [e2]

theorem size_alloc1 (w : World) (o : Obj) : (w.alloc o).heap.size = w.heap.size + 1 := by simp
theorem grown_fr {w w' : World} (h : w.grownBy w' none) : Fr (fun _ => False) w w' := ⟨h.os, h.tape, h.output, h.size, fun k hk _ => h.block k hk (by simp)⟩


end Go.Proofs.Ythmcheoehcmglaa
