/- The reference's ward. -/
import Derived.Test.YthmcheoehcmglaaGreatW15b
import Derived.Test.YthmcheoehcmglaaGreatW14
import Derived.Test.YthmcheoehcmglaaGreatR0
import Derived.Laws.CopyOwn
namespace Go.Proofs.YthmcheoehcmglaaGreat
open Go.RowKit
set_option linter.unusedVariables false
attribute [local go_sem ↓] Go.wp_at_zero Go.wp_at_succ

theorem number_l (s : ByteArray) (i : Int) (n : Nat) (w : World) (hs : s.size ≤ maxLen) (h0 : 0 ≤ i) (h1 : i ≤ 1000000000) (n1 : n ≤ 4) :
    Calls Tryz.prog 75 #[.string s, .int .i64 i, .int .i64 n] w fun e w' => e = .returned (.int .i64 (numL s.data.toList i.toNat n)) ∧ w' = w := by
  obtain ⟨j, rfl⟩ := Int.eq_ofNat_of_zero_le h0
  rw [Int.toNat_natCast]
  by_cases h : j + n ≤ s.size
  · have e : numL s.data.toList j n = be ((s.data.toList.drop j).take n) := by unfold numL; rw [if_pos (by rw [len_data]; exact h)]
    rw [e]
    exact number_some s j n w hs n1 h
  · have e : numL s.data.toList j n = -1 := by unfold numL; rw [if_neg (by rw [len_data]; exact h)]
    rw [e]
    exact number_none s j n w hs (by omega) (by omega) (by omega) (by omega) (by omega)

/-- A region of the reference: its numbers, the block of its words, its words. -/
structure RReg where
  r : Int × Int × Int × Int
  g : Nat
  ws : List Int
def intCells (l : List Int) : List Value := l.map (Value.int .i64)
def rrCells (y : RReg) : List Value := [.int .i64 y.r.1, .int .i64 y.r.2.1, .int .i64 y.r.2.2.1, .int .i64 y.r.2.2.2, .slice (some ⟨y.g, 0, none⟩) y.ws.length y.ws.length]

structure RRegsAt (w : World) (base : Nat) (v : Value) (ys : List RReg) : Prop where
  own : w.ownsRow base 160 5 v ys.length (ys.flatMap rrCells)
  blk : ∀ y ∈ ys, w.heap[y.g]? = some (.cells (intCells y.ws).toArray 3 (0, 0)) ∧ base ≤ y.g
  inc : (ys.map (·.g)).Pairwise (· < ·)

theorem RRegsAt.nil (w : World) (base : Nat) : RRegsAt w base (.slice none 0 0) [] := ⟨World.ownsRow_nil _ _ _ _, by simp, by simp⟩
theorem RRegsAt.fr {w w' : World} {base : Nat} {v : Value} {ys : List RReg} (h : RRegsAt w base v ys) (hf : Fr (fun _ => False) w w') : RRegsAt w' base v ys :=
  ⟨hf.ownsF _ h.own, fun y hy => ⟨hf.get (h.blk y hy).1 id, (h.blk y hy).2⟩, h.inc⟩

theorem slRReg : SlT Tryz.prog 125 160 5 56 := SlT.mk' (z := .agg #[.int .i64 0, .int .i64 0, .int .i64 0, .int .i64 0, .slice none 0 0]) Tryz.underlying125 (by kernel_rfl) rfl (by omega)
theorem rrCells_one (y : RReg) : ∀ u ∈ (rrCells y).toArray.toList, u.oneCell' = true := by simp [rrCells, Value.oneCell']

theorem made_ints {w : World} {base g n : Nat} (h : w.ownsRow base 3 1 (.slice (some ⟨g, 0, none⟩) n n) n (madeCells (Value.int .i64 0).cells (n * 1)).toList) :
    w.heap[g]? = some (.cells (intCells (List.replicate n 0)).toArray 3 (0, 0)) := by
  rcases h.2 with ⟨h1, _⟩ | ⟨g', cap, cur, h1, _, hg, _, _, hs, ht⟩
  · simp at h1
  · simp only [Value.slice.injEq, Option.some.injEq, Addr.mk.injEq] at h1
    obtain ⟨⟨rfl, _⟩, _, rfl⟩ := h1
    rw [hg]
    have e1 : (Value.int IntKind.i64 0).cells = #[Value.int .i64 0] := rfl
    rw [e1, toList_madeCells_one, List.take_of_length_le (by simp [hs])] at ht
    have e2 : cur = (intCells (List.replicate n 0)).toArray := by
      apply Array.ext'
      rw [ht]
      simp [intCells]
    rw [e2]

/-- What holds at the head of each round of the reference's first loop. -/
structure RInv (w : World) (q pl : Int) (l : List UInt8) (k : Nat) (v : Value) (ys : List RReg) (wr : World) : Prop where
  g : wr.heap[w.heap.size + 1]? = some (.cells #[.int .i64 q, v, .slice none 0 0, .int .i64 0, .int .i64 0, .int .i64 0, .int .i64 0, .int .i64 0, .int .i64 0, .int .i64 0, .int .i64 0, .int .i64 pl, .int .i64 0, .int .i64 0, .int .i64 0, .bool false, .int .i64 0, .int .i64 0, .int .i64 0, .int .i64 0, .int .i64 0, .int .i64 0, .int .i64 0, .int .i64 0, .int .i64 0, .int .i64 0, .int .i64 0, .int .i64 0, .bool false] 130 (0, 0))
  p : wr.heap[w.heap.size]? = some (.cells #[.int .i64 0, .slice none 0 0, .slice none 0 0, .int .i64 0, .int .i64 0, .int .i64 0, .int .i64 0, .int .i64 0, .int .i64 0, .int .i64 0, .int .i64 0, .int .i64 0, .int .i64 0, .int .i64 0, .int .i64 0, .bool false, .int .i64 0, .int .i64 0, .int .i64 0, .int .i64 0, .int .i64 0, .int .i64 0, .int .i64 0, .int .i64 0, .int .i64 0, .int .i64 0, .int .i64 0, .int .i64 0, .bool false] 130 (0, 0))
  rs : RRegsAt wr w.heap.size v ys
  e1 : ys.map (·.r) = (regsN k l false).1
  e2 : ys.map (·.ws) = (regsN k l false).1.map (fun r => List.replicate r.2.1.toNat 0)
  fr : Fr (fun _ => False) w wr
  sz : w.heap.size + 2 ≤ wr.heap.size

theorem splice_get' {α : Type} (L : List α) (off : Nat) (cs : List α) (h : off + cs.length ≤ L.length) (i : Nat) : (splice L off cs)[i]? = if off ≤ i ∧ i < off + cs.length then cs[i - off]? else L[i]? := by
  unfold splice
  by_cases h1 : i < off
  · rw [if_neg (by omega), List.getElem?_append_left (by simp; omega), List.getElem?_take, if_pos h1]
  · rw [List.getElem?_append_right (by simp; omega)]
    simp only [List.length_take, Nat.min_eq_left (show off ≤ L.length by omega)]
    by_cases h2 : i < off + cs.length
    · rw [if_pos (by omega), List.getElem?_append_left (by omega)]
    · rw [if_neg (by omega), List.getElem?_append_right (by omega), List.getElem?_drop]
      congr 1
      omega

theorem rw_one (q pl : Int) (v : Value) (hv : v.oneCell' = true) : (#[.int .i64 q, v, .slice none 0 0, .int .i64 0, .int .i64 0, .int .i64 0, .int .i64 0, .int .i64 0, .int .i64 0, .int .i64 0, .int .i64 0, .int .i64 pl, .int .i64 0, .int .i64 0, .int .i64 0, .bool false, .int .i64 0, .int .i64 0, .int .i64 0, .int .i64 0, .int .i64 0, .int .i64 0, .int .i64 0, .int .i64 0, .int .i64 0, .int .i64 0, .int .i64 0, .int .i64 0, .bool false] : Array Value).all (·.oneCell') = true := by
  simp only [List.all_toArray, List.all_cons, List.all_nil]
  rw [hv]
  rfl

theorem numL_len (l : List UInt8) (c n : Nat) (h : 0 ≤ numL l c n) : c + n ≤ l.length := by
  by_cases hc : c + n ≤ l.length
  · exact hc
  · rw [numL_no l c n hc] at h; omega

theorem RInv.step {w wr wa wb : World} {q pl : Int} {l : List UInt8} {k : Nat} {v v' : Value} {ys : List RReg} (h : RInv w q pl l k v ys wr) (hok : (regsN k l false).2.2 = false) (hg : regGood (l.drop (7 * k))) (hfa : Fr (fun _ => False) wr wa) (g z : Nat)
    (hgb : wa.heap[g]? = some (.cells (intCells (List.replicate z 0)).toArray 3 (0, 0))) (hgl : wr.heap.size ≤ g) (hz : numL (l.drop (7 * k)) 2 2 = (z : Int))
    (hown : wb.ownsRow w.heap.size 160 5 v' (ys.length + 1) (ys.flatMap rrCells ++ (rrCells ⟨(numL (l.drop (7 * k)) 0 2, numL (l.drop (7 * k)) 2 2, numL (l.drop (7 * k)) 4 2, numL (l.drop (7 * k)) 6 1), g, List.replicate z 0⟩).toArray.toList)) (hfb : Fr (fun i => v.ownBlock = some i) wa wb) :
    RInv w q pl l (k + 1) v' (ys ++ [⟨(numL (l.drop (7 * k)) 0 2, numL (l.drop (7 * k)) 2 2, numL (l.drop (7 * k)) 4 2, numL (l.drop (7 * k)) 6 1), g, List.replicate z 0⟩]) (wb.setCell ⟨w.heap.size + 1, 1, none⟩ v') := by
  have hs := regsN_step l k hok hg
  have owna := hfa.ownsF _ h.rs.own
  have ga := hfa.get h.g id
  have pa := hfa.get h.p id
  have gb := hfb.getT owna ga (by decide)
  have pb := hfb.getT owna pa (by decide)
  have hsz := h.sz
  refine ⟨by rw [row_set gb]; simp, set_other pb (by simp) _, ⟨?_, ?_, ?_⟩, by rw [hs]; simp [h.e1], by rw [hs]; simp [h.e2, hz], ?_, ?_⟩
  · have := owns_setT hown gb (by decide) v' (j := 1)
    simpa using this
  · intro y hy
    rcases List.mem_append.1 hy with hy | hy
    · have hb := h.rs.blk y hy
      refine ⟨set_other (hfb.getT owna (hfa.get hb.1 id) (by decide)) ?_ _, hb.2⟩
      intro e
      have h1 := h.g
      have h2 := hb.1
      rw [e] at h2
      simp only at h2
      rw [h1] at h2
      simp only [Option.some.injEq, Obj.cells.injEq] at h2
      exact absurd h2.2.1 (by decide)
    · obtain rfl := List.mem_singleton.1 hy
      refine ⟨set_other (hfb.getT owna hgb (by decide)) (by simp; omega) _, by simp; omega⟩
  · rw [List.map_append, List.pairwise_append]
    refine ⟨h.rs.inc, by simp, ?_⟩
    intro a ha b hb
    simp at hb
    subst hb
    obtain ⟨y, hy, rfl⟩ := List.mem_map.1 ha
    have := lt_of_get (h.rs.blk y hy).1
    omega
  · exact ((h.fr.step hfa (fun _ h => .inl h)).step hfb (fun i hi => .inr (owna.lt i hi).1)).setCell (.inr (by simp)) _
  · have h1 := hfa.size
    have h2 := hfb.size
    simp [World.setCell]
    omega

theorem RInv.fresh {w wr w5 : World} {q pl : Int} {l : List UInt8} {k : Nat} {v : Value} {ys : List RReg} (h : RInv w q pl l k v ys wr) (hf : Fr (fun _ => False) wr w5) (j : Nat) (u : Value) :
    (w5.setCell ⟨wr.heap.size, j, none⟩ u).ownsRow w.heap.size 160 5 v ys.length (ys.flatMap rrCells) ∧ Fr (fun _ => False) wr (w5.setCell ⟨wr.heap.size, j, none⟩ u) :=
  ⟨(Fr.set1 w5 ⟨wr.heap.size, j, none⟩ u).owns (hf.ownsF _ h.rs.own) (fun k hk (e : k = wr.heap.size) => by have := (h.rs.own.lt k hk).2; omega), hf.setCell (.inr (Nat.le_refl _)) u⟩
theorem heap_newS (w : World) (a : Addr) (u : Value) (o : Obj) : ((w.setCell a u).alloc o).heap[w.heap.size]? = some o := by
  have := heap_new (w.setCell a u) o
  rwa [show (w.setCell a u).heap.size = w.heap.size by simp [World.setCell]] at this

theorem splice_snoc (z ws : List Int) (x : Int) (h : ws.length + 1 ≤ z.length) : (splice z 0 ws).set ws.length x = splice z 0 (ws ++ [x]) := by
  apply List.ext_getElem?
  intro i
  have hl : (splice z 0 ws).length = z.length := length_splice _ _ _ (by omega)
  rw [splice_get' z 0 (ws ++ [x]) (by simp; omega) i]
  by_cases hi : ws.length = i
  · subst hi
    rw [List.getElem?_set_self (by omega), if_pos (by simp)]
    simp
  · rw [List.getElem?_set_ne hi, splice_get' z 0 ws (by omega) i]
    by_cases h1 : i < ws.length
    · rw [if_pos (by omega), if_pos (by simp; omega)]
      simp only [Nat.sub_zero]
      rw [List.getElem?_append_left h1]
    · rw [if_neg (by omega), if_neg (by simp; omega)]

/-- What holds at the head of each round of the reference's second loop. -/
structure RInv2 (w : World) (q pl : Int) (v : Value) (y0 : RReg) (ys : List RReg) (ws : List Int) (wr : World) : Prop where
  g : wr.heap[w.heap.size + 1]? = some (.cells #[.int .i64 q, v, .slice none 0 0, .int .i64 0, .int .i64 0, .int .i64 0, .int .i64 0, .int .i64 0, .int .i64 0, .int .i64 0, .int .i64 0, .int .i64 pl, .int .i64 0, .int .i64 0, .int .i64 0, .bool false, .int .i64 0, .int .i64 0, .int .i64 0, .int .i64 0, .int .i64 0, .int .i64 0, .int .i64 0, .int .i64 0, .int .i64 0, .int .i64 0, .int .i64 0, .int .i64 0, .bool false] 130 (0, 0))
  p : wr.heap[w.heap.size]? = some (.cells #[.int .i64 0, .slice none 0 0, .slice none 0 0, .int .i64 0, .int .i64 0, .int .i64 0, .int .i64 0, .int .i64 0, .int .i64 0, .int .i64 0, .int .i64 0, .int .i64 0, .int .i64 0, .int .i64 0, .int .i64 0, .bool false, .int .i64 0, .int .i64 0, .int .i64 0, .int .i64 0, .int .i64 0, .int .i64 0, .int .i64 0, .int .i64 0, .int .i64 0, .int .i64 0, .int .i64 0, .int .i64 0, .bool false] 130 (0, 0))
  rs : RRegsAt wr w.heap.size v (⟨y0.r, y0.g, splice y0.ws 0 ws⟩ :: ys)
  fr : Fr (fun _ => False) w wr

theorem RInv2.step {w wr : World} {q pl : Int} {v : Value} {y0 : RReg} {ys : List RReg} {ws : List Int} (h : RInv2 w q pl v y0 ys ws wr) (x : Int) (hl : ws.length + 1 ≤ y0.ws.length) :
    RInv2 w q pl v y0 ys (ws ++ [x]) (wr.setCell ⟨y0.g, ws.length, none⟩ (.int .i64 x)) := by
  have hb := h.rs.blk _ (List.mem_cons_self ..)
  have hb1 := hb.1
  simp only at hb1
  have hne : ∀ (c : Nat) (cs : Array Value) (t : TypeId) (fr : Nat × Nat), wr.heap[c]? = some (.cells cs t fr) → t ≠ 3 → c ≠ y0.g := by
    intro c cs t fr hc ht e
    rw [e, hb1] at hc
    simp only [Option.some.injEq, Obj.cells.injEq] at hc
    exact ht hc.2.1.symm
  have hls : (splice y0.ws 0 (ws ++ [x])).length = (splice y0.ws 0 ws).length := by rw [length_splice _ _ _ (by simp; omega), length_splice _ _ _ (by omega)]
  have hcells : rrCells ⟨y0.r, y0.g, splice y0.ws 0 (ws ++ [x])⟩ = rrCells ⟨y0.r, y0.g, splice y0.ws 0 ws⟩ := by simp [rrCells, hls]
  refine ⟨set_other h.g (hne _ _ _ _ h.g (by decide)) _, set_other h.p (hne _ _ _ _ h.p (by decide)) _, ⟨?_, ?_, ?_⟩, h.fr.setCell (.inr hb.2) _⟩
  · have := owns_setT h.rs.own hb1 (by decide) (.int .i64 x) (j := ws.length)
    simp only [List.flatMap_cons, List.length_cons] at this ⊢
    rw [hcells]
    exact this
  · intro y hy
    rcases List.mem_cons.1 hy with rfl | hy
    · refine ⟨?_, hb.2⟩
      rw [row_set hb1]
      simp only [intCells]
      rw [← splice_snoc y0.ws ws x hl]
      simp [List.map_set]
    · have hy2 := h.rs.blk y (List.mem_cons_of_mem _ hy)
      refine ⟨set_other hy2.1 ?_ _, hy2.2⟩
      have := h.rs.inc
      rw [List.map_cons, List.pairwise_cons] at this
      have := this.1 y.g (List.mem_map_of_mem hy)
      simp only at this ⊢
      omega
  · have := h.rs.inc
    simpa using this

/-- What the reference's ward leaves. -/
def RWardPost (s : ByteArray) (w : World) (l : List UInt8) (e : Ending) (w' : World) : Prop :=
  Fr (fun _ => False) w w' ∧ ∃ q vR pl nx, e = .returned (.tuple #[.agg #[.int .i64 q, vR, .slice none 0 0, .int .i64 0, .int .i64 0, .int .i64 0, .int .i64 0, .int .i64 0, .int .i64 0, .int .i64 0, .int .i64 0, .int .i64 pl, .int .i64 0, .int .i64 0, .int .i64 0, .bool false, .int .i64 0, .int .i64 0, .int .i64 0, .int .i64 0, .int .i64 0, .int .i64 0, .int .i64 0, .int .i64 0, .int .i64 0, .int .i64 0, .int .i64 0, .int .i64 0, .bool false], .int .i64 nx]) ∧ vR.oneCell' = true ∧ ((rward l false).2.2 = true → nx = -1) ∧
    ((rward l false).2.2 = false → nx = ((s.size - (rward l false).2.1.length : Nat) : Int) ∧ q = (rward l false).1.q ∧ pl = (rward l false).1.bg ∧ ∃ ys, RRegsAt w' w.heap.size vR ys ∧ ys.map (·.r) = (rward l false).1.regs ∧
      ys.map (·.ws) = ((rward l false).1.regs.map (fun r => List.replicate r.2.1.toNat 0)).modifyHead (fun z => splice z 0 (rward l false).1.prog))

theorem grown_fr' {w w' : World} (h : w.grownBy w' none) : Fr (fun _ => False) w w' := ⟨h.os, h.tape, h.output, h.size, fun k hk _ => h.block k hk (by simp)⟩
theorem size_alloc1' (w : World) (o : Obj) : (w.alloc o).heap.size = w.heap.size + 1 := by simp

set_option maxRecDepth 100000 in
set_option maxHeartbeats 4000000 in
theorem rward_core (s : ByteArray) (hs : s.size ≤ maxLen) (i : Nat) (hi : i ≤ s.size) (hi2 : i ≤ 100000000) (w : World) (l : List UInt8) (El : Hid (l = s.data.toList.drop i)) :
    Calls Tryz.prog 77 #[.string s, .int .i64 i] w fun e w' => RWardPost s w l e w' := by
  have HL : Hid (∀ c n, numL s.data.toList (i + c) n = numL l c n) := fun c n => by rw [El.out]; exact numL_drop _ _ _ _ (by rw [len_data]; exact hi)
  go_enter Tryz.func77, Tryz.ntmps77
  go_wp2_with fail
  refine (number_l s _ 1 _ hs (by omega) (by omega) (by omega)).mono ?_
  rw [show ((i : Int)).toNat = i + 0 from by omega, HL.out]
  rintro e w1 ⟨rfl, rfl⟩
  go_wp2_with (refine wpList_storeRow ?_ 130 (.tmp 6) (.tmp 16) ?_ (w.heap.size + 1) 130 #[.int .i64 0, .slice none 0 0, .slice none 0 0, .int .i64 0, .int .i64 0, .int .i64 0, .int .i64 0, .int .i64 0, .int .i64 0, .int .i64 0, .int .i64 0, .int .i64 0, .int .i64 0, .int .i64 0, .int .i64 0, .bool false, .int .i64 0, .int .i64 0, .int .i64 0, .int .i64 0, .int .i64 0, .int .i64 0, .int .i64 0, .int .i64 0, .int .i64 0, .int .i64 0, .int .i64 0, .int .i64 0, .bool false] #[.int .i64 (numL l 0 1), .slice none 0 0, .slice none 0 0, .int .i64 0, .int .i64 0, .int .i64 0, .int .i64 0, .int .i64 0, .int .i64 0, .int .i64 0, .int .i64 0, .int .i64 0, .int .i64 0, .int .i64 0, .int .i64 0, .bool false, .int .i64 0, .int .i64 0, .int .i64 0, .int .i64 0, .int .i64 0, .int .i64 0, .int .i64 0, .int .i64 0, .int .i64 0, .int .i64 0, .int .i64 0, .int .i64 0, .bool false] ?_ ?_ ?_ ?_ ?_ ?_ ?_; rfl; rfl; rfl; rfl; exact heap_alloc2_new w _ _; kernel_rfl; rfl; exact rw_one _ _ _ rfl; intro w2 g2 hf2; have hF2 := hid (((((Fr.refl (fun _ => False) w).alloc _).alloc _)).step hf2 (fun i hi => .inr (by omega))); have p2 := hid (hf2.get1 (heap_alloc2_old w _ _) (by omega)); have G2 := hid g2; clear g2 hf2)
  refine (number_l s _ 1 _ hs (by omega) (by omega) (by omega)).mono ?_
  rw [show ((i : Int) + 1).toNat = i + 1 from by omega, HL.out]
  rintro e w1 ⟨rfl, rfl⟩
  go_wp2_with fail
  refine (number_l s _ 2 _ hs (by omega) (by omega) (by omega)).mono ?_
  rw [show ((i : Int) + 2).toNat = i + 2 from by omega, HL.out]
  rintro e w1 ⟨rfl, rfl⟩
  have c := row_cell G2.out
  have f := row_frozen G2.out
  go_wp2_with fail
  clear c f
  have hI0 : RInv w (numL l 0 1) (numL l 2 2) (l.drop 4) 0 (.slice none 0 0) [] (w1.setCell ⟨w.heap.size + 1, 11, none⟩ (.int .i64 (numL l 2 2))) := by
    refine ⟨?_, set_other p2.out (by simp) _, RRegsAt.nil _ _, rfl, rfl, hF2.out.setCell (.inr (by simp)) _, ?_⟩
    · rw [row_set G2.out]; simp
    · have := lt_of_get G2.out; simp [World.setCell]; omega
  have HI0 := hid hI0
  clear hI0 hF2 p2 G2
  generalize w1.setCell ⟨w.heap.size + 1, 11, none⟩ (.int .i64 (numL l 2 2)) = wi at *
  have g0 := row_cell HI0.out.g
  refine (in_any _ _ _ _).mono ?_
  rintro e w1 ⟨rfl, rfl⟩
  by_cases hq : 1 ≤ numL l 0 1 ∧ numL l 0 1 ≤ 64
  · have hqb : (decide (1 ≤ numL l 0 1) && decide (numL l 0 1 ≤ 64)) = true := by simp [hq]
    rw [hqb]
    go_wp2_with fail
    refine (in_any _ _ _ _).mono ?_
    rintro e w1 ⟨rfl, rfl⟩
    by_cases hn : 1 ≤ numL l 1 1 ∧ numL l 1 1 ≤ 3
    · have hnb : (decide (1 ≤ numL l 1 1) && decide (numL l 1 1 ≤ 3)) = true := by simp [hn]
      rw [hnb]
      by_cases h4 : 0 ≤ numL l 2 2
      · have h4' : ¬ numL l 2 2 < 0 := by omega
        have hlen := numL_len l 2 2 h4
        have HG : Hid (headGood l) := ⟨by omega, hq.1, hq.2, hn.1, hn.2⟩
        obtain ⟨n, hnn⟩ := Int.eq_ofNat_of_zero_le (show 0 ≤ numL l 1 1 by omega)
        have hn3 : n ≤ 3 := by omega
        have hn1 : 1 ≤ n := by omega
        have HN := hid hnn
        have g11 : w1.cell? ⟨w.heap.size + 1, 11, none⟩ = some (.int .i64 (numL l 2 2)) := row_cell HI0.out.g 11
        obtain ⟨i0, hi0, hz0, hz1, hz2⟩ := info_parts (show (Tryz.prog.info? 3).map (fun i => (i.zero, i.size, i.bytes)) = some (some (.int .i64 0), 1, 8) by kernel_rfl)
        clear g0 hqb hnb hn
        rw [hnn]
        go_wp2_with fail
        clear g11 h4' hnn
        go_loopw [1, 8] (fun a b wr => ∃ k : Nat, k ≤ n ∧ b = .int .i64 k ∧ a = .int .i64 ((i : Int) + 4 + 7 * k) ∧ (regsN k (l.drop 4) false).2.2 = false ∧ ∃ v ys, RInv w (numL l 0 1) (numL l 2 2) (l.drop 4) k v ys wr) (fun _ b _ => n - (intOf b).toNat)
        case atStart => exact ⟨0, Nat.zero_le _, rfl, by go_num, rfl, _, _, HI0.out⟩
        case round =>
          obtain ⟨k, hk, rfl, rfl, hok, v, ys, hI⟩ := hrel
          have hdr := regsN_drop (l.drop 4) k hok
          rw [List.length_drop] at hdr
          have HOK := hid hok
          have HI := hid hI
          have HK : Hid (∀ c n', numL s.data.toList (i + 4 + 7 * k + c) n' = numL (l.drop (4 + 7 * k)) c n') := fun c n' => by
            rw [show i + 4 + 7 * k + c = i + (4 + 7 * k + c) by omega, HL.out, numL_drop l (4 + 7 * k) c n' (by omega)]
          have hlk : 4 + 7 * k ≤ l.length := by omega
          clear hok hI hdr HI0
          by_cases hlt : k < n
          · go_wp2_with fail
            refine (number_l s _ 2 _ hs (by omega) (by omega) (by omega)).mono ?_
            rw [show ((i : Int) + 4 + 7 * k).toNat = i + 4 + 7 * k + 0 from by omega, HK.out]
            rintro e w1 ⟨rfl, rfl⟩
            go_wp2_with fail
            refine (number_l s _ 2 _ hs (by omega) (by omega) (by omega)).mono ?_
            rw [show ((i : Int) + 4 + 7 * k + 2).toNat = i + 4 + 7 * k + 2 from by omega, HK.out]
            rintro e w1 ⟨rfl, rfl⟩
            go_wp2_with fail
            refine (number_l s _ 2 _ hs (by omega) (by omega) (by omega)).mono ?_
            rw [show ((i : Int) + 4 + 7 * k + 4).toNat = i + 4 + 7 * k + 4 from by omega, HK.out]
            rintro e w1 ⟨rfl, rfl⟩
            go_wp2_with fail
            refine (number_l s _ 1 _ hs (by omega) (by omega) (by omega)).mono ?_
            rw [show ((i : Int) + 4 + 7 * k + 6).toNat = i + 4 + 7 * k + 6 from by omega, HK.out]
            rintro e w1 ⟨rfl, rfl⟩
            go_wp2_with fail
            refine (in_any _ _ _ _).mono ?_
            rintro e w2 ⟨rfl, rfl⟩
            have HWK := hid (show (l.drop 4).drop (7 * k) = l.drop (4 + 7 * k) by rw [List.drop_drop])
            have hGa := hid (get_alloc HI.out.g (.cells #[.int .i64 (numL (l.drop (4 + 7 * k)) 0 2), .int .i64 (numL (l.drop (4 + 7 * k)) 2 2), .int .i64 (numL (l.drop (4 + 7 * k)) 4 2), .int .i64 (numL (l.drop (4 + 7 * k)) 6 1), .slice none 0 0] 160))
            have hPa := hid (get_alloc HI.out.p (.cells #[.int .i64 (numL (l.drop (4 + 7 * k)) 0 2), .int .i64 (numL (l.drop (4 + 7 * k)) 2 2), .int .i64 (numL (l.drop (4 + 7 * k)) 4 2), .int .i64 (numL (l.drop (4 + 7 * k)) 6 1), .slice none 0 0] 160))
            have hFa := hid (HI.out.fr.alloc (.cells #[.int .i64 (numL (l.drop (4 + 7 * k)) 0 2), .int .i64 (numL (l.drop (4 + 7 * k)) 2 2), .int .i64 (numL (l.drop (4 + 7 * k)) 4 2), .int .i64 (numL (l.drop (4 + 7 * k)) 6 1), .slice none 0 0] 160))
            have hvo := owns_one HI.out.rs.own
            by_cases hr : 1 ≤ numL (l.drop (4 + 7 * k)) 6 1 ∧ numL (l.drop (4 + 7 * k)) 6 1 ≤ 7
            · have hrb : (decide (1 ≤ numL (l.drop (4 + 7 * k)) 6 1) && decide (numL (l.drop (4 + 7 * k)) 6 1 ≤ 7)) = true := by simp [hr]
              rw [hrb]
              by_cases hzz : numL (l.drop (4 + 7 * k)) 2 2 < 1
              · have HB : Hid ((rward l false).2.2 = true) := rw_reg l HG.out k (by have := HN.out; omega) HOK.out (fun h => by have := h.2.1; omega)
                go_wp2_with (first
                  | (refine wpList_loadRow (hu := Tryz.underlying130) ?_ 130 (.tmp 6) ?_ (w.heap.size + 1) 130 _ ?_ hGa.out ?_ ?_ ?_; rfl; rfl; rfl; rfl; kernel_rfl)
                  | (refine wpList_storeRow ?_ 130 (.tmp 4) (.tmp 75) ?_ w.heap.size 130 _ #[.int .i64 (numL l 0 1), v, .slice none 0 0, .int .i64 0, .int .i64 0, .int .i64 0, .int .i64 0, .int .i64 0, .int .i64 0, .int .i64 0, .int .i64 0, .int .i64 (numL l 2 2), .int .i64 0, .int .i64 0, .int .i64 0, .bool false, .int .i64 0, .int .i64 0, .int .i64 0, .int .i64 0, .int .i64 0, .int .i64 0, .int .i64 0, .int .i64 0, .int .i64 0, .int .i64 0, .int .i64 0, .int .i64 0, .bool false] ?_ ?_ hPa.out ?_ ?_ ?_ ?_; rfl; rfl; rfl; rfl; kernel_rfl; rfl; exact rw_one _ _ _ hvo; intro wz gz hfz))
                refine bodyPost_ret (v := .tuple #[.agg #[.int .i64 (numL l 0 1), v, .slice none 0 0, .int .i64 0, .int .i64 0, .int .i64 0, .int .i64 0, .int .i64 0, .int .i64 0, .int .i64 0, .int .i64 0, .int .i64 (numL l 2 2), .int .i64 0, .int .i64 0, .int .i64 0, .bool false, .int .i64 0, .int .i64 0, .int .i64 0, .int .i64 0, .int .i64 0, .int .i64 0, .int .i64 0, .int .i64 0, .int .i64 0, .int .i64 0, .int .i64 0, .int .i64 0, .bool false], .int .i64 (-1)]) ?_ rfl ⟨(hFa.out.step hfz (fun i hi => .inr (by omega))), _, _, _, _, rfl, hvo, fun _ => rfl, fun h => by rw [HB.out] at h; cases h⟩
                exact results_cell_tmp Tryz.results77 _ wz w.heap.size 130 _ (0, 0) rfl gz Tryz.underlying130 rfl (by kernel_rfl) _ rfl
              · have hg7 := numL_len (l.drop (4 + 7 * k)) 6 1 (by omega)
                have HGR : Hid (regGood (l.drop (4 + 7 * k))) := ⟨by omega, by omega, hr.1, hr.2⟩
                obtain ⟨z, hz⟩ := Int.eq_ofNat_of_zero_le (show 0 ≤ numL (l.drop (4 + 7 * k)) 2 2 by omega)
                have hzb := (numL_bd (l.drop (4 + 7 * k)) 2 2 (by omega)).2.2.1 (by omega)
                have hz2' : z < 65536 := by omega
                have hb2 : i0.bytes * z ≤ 281474976710656 := by rw [hz2]; omega
                have hb3 : z ≤ maxLen := by unfold maxLen; omega
                have hk3 : ys.length + 1 ≤ 1073741824 := by
                  have := HI.out.e1
                  have h2 := regsN_len k (l.drop 4) false
                  rw [← this] at h2
                  simp at h2
                  omega
                have hwr := HI.out.sz
                have hne1 : w.heap.size + 1 ≠ w1.heap.size := by omega
                have hne2 : w1.heap.size ≠ w.heap.size + 1 := by omega
                have HZ := hid hz
                have hzp : ¬ (z : Int) < 1 := by omega
                have hzp2 : 1 ≤ z := by omega
                clear hr hrb hzz hg7 hzb hGa hPa hFa
                rw [hz]
                clear hz
                go_wp2_with (first
                  | (at_make; refine wpList_make_full _ (by rfl) _ _ 22 (by rfl) 0 3 i0 _ 1 Tryz.underlying22 hi0 hz0 hz1 .i64 .i64 _ _ z (by rfl) (by rfl) rfl rfl hb2 hb3 (Nat.zero_le _) ?_; intro w5 hm5 hg5; have HM5 := hid (made_ints hm5); have HF5 := hid (((Fr.refl (fun _ => False) w1).alloc _).step (grown_fr' hg5) (fun _ h => .inl h)); have gR := (grown_fr' hg5).get (heap_new w1 _) id; have cR := row_cell gR; have fR := row_frozen gR; have gW := HF5.out.get HI.out.g id; have cW : w5.cell? ⟨w.heap.size + 1, 1, none⟩ = some v := row_cell gW 1; have fW := row_frozen gW 1; have HGW := hid gW; clear hm5 hg5 gR gW; rw [size_alloc1'] at HM5)
                  | (at_builtin; refine wpList_app slRReg (by rfl) _ _ (by rfl) w.heap.size v ys.length _ (by rfl) ((HI.out.fresh HF5.out 4 _).1.alloc _) w5.heap.size #[.int .i64 (numL (l.drop (4 + 7 * k)) 0 2), .int .i64 (z : Int), .int .i64 (numL (l.drop (4 + 7 * k)) 4 2), .int .i64 (numL (l.drop (4 + 7 * k)) 6 1), .slice (some ⟨w1.heap.size + 1, 0, none⟩) z z] _ (by rfl) (heap_newS w5 _ _ _) rfl (by simp [Value.oneCell']) hk3 (by decide) (le_alloc (HI.out.fr.step (HI.out.fresh HF5.out 4 _).2 (fun _ h => .inl h)).size _) ?_; intro gg cap w7 hown7 hf7 hat; have gW7 := hf7.getT ((HI.out.fresh HF5.out 4 _).1.alloc _) (get_alloc (set_other HGW.out hne1 _) _) (by decide); have cW7 := row_cell gW7 1; have fW7 := row_frozen gW7 1; simp only [List.getElem?_toArray, List.getElem?_cons_succ, List.getElem?_cons_zero] at cW7; have HO7 := hid hown7; have HF7 := hid hf7; clear hown7 hf7 hat gW7 cW fW cR fR))
                have R := HI.out.step HOK.out (by rw [HWK.out]; exact HGR.out) (((HI.out.fresh HF5.out 4 (.slice (some ⟨w1.heap.size + 1, 0, none⟩) z z)).2).alloc (.cells #[.int .i64 (numL (l.drop (4 + 7 * k)) 0 2), .int .i64 (z : Int), .int .i64 (numL (l.drop (4 + 7 * k)) 4 2), .int .i64 (numL (l.drop (4 + 7 * k)) 6 1), .slice (some ⟨w1.heap.size + 1, 0, none⟩) z z] 160)) (w1.heap.size + 1) z (get_alloc (set_other HM5.out (by simp) _) _) (by omega) (by rw [HWK.out]; exact HZ.out) (by rw [HWK.out, HZ.out]; simpa [rrCells] using HO7.out) HF7.out
                go_roundw
                case rel => exact ⟨k + 1, by omega, by go_num, by go_num, by rw [regsN_step _ _ HOK.out (by rw [HWK.out]; exact HGR.out)], _, _, R⟩
                case measure => simp [intOf]; omega
            · have hrb : (decide (1 ≤ numL (l.drop (4 + 7 * k)) 6 1) && decide (numL (l.drop (4 + 7 * k)) 6 1 ≤ 7)) = false := by simp; omega
              rw [hrb]
              have HB : Hid ((rward l false).2.2 = true) := rw_reg l HG.out k (by have := HN.out; omega) HOK.out (fun h => hr ⟨h.2.2.1, h.2.2.2⟩)
              go_wp2_with (first
                | (refine wpList_loadRow (hu := Tryz.underlying130) ?_ 130 (.tmp 6) ?_ (w.heap.size + 1) 130 _ ?_ hGa.out ?_ ?_ ?_; rfl; rfl; rfl; rfl; kernel_rfl)
                | (refine wpList_storeRow ?_ 130 (.tmp 4) (.tmp 75) ?_ w.heap.size 130 _ #[.int .i64 (numL l 0 1), v, .slice none 0 0, .int .i64 0, .int .i64 0, .int .i64 0, .int .i64 0, .int .i64 0, .int .i64 0, .int .i64 0, .int .i64 0, .int .i64 (numL l 2 2), .int .i64 0, .int .i64 0, .int .i64 0, .bool false, .int .i64 0, .int .i64 0, .int .i64 0, .int .i64 0, .int .i64 0, .int .i64 0, .int .i64 0, .int .i64 0, .int .i64 0, .int .i64 0, .int .i64 0, .int .i64 0, .bool false] ?_ ?_ hPa.out ?_ ?_ ?_ ?_; rfl; rfl; rfl; rfl; kernel_rfl; rfl; exact rw_one _ _ _ hvo; intro wz gz hfz))
              refine bodyPost_ret (v := .tuple #[.agg #[.int .i64 (numL l 0 1), v, .slice none 0 0, .int .i64 0, .int .i64 0, .int .i64 0, .int .i64 0, .int .i64 0, .int .i64 0, .int .i64 0, .int .i64 0, .int .i64 (numL l 2 2), .int .i64 0, .int .i64 0, .int .i64 0, .bool false, .int .i64 0, .int .i64 0, .int .i64 0, .int .i64 0, .int .i64 0, .int .i64 0, .int .i64 0, .int .i64 0, .int .i64 0, .int .i64 0, .int .i64 0, .int .i64 0, .bool false], .int .i64 (-1)]) ?_ rfl ⟨(hFa.out.step hfz (fun i hi => .inr (by omega))), _, _, _, _, rfl, hvo, fun _ => rfl, fun h => by rw [HB.out] at h; cases h⟩
              exact results_cell_tmp Tryz.results77 _ wz w.heap.size 130 _ (0, 0) rfl gz Tryz.underlying130 rfl (by kernel_rfl) _ rfl
          · obtain rfl : k = n := by omega
            have hyl : ys.length = k := by
              have := HI.out.e1
              have h2 := regsN_len k (l.drop 4) false
              rw [← this] at h2
              simpa using h2
            obtain ⟨y0, ys', rfl⟩ : ∃ y0 ys', ys = y0 :: ys' := by
              cases ys with
              | nil => simp at hyl; omega
              | cons a b => exact ⟨a, b, rfl⟩
            have hfw : firstWords (regsN k (l.drop 4) false).1 = y0.r.2.1 := by rw [← HI.out.e1]; rfl
            have hwl : y0.ws.length = y0.r.2.1.toNat := by
              have h1 := HI.out.e1
              have h2 := HI.out.e2
              rw [← h1] at h2
              simp only [List.map_cons, List.map_map, List.cons.injEq] at h2
              rw [h2.1]
              simp
            have hyb : 0 ≤ y0.r.2.1 ∧ y0.r.2.1 ≤ 65535 := regsN_words k (l.drop 4) false y0.r (by rw [← HI.out.e1]; simp)
            obtain ⟨gv, cv, rfl, hgv1, hgv2⟩ := HI.out.rs.own.form (by simp)
            have cW : wr.cell? ⟨w.heap.size + 1, 1, none⟩ = some (.slice (some ⟨gv, 0, none⟩) (y0 :: ys').length cv) := row_cell HI.out.g 1
            have cS : wr.cell? ⟨gv, 1, none⟩ = some (.int .i64 y0.r.2.1) := by
              rw [HI.out.rs.own.cellAt 1 (by simp only [List.length_cons]; omega)]
              rfl
            have hpos : (0 : Int) < ((y0 :: ys').length : Int) := by simp only [List.length_cons]; omega
            have HFW := hid hfw
            have HWL := hid hwl
            have HEK : Hid (numL (l.drop (4 + 7 * k)) 0 2 = numL l (4 + 7 * k) 2) := by have := numL_drop l (4 + 7 * k) 0 2 hlk; rw [Nat.add_zero] at this; exact this.symm
            have hNk : (numL l 1 1).toNat = k := by rw [HN.out]; rfl
            have HNK := hid hNk
            clear hfw hwl hyl hNk
            go_wp2_with fail
            refine (number_l s _ 2 _ hs (by omega) (by omega) (by omega)).mono ?_
            rw [show ((i : Int) + 4 + 7 * k).toNat = i + 4 + 7 * k + 0 from by omega, HK.out, HEK.out]
            rintro e w2 ⟨rfl, rfl⟩
            have hcb := (numL_bd l (4 + 7 * k) 2 (by omega)).2.2.1 (by omega)
            have hcb0 := (numL_bd l (4 + 7 * k) 2 (by omega)).1
            by_cases hc0 : numL l (4 + 7 * k) 2 < 0
            · have HB : Hid ((rward l false).2.2 = true) := rw_cnt l HG.out (by rw [HNK.out]; exact HOK.out) (by
                rw [HNK.out]
                intro hh
                have := numL_ok l (4 + 7 * k) 2 (by have := hh.1; rw [List.length_drop] at this; omega)
                omega) (by rw [HNK.out]; exact hlk)
              go_wp2_with (first
                | (refine wpList_loadRow (hu := Tryz.underlying130) ?_ 130 (.tmp 6) ?_ (w.heap.size + 1) 130 _ ?_ HI.out.g ?_ ?_ ?_; rfl; rfl; rfl; rfl; kernel_rfl)
                | (refine wpList_storeRow ?_ 130 (.tmp 4) (.tmp 104) ?_ w.heap.size 130 _ #[.int .i64 (numL l 0 1), (.slice (some ⟨gv, 0, none⟩) (y0 :: ys').length cv), .slice none 0 0, .int .i64 0, .int .i64 0, .int .i64 0, .int .i64 0, .int .i64 0, .int .i64 0, .int .i64 0, .int .i64 0, .int .i64 (numL l 2 2), .int .i64 0, .int .i64 0, .int .i64 0, .bool false, .int .i64 0, .int .i64 0, .int .i64 0, .int .i64 0, .int .i64 0, .int .i64 0, .int .i64 0, .int .i64 0, .int .i64 0, .int .i64 0, .int .i64 0, .int .i64 0, .bool false] ?_ ?_ HI.out.p ?_ ?_ ?_ ?_; rfl; rfl; rfl; rfl; kernel_rfl; rfl; exact rw_one _ _ _ rfl; intro wz gz hfz))
              refine bodyPost_ret (v := .tuple #[.agg #[.int .i64 (numL l 0 1), (.slice (some ⟨gv, 0, none⟩) (y0 :: ys').length cv), .slice none 0 0, .int .i64 0, .int .i64 0, .int .i64 0, .int .i64 0, .int .i64 0, .int .i64 0, .int .i64 0, .int .i64 0, .int .i64 (numL l 2 2), .int .i64 0, .int .i64 0, .int .i64 0, .bool false, .int .i64 0, .int .i64 0, .int .i64 0, .int .i64 0, .int .i64 0, .int .i64 0, .int .i64 0, .int .i64 0, .int .i64 0, .int .i64 0, .int .i64 0, .int .i64 0, .bool false], .int .i64 (-1)]) ?_ rfl ⟨(HI.out.fr.step hfz (fun i hi => .inr (by omega))), _, _, _, _, rfl, rfl, fun _ => rfl, fun h => by rw [HB.out] at h; cases h⟩
              exact results_cell_tmp Tryz.results77 _ wz w.heap.size 130 _ (0, 0) rfl gz Tryz.underlying130 rfl (by kernel_rfl) _ rfl
            · by_cases hc1 : y0.r.2.1 < numL l (4 + 7 * k) 2
              · have HB : Hid ((rward l false).2.2 = true) := rw_cnt l HG.out (by rw [HNK.out]; exact HOK.out) (by
                  rw [HNK.out, HFW.out]
                  intro hh
                  have := hh.2
                  omega) (by rw [HNK.out]; exact hlk)
                go_wp2_with (first
                  | (refine wpList_loadRow (hu := Tryz.underlying130) ?_ 130 (.tmp 6) ?_ (w.heap.size + 1) 130 _ ?_ HI.out.g ?_ ?_ ?_; rfl; rfl; rfl; rfl; kernel_rfl)
                  | (refine wpList_storeRow ?_ 130 (.tmp 4) (.tmp 104) ?_ w.heap.size 130 _ #[.int .i64 (numL l 0 1), (.slice (some ⟨gv, 0, none⟩) (y0 :: ys').length cv), .slice none 0 0, .int .i64 0, .int .i64 0, .int .i64 0, .int .i64 0, .int .i64 0, .int .i64 0, .int .i64 0, .int .i64 0, .int .i64 (numL l 2 2), .int .i64 0, .int .i64 0, .int .i64 0, .bool false, .int .i64 0, .int .i64 0, .int .i64 0, .int .i64 0, .int .i64 0, .int .i64 0, .int .i64 0, .int .i64 0, .int .i64 0, .int .i64 0, .int .i64 0, .int .i64 0, .bool false] ?_ ?_ HI.out.p ?_ ?_ ?_ ?_; rfl; rfl; rfl; rfl; kernel_rfl; rfl; exact rw_one _ _ _ rfl; intro wz gz hfz))
                refine bodyPost_ret (v := .tuple #[.agg #[.int .i64 (numL l 0 1), (.slice (some ⟨gv, 0, none⟩) (y0 :: ys').length cv), .slice none 0 0, .int .i64 0, .int .i64 0, .int .i64 0, .int .i64 0, .int .i64 0, .int .i64 0, .int .i64 0, .int .i64 0, .int .i64 (numL l 2 2), .int .i64 0, .int .i64 0, .int .i64 0, .bool false, .int .i64 0, .int .i64 0, .int .i64 0, .int .i64 0, .int .i64 0, .int .i64 0, .int .i64 0, .int .i64 0, .int .i64 0, .int .i64 0, .int .i64 0, .int .i64 0, .bool false], .int .i64 (-1)]) ?_ rfl ⟨(HI.out.fr.step hfz (fun i hi => .inr (by omega))), _, _, _, _, rfl, rfl, fun _ => rfl, fun h => by rw [HB.out] at h; cases h⟩
                exact results_cell_tmp Tryz.results77 _ wz w.heap.size 130 _ (0, 0) rfl gz Tryz.underlying130 rfl (by kernel_rfl) _ rfl
              · obtain ⟨m, hm⟩ := Int.eq_ofNat_of_zero_le (show 0 ≤ numL l (4 + 7 * k) 2 by omega)
                have hl2 := numL_len l (4 + 7 * k) 2 (by omega)
                have hmz : m ≤ y0.ws.length := by rw [HWL.out]; omega
                have hm16 : m < 65536 := by omega
                have HM := hid hm
                have hI2 : RInv2 w (numL l 0 1) (numL l 2 2) (.slice (some ⟨gv, 0, none⟩) (y0 :: ys').length cv) y0 ys' [] w2 := by
                  refine ⟨HI.out.g, HI.out.p, ?_, HI.out.fr⟩
                  have : splice y0.ws 0 ([] : List Int) = y0.ws := by simp [splice]
                  rw [this]
                  exact HI.out.rs
                have HI2 := hid hI2
                have HK2 : Hid (∀ c n', numL s.data.toList (i + 4 + 7 * k + 2 + c) n' = numL (l.drop (4 + 7 * k + 2)) c n') := fun c n' => by
                  rw [show i + 4 + 7 * k + 2 + c = i + (4 + 7 * k + 2 + c) by omega, HL.out, numL_drop l (4 + 7 * k + 2) c n' (by omega)]
                have HMF : Hid ((m : Int) ≤ firstWords (regsN k (l.drop 4) false).1) := by unfold Hid; rw [HFW.out]; omega
                have hc0' : ¬ (m : Int) < 0 := by omega
                have hc1' : ¬ y0.r.2.1 < (m : Int) := by omega
                clear hI2 hcb hcb0
                rw [hm]
                clear hm hc0 hc1
                go_wp2_with fail
                clear cW cS
                go_loopw [1, 11] (fun a b wr => ∃ j : Nat, j ≤ m ∧ b = .int .i64 j ∧ a = .int .i64 ((i : Int) + 4 + 7 * k + 2 + 4 * j) ∧ (wordsN j (l.drop (4 + 7 * k + 2)) false).2.2 = false ∧ RInv2 w (numL l 0 1) (numL l 2 2) (.slice (some ⟨gv, 0, none⟩) (y0 :: ys').length cv) y0 ys' (wordsN j (l.drop (4 + 7 * k + 2)) false).1 wr) (fun _ b _ => m - (intOf b).toNat)
                case atStart => exact ⟨0, Nat.zero_le _, rfl, by go_num, rfl, HI2.out⟩
                case round =>
                  obtain ⟨j, hj, rfl, rfl, hwok, hJ⟩ := hrel
                  have HWOK := hid hwok
                  have HJ := hid hJ
                  have hdj := wordsN_drop (l.drop (4 + 7 * k + 2)) j hwok
                  rw [List.length_drop] at hdj
                  have hdj2 := hdj.2
                  have hwlen := wordsN_len j (l.drop (4 + 7 * k + 2)) false
                  have HWLEN := hid hwlen
                  clear hwok hJ hdj HI2 hwlen
                  by_cases hjm : j < m
                  · go_wp2_with fail
                    refine (number_l s _ 4 _ hs (by omega) (by omega) (by omega)).mono ?_
                    rw [show ((i : Int) + 4 + 7 * k + 2 + 4 * j).toNat = i + 4 + 7 * k + 2 + 4 * j from by omega, HK2.out]
                    rintro e w3 ⟨rfl, rfl⟩
                    by_cases hw0 : numL (l.drop (4 + 7 * k + 2)) (4 * j) 4 < 0
                    · have HB : Hid ((rward l false).2.2 = true) := rw_word l HG.out k m HNK.out HOK.out (by omega) HM.out HMF.out j hjm HWOK.out (by
                        intro hh
                        have := numL_ok (l.drop (4 + 7 * k + 2)) (4 * j) 4 (by rw [List.length_drop]; omega)
                        omega)
                      go_wp2_with (first
                        | (refine wpList_loadRow (hu := Tryz.underlying130) ?_ 130 (.tmp 6) ?_ (w.heap.size + 1) 130 _ ?_ HJ.out.g ?_ ?_ ?_; rfl; rfl; rfl; rfl; kernel_rfl)
                        | (refine wpList_storeRow ?_ 130 (.tmp 4) (.tmp 115) ?_ w.heap.size 130 _ #[.int .i64 (numL l 0 1), (.slice (some ⟨gv, 0, none⟩) (y0 :: ys').length cv), .slice none 0 0, .int .i64 0, .int .i64 0, .int .i64 0, .int .i64 0, .int .i64 0, .int .i64 0, .int .i64 0, .int .i64 0, .int .i64 (numL l 2 2), .int .i64 0, .int .i64 0, .int .i64 0, .bool false, .int .i64 0, .int .i64 0, .int .i64 0, .int .i64 0, .int .i64 0, .int .i64 0, .int .i64 0, .int .i64 0, .int .i64 0, .int .i64 0, .int .i64 0, .int .i64 0, .bool false] ?_ ?_ HJ.out.p ?_ ?_ ?_ ?_; rfl; rfl; rfl; rfl; kernel_rfl; rfl; exact rw_one _ _ _ rfl; intro wz gz hfz))
                      refine bodyPost_ret (v := .tuple #[.agg #[.int .i64 (numL l 0 1), (.slice (some ⟨gv, 0, none⟩) (y0 :: ys').length cv), .slice none 0 0, .int .i64 0, .int .i64 0, .int .i64 0, .int .i64 0, .int .i64 0, .int .i64 0, .int .i64 0, .int .i64 0, .int .i64 (numL l 2 2), .int .i64 0, .int .i64 0, .int .i64 0, .bool false, .int .i64 0, .int .i64 0, .int .i64 0, .int .i64 0, .int .i64 0, .int .i64 0, .int .i64 0, .int .i64 0, .int .i64 0, .int .i64 0, .int .i64 0, .int .i64 0, .bool false], .int .i64 (-1)]) ?_ rfl ⟨(HJ.out.fr.step hfz (fun i hi => .inr (by omega))), _, _, _, _, rfl, rfl, fun _ => rfl, fun h => by rw [HB.out] at h; cases h⟩
                      exact results_cell_tmp Tryz.results77 _ wz w.heap.size 130 _ (0, 0) rfl gz Tryz.underlying130 rfl (by kernel_rfl) _ rfl
                    · have hlw := numL_len (l.drop (4 + 7 * k + 2)) (4 * j) 4 (by omega)
                      have cW : w3.cell? ⟨w.heap.size + 1, 1, none⟩ = some (.slice (some ⟨gv, 0, none⟩) (y0 :: ys').length cv) := row_cell HJ.out.g 1
                      have hsl : (splice y0.ws 0 (wordsN j (l.drop (4 + 7 * k + 2)) false).1).length = y0.ws.length := length_splice _ _ _ (by rw [HWLEN.out]; omega)
                      have cS : w3.cell? ⟨gv, 4, none⟩ = some (.slice (some ⟨y0.g, 0, none⟩) y0.ws.length y0.ws.length) := by
                        have h1 := HJ.out.rs.own
                        rw [show ((⟨y0.r, y0.g, splice y0.ws 0 (wordsN j (l.drop (4 + 7 * k + 2)) false).1⟩ :: ys' : List RReg)).length = (y0 :: ys').length from rfl] at h1
                        rw [h1.cellAt 4 (by simp only [List.length_cons]; omega)]
                        simp [rrCells, hsl]
                      have hb := (HJ.out.rs.blk _ (List.mem_cons_self ..)).1
                      simp only at hb
                      have cj : ∃ u, w3.cell? ⟨y0.g, j, none⟩ = some u := by
                        rw [row_cell hb]
                        simp only [intCells, List.getElem?_toArray, List.getElem?_map]
                        rw [List.getElem?_eq_getElem (by rw [hsl]; omega)]
                        exact ⟨_, rfl⟩
                      obtain ⟨u, cj⟩ := cj
                      have fj := row_frozen hb j
                      have hR := HJ.out.step (numL (l.drop (4 + 7 * k + 2)) (4 * j) 4) (by rw [HWLEN.out]; omega)
                      rw [HWLEN.out] at hR
                      have HR := hid hR
                      have hji : (j : Int) < (y0.ws.length : Int) := by omega
                      have hw0' : ¬ numL (l.drop (4 + 7 * k + 2)) (4 * j) 4 < 0 := hw0
                      clear hb hR hsl
                      go_wp2_with fail
                      go_roundw
                      case rel => exact ⟨j + 1, by omega, by go_num, by go_num, by rw [wordsN_step _ _ HWOK.out (by omega)], by rw [wordsN_step _ _ HWOK.out (by omega)]; exact HR.out⟩
                      case measure => simp [intOf]; omega
                  · obtain rfl : j = m := by omega
                    have HE := hid (rw_eq3 l HG.out k j HNK.out HOK.out hl2 HM.out HMF.out)
                    have HLL : Hid (l.length + i = s.size) := by unfold Hid; rw [El.out, List.length_drop, len_data]; omega
                    go_wp2_with (first
                      | (refine wpList_loadRow (hu := Tryz.underlying130) ?_ 130 (.tmp 6) ?_ (w.heap.size + 1) 130 _ ?_ HJ.out.g ?_ ?_ ?_; rfl; rfl; rfl; rfl; kernel_rfl)
                      | (refine wpList_storeRow ?_ 130 (.tmp 4) (.tmp 126) ?_ w.heap.size 130 _ #[.int .i64 (numL l 0 1), (.slice (some ⟨gv, 0, none⟩) (y0 :: ys').length cv), .slice none 0 0, .int .i64 0, .int .i64 0, .int .i64 0, .int .i64 0, .int .i64 0, .int .i64 0, .int .i64 0, .int .i64 0, .int .i64 (numL l 2 2), .int .i64 0, .int .i64 0, .int .i64 0, .bool false, .int .i64 0, .int .i64 0, .int .i64 0, .int .i64 0, .int .i64 0, .int .i64 0, .int .i64 0, .int .i64 0, .int .i64 0, .int .i64 0, .int .i64 0, .int .i64 0, .bool false] ?_ ?_ HJ.out.p ?_ ?_ ?_ ?_; rfl; rfl; rfl; rfl; kernel_rfl; rfl; exact rw_one _ _ _ rfl; intro wz gz hfz))
                    refine bodyPost_ret (v := .tuple #[.agg #[.int .i64 (numL l 0 1), (.slice (some ⟨gv, 0, none⟩) (y0 :: ys').length cv), .slice none 0 0, .int .i64 0, .int .i64 0, .int .i64 0, .int .i64 0, .int .i64 0, .int .i64 0, .int .i64 0, .int .i64 0, .int .i64 (numL l 2 2), .int .i64 0, .int .i64 0, .int .i64 0, .bool false, .int .i64 0, .int .i64 0, .int .i64 0, .int .i64 0, .int .i64 0, .int .i64 0, .int .i64 0, .int .i64 0, .int .i64 0, .int .i64 0, .int .i64 0, .int .i64 0, .bool false], .int .i64 ((i : Int) + 4 + 7 * k + 2 + 4 * j)]) ?_ rfl ⟨HJ.out.fr.step hfz (fun i hi => .inr (by omega)), _, _, _, _, rfl, rfl, fun h => ?_, fun _ => ⟨?_, ?_, ?_, ?_⟩⟩
                    · exact results_cell_tmp Tryz.results77 _ wz w.heap.size 130 _ (0, 0) rfl gz Tryz.underlying130 rfl (by kernel_rfl) _ rfl
                    · rw [HE.out] at h
                      have := HWOK.out
                      simp only at h
                      rw [this] at h
                      cases h
                    · rw [HE.out]
                      simp only
                      have hd := (wordsN_drop (l.drop (4 + 7 * k + 2)) j HWOK.out).1
                      rw [hd, List.length_drop, List.length_drop]
                      have := HLL.out
                      omega
                    · rw [HE.out]
                    · rw [HE.out]
                    · refine ⟨⟨y0.r, y0.g, splice y0.ws 0 (wordsN j (l.drop (4 + 7 * k + 2)) false).1⟩ :: ys', ?_, ?_, ?_⟩
                      · refine ⟨hfz.owns1T HJ.out.p HJ.out.rs.own (by decide), fun y hy => ⟨hfz.get1 (HJ.out.rs.blk y hy).1 ?_, (HJ.out.rs.blk y hy).2⟩, HJ.out.rs.inc⟩
                        intro e
                        have h1 := (HJ.out.rs.blk y hy).1
                        rw [e, HJ.out.p] at h1
                        simp only [Option.some.injEq, Obj.cells.injEq] at h1
                        exact absurd h1.2.1 (by decide)
                      · rw [HE.out]
                        exact HI.out.e1
                      · rw [HE.out]
                        simp only
                        rw [← HI.out.e2]
                        rfl
      · have h4' : numL l 2 2 < 0 := by omega
        have HB : Hid ((rward l false).2.2 = true) := rw_head l (fun h => by have := numL_ok l 2 2 h.1; omega)
        clear g0
        have g0 : w1.cell? ⟨w.heap.size + 1, 11, none⟩ = some (.int .i64 (numL l 2 2)) := row_cell HI0.out.g 11
        go_wp2_with (first
          | (refine wpList_loadRow (hu := Tryz.underlying130) ?_ 130 (.tmp 6) ?_ (w.heap.size + 1) 130 _ ?_ HI0.out.g ?_ ?_ ?_; rfl; rfl; rfl; rfl; kernel_rfl)
          | (refine wpList_storeRow ?_ 130 (.tmp 4) (.tmp 42) ?_ w.heap.size 130 _ #[.int .i64 (numL l 0 1), .slice none 0 0, .slice none 0 0, .int .i64 0, .int .i64 0, .int .i64 0, .int .i64 0, .int .i64 0, .int .i64 0, .int .i64 0, .int .i64 0, .int .i64 (numL l 2 2), .int .i64 0, .int .i64 0, .int .i64 0, .bool false, .int .i64 0, .int .i64 0, .int .i64 0, .int .i64 0, .int .i64 0, .int .i64 0, .int .i64 0, .int .i64 0, .int .i64 0, .int .i64 0, .int .i64 0, .int .i64 0, .bool false] ?_ ?_ HI0.out.p ?_ ?_ ?_ ?_; rfl; rfl; rfl; rfl; kernel_rfl; rfl; exact rw_one _ _ _ rfl; intro wz gz hfz))
        refine bodyPost_ret (v := .tuple #[.agg #[.int .i64 (numL l 0 1), .slice none 0 0, .slice none 0 0, .int .i64 0, .int .i64 0, .int .i64 0, .int .i64 0, .int .i64 0, .int .i64 0, .int .i64 0, .int .i64 0, .int .i64 (numL l 2 2), .int .i64 0, .int .i64 0, .int .i64 0, .bool false, .int .i64 0, .int .i64 0, .int .i64 0, .int .i64 0, .int .i64 0, .int .i64 0, .int .i64 0, .int .i64 0, .int .i64 0, .int .i64 0, .int .i64 0, .int .i64 0, .bool false], .int .i64 (-1)]) ?_ rfl ⟨(HI0.out.fr.step hfz (fun i hi => .inr (by omega))), _, _, _, _, rfl, rfl, fun _ => rfl, fun h => by rw [HB.out] at h; cases h⟩
        exact results_cell_tmp Tryz.results77 _ wz w.heap.size 130 _ (0, 0) rfl gz Tryz.underlying130 rfl (by kernel_rfl) _ rfl
    · have hnb : (decide (1 ≤ numL l 1 1) && decide (numL l 1 1 ≤ 3)) = false := by simp; omega
      rw [hnb]
      have HB : Hid ((rward l false).2.2 = true) := rw_head l (fun h => hn ⟨h.2.2.2.1, h.2.2.2.2⟩)
      clear g0
      go_wp2_with (first
        | (refine wpList_loadRow (hu := Tryz.underlying130) ?_ 130 (.tmp 6) ?_ (w.heap.size + 1) 130 _ ?_ HI0.out.g ?_ ?_ ?_; rfl; rfl; rfl; rfl; kernel_rfl)
        | (refine wpList_storeRow ?_ 130 (.tmp 4) (.tmp 42) ?_ w.heap.size 130 _ #[.int .i64 (numL l 0 1), .slice none 0 0, .slice none 0 0, .int .i64 0, .int .i64 0, .int .i64 0, .int .i64 0, .int .i64 0, .int .i64 0, .int .i64 0, .int .i64 0, .int .i64 (numL l 2 2), .int .i64 0, .int .i64 0, .int .i64 0, .bool false, .int .i64 0, .int .i64 0, .int .i64 0, .int .i64 0, .int .i64 0, .int .i64 0, .int .i64 0, .int .i64 0, .int .i64 0, .int .i64 0, .int .i64 0, .int .i64 0, .bool false] ?_ ?_ HI0.out.p ?_ ?_ ?_ ?_; rfl; rfl; rfl; rfl; kernel_rfl; rfl; exact rw_one _ _ _ rfl; intro wz gz hfz))
      refine bodyPost_ret (v := .tuple #[.agg #[.int .i64 (numL l 0 1), .slice none 0 0, .slice none 0 0, .int .i64 0, .int .i64 0, .int .i64 0, .int .i64 0, .int .i64 0, .int .i64 0, .int .i64 0, .int .i64 0, .int .i64 (numL l 2 2), .int .i64 0, .int .i64 0, .int .i64 0, .bool false, .int .i64 0, .int .i64 0, .int .i64 0, .int .i64 0, .int .i64 0, .int .i64 0, .int .i64 0, .int .i64 0, .int .i64 0, .int .i64 0, .int .i64 0, .int .i64 0, .bool false], .int .i64 (-1)]) ?_ rfl ⟨(HI0.out.fr.step hfz (fun i hi => .inr (by omega))), _, _, _, _, rfl, rfl, fun _ => rfl, fun h => by rw [HB.out] at h; cases h⟩
      exact results_cell_tmp Tryz.results77 _ wz w.heap.size 130 _ (0, 0) rfl gz Tryz.underlying130 rfl (by kernel_rfl) _ rfl
  · have hqb : (decide (1 ≤ numL l 0 1) && decide (numL l 0 1 ≤ 64)) = false := by simp; omega
    rw [hqb]
    have HB : Hid ((rward l false).2.2 = true) := rw_head l (fun h => hq ⟨h.2.1, h.2.2.1⟩)
    clear g0
    go_wp2_with (first
      | (refine wpList_loadRow (hu := Tryz.underlying130) ?_ 130 (.tmp 6) ?_ (w.heap.size + 1) 130 _ ?_ HI0.out.g ?_ ?_ ?_; rfl; rfl; rfl; rfl; kernel_rfl)
      | (refine wpList_storeRow ?_ 130 (.tmp 4) (.tmp 42) ?_ w.heap.size 130 _ #[.int .i64 (numL l 0 1), .slice none 0 0, .slice none 0 0, .int .i64 0, .int .i64 0, .int .i64 0, .int .i64 0, .int .i64 0, .int .i64 0, .int .i64 0, .int .i64 0, .int .i64 (numL l 2 2), .int .i64 0, .int .i64 0, .int .i64 0, .bool false, .int .i64 0, .int .i64 0, .int .i64 0, .int .i64 0, .int .i64 0, .int .i64 0, .int .i64 0, .int .i64 0, .int .i64 0, .int .i64 0, .int .i64 0, .int .i64 0, .bool false] ?_ ?_ HI0.out.p ?_ ?_ ?_ ?_; rfl; rfl; rfl; rfl; kernel_rfl; rfl; exact rw_one _ _ _ rfl; intro wz gz hfz))
    refine bodyPost_ret (v := .tuple #[.agg #[.int .i64 (numL l 0 1), .slice none 0 0, .slice none 0 0, .int .i64 0, .int .i64 0, .int .i64 0, .int .i64 0, .int .i64 0, .int .i64 0, .int .i64 0, .int .i64 0, .int .i64 (numL l 2 2), .int .i64 0, .int .i64 0, .int .i64 0, .bool false, .int .i64 0, .int .i64 0, .int .i64 0, .int .i64 0, .int .i64 0, .int .i64 0, .int .i64 0, .int .i64 0, .int .i64 0, .int .i64 0, .int .i64 0, .int .i64 0, .bool false], .int .i64 (-1)]) ?_ rfl ⟨(HI0.out.fr.step hfz (fun i hi => .inr (by omega))), _, _, _, _, rfl, rfl, fun _ => rfl, fun h => by rw [HB.out] at h; cases h⟩
    exact results_cell_tmp Tryz.results77 _ wz w.heap.size 130 _ (0, 0) rfl gz Tryz.underlying130 rfl (by kernel_rfl) _ rfl

end Go.Proofs.YthmcheoehcmglaaGreat
