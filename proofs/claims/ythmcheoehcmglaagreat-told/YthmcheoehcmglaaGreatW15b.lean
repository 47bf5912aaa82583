/- wards.start: its parts: what is made; the wards' devices. -/
import Derived.Test.YthmcheoehcmglaaGreatW15a
namespace Go.Proofs.YthmcheoehcmglaaGreat
open Go.RowKit
set_option linter.unusedVariables false
attribute [local go_sem ↓] Go.wp_at_zero Go.wp_at_succ

/-- The cells of n words that are noughts, as make lays them. -/
theorem made_words (n : Nat) : madeCells (Value.int IntKind.u32 0).cells (n * 1) = (wordCells (List.replicate n 0)).toArray := by
  apply Array.ext'
  have e1 : (Value.int IntKind.u32 0).cells = #[Value.int .u32 0] := rfl
  rw [e1, toList_madeCells_one]
  simp [wordCells]
theorem made_devs (n : Nat) : madeCells (Value.agg #[.int .u32 0, .slice none 0 0]).cells (n * 2) = (dev0 n).toArray := by
  apply Array.ext'
  exact made2 _ _ n

theorem mk_mem (n : Nat) (hn : n ≤ 1024) (w : World) : (Instr.makeSlice 35 (.int .i64 n) (.int .i64 n)).run Tryz.prog w = .ok (.slice (some ⟨w.heap.size, 0, none⟩) n n) (w.alloc (.cells (wordCells (List.replicate n 0)).toArray 33)) := by
  obtain ⟨i0, hi0, hz0, hz1, hz2⟩ := info_parts (show (Tryz.prog.info? 33).map (fun i => (i.zero, i.size, i.bytes)) = some (some (.int .u32 0), 1, 4) by kernel_rfl)
  have h := run_make (P := Tryz.prog) w 35 33 i0 _ Tryz.underlying35 hi0 hz0 .i64 .i64 n n (by omega) (by omega) (by rw [hz2]; omega) (by omega)
  rw [hz1, Int.toNat_natCast, made_words] at h
  exact h
theorem mk_devs (n : Nat) (hn : n ≤ 8) (w : World) : (Instr.makeSlice 99 (.int .i64 n) (.int .i64 n)).run Tryz.prog w = .ok (.slice (some ⟨w.heap.size, 0, none⟩) n n) (w.alloc (.cells (dev0 n).toArray 109)) := by
  obtain ⟨i0, hi0, hz0, hz1, hz2⟩ := info_parts (show (Tryz.prog.info? 109).map (fun i => (i.zero, i.size, i.bytes)) = some (some (.agg #[.int .u32 0, .slice none 0 0]), 2, 32) by kernel_rfl)
  have h := run_make (P := Tryz.prog) w 99 109 i0 _ Tryz.underlying99 hi0 hz0 .i64 .i64 n n (by omega) (by omega) (by rw [hz2]; omega) (by omega)
  rw [hz1, Int.toNat_natCast, made_devs] at h
  exact h


theorem al3a (w : World) (A B C : Obj) : (((w.alloc A).alloc B).alloc C).heap[w.heap.size + 1 + 1]? = some C := by
  have h := heap_alloc_new ((w.alloc A).alloc B) C
  rw [size_alloc1, size_alloc1] at h
  exact h
theorem al3b (w : World) (A B C : Obj) : (((w.alloc A).alloc B).alloc C).heap[w.heap.size + 1]? = some B := by
  have h := get_alloc (heap_alloc_new (w.alloc A) B) C
  rw [size_alloc1] at h
  exact h
theorem al3c (w : World) (A B C : Obj) : (((w.alloc A).alloc B).alloc C).heap[w.heap.size]? = some A := get_alloc (get_alloc (heap_alloc_new w A) B) C

theorem KerIn.init1 {w wa : World} (hf : Fr (fun _ => False) w wa) {im : Img} {vI : Value} {n : Nat} (hn : im.mem = (n : Int)) (xs : List (WardV × Value × Value)) :
    KerIn w im vI (wa.heap.size + 1 + 1) wa.heap.size n (wa.heap.size + 1) (memN im 0) xs 0 0 (.slice none 0 0) (.slice none 0 0) (((wa.alloc (.cells (wordCells (List.replicate n 0)).toArray 33)).alloc (.cells (dev0 im.ow.length).toArray 109)).alloc (.cells #[.slice (some ⟨wa.heap.size, 0, none⟩) n n, .int .i64 0, .int .i64 im.gap, .slice none 0 0, .slice none 0 0, vI, .slice (some ⟨wa.heap.size + 1, 0, none⟩) im.ow.length im.ow.length] 101)).drew := by
  have hs := hf.size
  have e1 : memN im 0 = List.replicate n 0 := by simp [memN, hn]
  rw [e1]
  exact ⟨al3a _ _ _ _, al3c _ _ _ _, al3b _ _ _ _, World.ownsRow_nil _ _ _ _, World.ownsRow_nil _ _ _ _, (((hf.alloc _).alloc _).alloc _).drew, by omega, by omega, by omega⟩
theorem KerIn.init2 {w wa : World} (hf : Fr (fun _ => False) w wa) {im : Img} {vI : Value} {n : Nat} (hn : im.mem = (n : Int)) (xs : List (WardV × Value × Value)) :
    KerIn w im vI (wa.heap.size + 1 + 1) (wa.heap.size + 1) n wa.heap.size (memN im 0) xs 0 0 (.slice none 0 0) (.slice none 0 0) (((wa.alloc (.cells (dev0 im.ow.length).toArray 109)).alloc (.cells (wordCells (List.replicate n 0)).toArray 33)).alloc (.cells #[.slice (some ⟨wa.heap.size + 1, 0, none⟩) n n, .int .i64 0, .int .i64 im.gap, .slice none 0 0, .slice none 0 0, vI, .slice (some ⟨wa.heap.size, 0, none⟩) im.ow.length im.ow.length] 101)).drew := by
  have hs := hf.size
  have e1 : memN im 0 = List.replicate n 0 := by simp [memN, hn]
  rw [e1]
  exact ⟨al3a _ _ _ _, al3b _ _ _ _, al3c _ _ _ _, World.ownsRow_nil _ _ _ _, World.ownsRow_nil _ _ _ _, (((hf.alloc _).alloc _).alloc _).drew, by omega, by omega, by omega⟩

/-- The plan's own block. -/
def PlanCell (w wr : World) (row : Array Value) : Prop := wr.heap[w.heap.size]? = some (.cells row 112 (0, 0))

/-- The devices, of the first j, that ward k owns. -/
def devsOf (ow : List Int) (k j : Nat) : List Int := ((List.range j).filter (fun i => ow.getD i 0 == (k : Int))).map (fun i : Nat => (i : Int))
theorem devsOf_zero (ow : List Int) (k : Nat) : devsOf ow k 0 = [] := rfl
theorem devsOf_succ (ow : List Int) (k j : Nat) : devsOf ow k (j + 1) = if ow.getD j 0 = (k : Int) then devsOf ow k j ++ [(j : Int)] else devsOf ow k j := by
  unfold devsOf
  rw [List.range_succ, List.filter_append, List.map_append]
  by_cases h : ow.getD j 0 = (k : Int)
  · rw [if_pos h, List.filter_cons_of_pos (by simpa using h)]; rfl
  · rw [if_neg h, List.filter_cons_of_neg (by simpa using h)]; simp
theorem devsOf_le (ow : List Int) (k j : Nat) : (devsOf ow k j).length ≤ j := by
  unfold devsOf
  rw [List.length_map]
  exact Nat.le_trans (List.length_filter_le _ _) (by simp)
theorem devsOf_bd (ow : List Int) (k j : Nat) : ∀ d ∈ devsOf ow k j, 0 ≤ d ∧ d < j := by
  intro d hd
  simp only [devsOf, List.mem_map, List.mem_filter, List.mem_range] at hd
  obtain ⟨i, ⟨h1, _⟩, rfl⟩ := hd
  omega

def kwD (x : WardV × Value × Value) (v : Value) : List Value := stCells (st0 x.1.bg) ++ [x.2.1, v]
def nilV : Value := .slice none 0 0
theorem kwD_lt (x : WardV × Value × Value) (v v' : Value) (c : Nat) (h : c < 14) : (kwD x v)[c]? = (kwD x v')[c]? := by
  have e : ∀ u, (kwD x u)[c]? = (stCells (st0 x.1.bg) ++ [x.2.1])[c]? := by
    intro u
    unfold kwD
    rw [show stCells (st0 x.1.bg) ++ [x.2.1, u] = (stCells (st0 x.1.bg) ++ [x.2.1]) ++ [u] by simp, List.getElem?_append_left (by simp [stCells, st0]; omega)]
  rw [e, e]

/-- A machine that is being made: its wards are laid, the first j devices are told. -/
structure KerDv (w : World) (im : Img) (vI : Value) (X M n D : Nat) (mem : List Int) (xs : List (WardV × Value × Value)) (j : Nat) (vQ : Value) (gK cK : Nat) (vD : List Value) (wr : World) : Prop where
  hx : wr.heap[X]? = some (.cells #[.slice (some ⟨M, 0, none⟩) n n, .int .i64 0, .int .i64 im.gap, vQ, .slice (some ⟨gK, 0, none⟩) xs.length cK, vI, .slice (some ⟨D, 0, none⟩) im.ow.length im.ow.length] 101 (0, 0))
  hm : wr.heap[M]? = some (.cells (wordCells mem).toArray 33 (0, 0))
  hd : wr.heap[D]? = some (.cells (dev0 im.ow.length).toArray 109 (0, 0))
  hq : wr.ownsRow w.heap.size 3 1 vQ xs.length (xs.map qCell)
  hk : ∃ cur : Array Value, wr.heap[gK]? = some (.cells cur 94 (0, 0)) ∧ ∀ k x, xs[k]? = some x → ∀ c v, (kwD x (vD.getD k nilV))[c]? = some v → cur[k * 15 + c]? = some v
  vl : vD.length = xs.length
  dv : ∀ k, k < xs.length → wr.ownsRow w.heap.size 3 1 (vD.getD k nilV) (devsOf im.ow k j).length ((devsOf im.ow k j).map (Value.int .i64))
  dis : ∀ k k', k < xs.length → k' < xs.length → k ≠ k' → ∀ b, (vD.getD k nilV).ownBlock = some b → (vD.getD k' nilV).ownBlock ≠ some b
  dq : ∀ k, k < xs.length → ∀ b, (vD.getD k nilV).ownBlock = some b → vQ.ownBlock ≠ some b
  fr : Fr (fun _ => False) w wr
  x1 : w.heap.size ≤ X
  m1 : w.heap.size ≤ M
  g1 : w.heap.size ≤ gK
  d1 : w.heap.size ≤ D

theorem KerDv.on {w wr w' : World} {im : Img} {vI : Value} {X M n D j gK cK : Nat} {mem : List Int} {xs : List (WardV × Value × Value)} {vQ : Value} {vD : List Value} (h : KerDv w im vI X M n D mem xs j vQ gK cK vD wr) (hf : Fr (fun _ => False) wr w') : KerDv w im vI X M n D mem xs j vQ gK cK vD w' := by
  obtain ⟨cur, hc, hv⟩ := h.hk
  exact ⟨hf.get h.hx id, hf.get h.hm id, hf.get h.hd id, hf.ownsF _ h.hq, ⟨cur, hf.get hc id, hv⟩, h.vl, fun k hk => hf.ownsF _ (h.dv k hk), h.dis, h.dq, h.fr.step hf (fun _ h => .inl h), h.x1, h.m1, h.g1, h.d1⟩

theorem take_get {α : Type} {cur L : List α} {n : Nat} (h : cur.take n = L) {i : Nat} (hi : i < n) : cur[i]? = L[i]? := by
  rw [← h, List.getElem?_take, if_pos hi]

theorem KerDv.zero {w wr : World} {im : Img} {vI : Value} {X M n D : Nat} {mem : List Int} {xs : List (WardV × Value × Value)} {vQ vK : Value} (h : KerIn w im vI X M n D mem xs xs.length xs.length vQ vK wr) (h1 : 1 ≤ xs.length) :
    ∃ gK cK, vK = .slice (some ⟨gK, 0, none⟩) xs.length cK ∧ KerDv w im vI X M n D mem xs 0 vQ gK cK (List.replicate xs.length nilV) wr := by
  have hq := h.hq
  have hk := h.hk
  rw [List.take_of_length_le (Nat.le_refl _)] at hq hk
  rcases hk.2 with ⟨e1, e2⟩ | ⟨g, cap, cur, rfl, hb, hg, hc, -, hs, ht⟩
  · omega
  · have hget : ∀ k, (List.replicate xs.length nilV).getD k nilV = nilV := by
      intro k
      rw [List.getD_eq_getElem?_getD, List.getElem?_replicate]
      split <;> rfl
    refine ⟨g, cap, rfl, h.hx, h.hm, h.hd, hq, ⟨cur, hg, ?_⟩, by simp, ?_, ?_, ?_, h.fr, h.x1, h.m1, hb, h.d1⟩
    · intro k x hx c v hv
      obtain ⟨hkl, hxe⟩ := List.getElem?_eq_some_iff.1 hx
      rw [hget] at hv
      have hcl : c < 15 := by
        have := (List.getElem?_eq_some_iff.1 hv).1
        simpa [kwD, stCells, st0] using this
      have e3 : cur.toList[k * 15 + c]? = (xs.flatMap kwNew)[k * 15 + c]? := take_get ht (by have : (k + 1) * 15 ≤ xs.length * 15 := Nat.mul_le_mul_right _ hkl; omega)
      rw [← Array.getElem?_toList, e3, flat_get kwNew 15 kwNew_len xs k c hkl hcl, hxe]
      exact hv
    · intro k hk
      rw [hget]
      exact World.ownsRow_nil _ _ _ _
    · intro k k' _ _ _ b hb
      rw [hget] at hb
      cases hb
    · intro k _ b hb
      rw [hget] at hb
      cases hb

theorem getD_set_same {α : Type} (l : List α) (i : Nat) (v d : α) (h : i < l.length) : (l.set i v).getD i d = v := by simp [h]
theorem getD_set_ne {α : Type} (l : List α) (i j : Nat) (v d : α) (h : i ≠ j) : (l.set i v).getD j d = l.getD j d := by simp [List.getElem?_set_ne h]

/-- One device more. -/
theorem KerDv.step {w wa w3 : World} {im : Img} {vI : Value} {X M n D j gK cK : Nat} {mem : List Int} {xs : List (WardV × Value × Value)} {vQ v' : Value} {vD : List Value} (h : KerDv w im vI X M n D mem xs j vQ gK cK vD wa) (ko : Nat) (hko : ko < xs.length) (hj : im.ow.getD j 0 = (ko : Int)) (g cap : Nat)
    (hv' : v' = .slice (some ⟨g, 0, none⟩) ((devsOf im.ow ko j).length + 1) cap)
    (hown3 : w3.ownsRow w.heap.size 3 1 v' ((devsOf im.ow ko j).length + 1) ((devsOf im.ow ko j).map (Value.int .i64) ++ (#[.int .i64 (j : Int)] : Array Value).toList)) (hf : Fr (fun i => (vD.getD ko nilV).ownBlock = some i) wa w3) (hg : (vD.getD ko nilV).ownBlock = some g ∨ g = wa.heap.size) :
    KerDv w im vI X M n D mem xs (j + 1) vQ gK cK (vD.set ko v') (w3.setCell ⟨gK, ko * 15 + 14, none⟩ v') := by
  have hdk := h.dv ko hko
  have hvl := h.vl
  obtain ⟨cur, hc, hcv⟩ := h.hk
  have x3 := hf.getT hdk h.hx (by decide)
  have m3 := hf.getT hdk h.hm (by decide)
  have d3 := hf.getT hdk h.hd (by decide)
  have k3 := hf.getT hdk hc (by decide)
  have hgs : wa.heap.size ≤ g ∨ (vD.getD ko nilV).ownBlock = some g := by rcases hg with h | h; exact .inr h; exact .inl (by omega)
  have hown' : v'.ownBlock = some g := by rw [hv']; rfl
  refine ⟨set_other x3 (ne_of_ty x3 k3 (by decide)) _, set_other m3 (ne_of_ty m3 k3 (by decide)) _, set_other d3 (ne_of_ty d3 k3 (by decide)) _, ?_, ⟨cur.setIfInBounds (ko * 15 + 14) v', row_set k3 _ _, ?_⟩, by simp [hvl], ?_, ?_, ?_, ?_, h.x1, h.m1, h.g1, h.d1⟩
  · exact owns_setT (hf.owns h.hq (fun b hb hb' => h.dq ko hko b hb' hb)) k3 (by decide) _
  · intro k x hx c v hv
    obtain ⟨hkl, _⟩ := List.getElem?_eq_some_iff.1 hx
    have hcl : c < 15 := by
      have := (List.getElem?_eq_some_iff.1 hv).1
      simpa [kwD, stCells, st0] using this
    by_cases hkk : ko = k
    · subst hkk
      rw [getD_set_same _ _ _ _ (by omega)] at hv
      by_cases hc14 : c = 14
      · subst hc14
        have h1 : v = v' := by
          have : (kwD x v')[14]? = some v' := by simp [kwD, stCells, st0]
          rw [this] at hv
          exact (Option.some.inj hv).symm
        subst h1
        have hb : ko * 15 + 14 < cur.size := by
          obtain ⟨u, hu⟩ : ∃ u, (kwD x (vD.getD ko nilV))[14]? = some u := ⟨vD.getD ko nilV, by simp [kwD, stCells, st0]⟩
          exact (Array.getElem?_eq_some_iff.1 (hcv ko x hx 14 u hu)).1
        rw [Array.getElem?_setIfInBounds, if_pos rfl, if_pos hb]
      · have e1 := kwD_lt x v' (vD.getD ko nilV) c (by omega)
        rw [e1] at hv
        rw [Array.getElem?_setIfInBounds, if_neg (by omega)]
        exact hcv ko x hx c v hv
    · rw [getD_set_ne _ _ _ _ _ hkk] at hv
      rw [Array.getElem?_setIfInBounds, if_neg (by omega)]
      exact hcv k x hx c v hv
  · intro k hk
    rw [devsOf_succ]
    by_cases hkk : ko = k
    · subst hkk
      rw [getD_set_same _ _ _ _ (by omega), if_pos hj, List.length_append, List.map_append]
      exact owns_setT hown3 k3 (by decide) _
    · rw [getD_set_ne _ _ _ _ _ hkk, if_neg (by rw [hj]; omega)]
      exact owns_setT (hf.owns (h.dv k hk) (fun b hb hb' => h.dis ko k hko hk hkk b hb' hb)) k3 (by decide) _
  · intro k k' hk hk' hne b hb hb'
    have old : ∀ m, m < xs.length → m ≠ ko → (vD.getD m nilV).ownBlock ≠ some g := by
      intro m hm hmk e
      rcases hgs with h1 | h1
      · have := ((h.dv m hm).lt g e).2
        omega
      · exact h.dis ko m hko hm (fun e => hmk e.symm) g h1 e
    by_cases h1 : ko = k
    · subst h1
      rw [getD_set_same _ _ _ _ (by omega), hown'] at hb
      rw [getD_set_ne _ _ _ _ _ hne] at hb'
      cases hb
      exact old k' hk' (fun e => hne e.symm) hb'
    · rw [getD_set_ne _ _ _ _ _ h1] at hb
      by_cases h2 : ko = k'
      · subst h2
        rw [getD_set_same _ _ _ _ (by omega), hown'] at hb'
        cases hb'
        exact old k hk hne hb
      · rw [getD_set_ne _ _ _ _ _ h2] at hb'
        exact h.dis k k' hk hk' hne b hb hb'
  · intro k hk b hb hb'
    by_cases h1 : ko = k
    · subst h1
      rw [getD_set_same _ _ _ _ (by omega), hown'] at hb
      cases hb
      rcases hgs with h1 | h1
      · have := (h.hq.lt g hb').2
        omega
      · exact h.dq ko hko g h1 hb'
    · rw [getD_set_ne _ _ _ _ _ h1] at hb
      exact h.dq k hk b hb hb'
  · exact (h.fr.step hf (fun i hi => .inr (hdk.lt i hi).1)).setCell (.inr h.g1) _

end Go.Proofs.YthmcheoehcmglaaGreat
