/- What is to be seen of a kernel: Word, Clock, View. -/
import Derived.Test.YtoccdnimikifnaaW14
import Derived.BigQuiet
import Derived.Deep.QuietTactic
namespace Go.Proofs.Ytoccdnimikifnaa
open Go.RowKit
set_option linter.unusedVariables false
attribute [local go_sem ↓] Go.wp_at_zero Go.wp_at_succ

/-- A ward's cells in the kernel. -/
def kwCells (x : StV × Value) : List Value := stCells x.1 ++ [x.2]

/-- A kernel lies in block X, its memory in block M. -/
structure KerAt (w : World) (X M n : Nat) (mem : List Int) (ck : Int) (ks : List (StV × Value)) (vK : Value) : Prop where
  hx : w.heap[X]? = some (.cells #[.slice (some ⟨M, 0, none⟩) n n, .int .i64 ck, vK] 78 (0, 0))
  hm : w.heap[M]? = some (.cells (wordCells mem).toArray 37 (0, 0))
  hk : w.ownsRow 0 86 14 vK ks.length (ks.flatMap kwCells)
  hn : mem.length = n
  h0 : 64 ≤ n
  h1 : n ≤ 1024
  hw : 16 + 16 * ks.length ≤ n
  ok : ∀ x ∈ ks, x.1.Ok
  mb : ∀ v ∈ mem, 0 ≤ v ∧ v < 4294967296

theorem KerAt.fr {w w' : World} {X M n : Nat} {mem : List Int} {ck : Int} {ks : List (StV × Value)} {vK : Value} (h : KerAt w X M n mem ck ks vK) (hf : Fr (fun _ => False) w w') : KerAt w' X M n mem ck ks vK :=
  ⟨hf.get h.hx id, hf.get h.hm id, hf.ownsF _ h.hk, h.hn, h.h0, h.h1, h.hw, h.ok, h.mb⟩

theorem mem_cell {w : World} {M : Nat} {mem : List Int} (h : w.heap[M]? = some (.cells (wordCells mem).toArray 37 (0, 0))) (i : Nat) (hi : i < mem.length) : w.cell? ⟨M, i, none⟩ = some (.int .u32 mem[i]) := by
  rw [row_cell h]
  simp [wordCells, hi]

set_option maxRecDepth 100000 in
set_option maxHeartbeats 1000000 in
theorem word_any (w : World) (X M n : Nat) (mem : List Int) (ck : Int) (ks : List (StV × Value)) (vK : Value) (i : Int) (h : KerAt w X M n mem ck ks vK) :
    Calls Try.prog 11 #[.pointer (some ⟨X, 0, none⟩), .int .i64 i] w fun e w' =>
      e = .returned (.tuple #[.int .u32 (if 0 ≤ i ∧ i < n then mem.getD i.toNat 0 else 0), .int .i64 (if 0 ≤ i ∧ i < n then 0 else 6)]) ∧ w' = w := by
  have c0 : w.cell? ⟨X, 0, none⟩ = some (.slice (some ⟨M, 0, none⟩) n n) := row_cell h.hx 0
  have hn := h.h1
  by_cases h1 : i < 0
  · have HE : Hid ((0 ≤ i ∧ i < (n : Int)) = False) := by simp [Hid]; omega
    have HH := hid h
    clear h
    go_enter Try.func11, Try.ntmps11
    go_wp2_with fail
    go_ret2
    exact ⟨rfl, rfl⟩
  · by_cases h2 : (n : Int) ≤ i
    · have HE : Hid ((0 ≤ i ∧ i < (n : Int)) = False) := by simp [Hid]; omega
      have HH := hid h
      clear h
      go_enter Try.func11, Try.ntmps11
      go_wp2_with fail
      go_ret2
      exact ⟨rfl, rfl⟩
    · obtain ⟨j, rfl⟩ := Int.eq_ofNat_of_zero_le (show 0 ≤ i by omega)
      have hj : j < mem.length := by rw [h.hn]; omega
      have cj := mem_cell h.hm j hj
      have HE : Hid ((0 ≤ (j : Int) ∧ (j : Int) < (n : Int)) = True) := by simp [Hid]; omega
      have hjn : (j : Int) < (n : Int) := by omega
      have HG : Hid (mem.getD (j : Int).toNat 0 = mem[j]) := by simp [Hid, hj]
      clear h
      go_enter Try.func11, Try.ntmps11
      go_wp2_with fail
      go_ret2
      refine ⟨?_, rfl⟩
      first | rfl | (rw [HG.out]; rfl) | (simp [hj])

set_option maxRecDepth 100000 in
set_option maxHeartbeats 1000000 in
theorem clock_any (w : World) (X M n : Nat) (mem : List Int) (ck : Int) (ks : List (StV × Value)) (vK : Value) (h : KerAt w X M n mem ck ks vK) :
    Calls Try.prog 16 #[.pointer (some ⟨X, 0, none⟩)] w fun e w' => e = .returned (.int .i64 ck) ∧ w' = w := by
  have c0 : w.cell? ⟨X, 1, none⟩ = some (.int .i64 ck) := row_cell h.hx 1
  clear h
  go_enter Try.func16, Try.ntmps16
  go_wp2_with fail
  go_ret
  exact ⟨rfl, rfl⟩

set_option maxRecDepth 100000 in
set_option maxHeartbeats 1000000 in
theorem khas_any (w : World) (X M n : Nat) (mem : List Int) (ck : Int) (ks : List (StV × Value)) (vK : Value) (k : Int) (h : KerAt w X M n mem ck ks vK) :
    Calls Try.prog 20 #[.pointer (some ⟨X, 0, none⟩), .int .i64 k] w fun e w' => e = .returned (.bool (hasB ks.length k)) ∧ w' = w := by
  obtain ⟨ao, c, rfl⟩ := owns_shape h.hk
  have c2 : w.cell? ⟨X, 2, none⟩ = some (.slice ao ks.length c) := row_cell h.hx 2
  clear h
  unfold hasB
  by_cases h1 : 0 ≤ k
  · go_enter Try.func20, Try.ntmps20
    go_wp2
    all_goals go_ret
    all_goals exact ⟨ret_bool (by simp [h1]), rfl⟩
  · go_enter Try.func20, Try.ntmps20
    go_wp2
    all_goals go_ret
    all_goals exact ⟨ret_bool (by simp; omega), rfl⟩

set_option maxRecDepth 100000 in
set_option maxHeartbeats 1000000 in
theorem inTurn_any (w : World) (X M n : Nat) (mem : List Int) (ck : Int) (ks : List (StV × Value)) (vK : Value) (k : Nat) (h : KerAt w X M n mem ck ks vK) (hk : k ≤ 1000) :
    Calls Try.prog 40 #[.pointer (some ⟨X, 0, none⟩), .int .i64 k] w fun e w' => e = .returned (.bool (mem.getD 0 0 == (k : Int))) ∧ w' = w := by
  have c0 : w.cell? ⟨X, 0, none⟩ = some (.slice (some ⟨M, 0, none⟩) n n) := row_cell h.hx 0
  have h64 := h.h0
  have hl : 0 < mem.length := by rw [h.hn]; omega
  have c1 := mem_cell h.hm 0 hl
  have HG : Hid (mem.getD 0 0 = mem[0]) := by simp [Hid, hl]
  have hn0 : (0 : Int) < (n : Int) := by omega
  clear h
  go_enter Try.func40, Try.ntmps40
  go_wp2_with fail
  go_ret
  exact ⟨ret_bool (by rw [HG.out]), rfl⟩

/-- How a save area tells a ward. -/
def loadSt (mem : List Int) (off : Nat) : StV := ⟨(mem.drop off).take 8, mem.getD (off + 8) 0, mem.getD (off + 9) 0, mem.getD (off + 10) 0, mem.getD (off + 11) 0, mem.getD (off + 12) 0 != 0⟩

theorem set_tail (L : List Value) (a b c d e a' b' c' d' e' : Value) (h : L.length = 8) :
    (((((L ++ [a, b, c, d, e]).toArray.setIfInBounds 8 a').setIfInBounds 9 b').setIfInBounds 10 c').setIfInBounds 11 d').setIfInBounds 12 e' = (L ++ [a', b', c', d', e']).toArray := by
  simp [h]

theorem loadSt_regs (mem : List Int) (off : Nat) (h : off + 16 ≤ mem.length) : (loadSt mem off).regs.length = 8 := by simp [loadSt]; omega

set_option maxRecDepth 100000 in
set_option maxHeartbeats 2000000 in
theorem load_any (b M off cap : Nat) (T : TypeId) (s : StV) (mem : List Int) (w : World) (hs : s.regs.length = 8) (hbM : b ≠ M) (hb : w.heap[b]? = some (.cells (stCells s).toArray T (0, 0)))
    (hM : w.heap[M]? = some (.cells (wordCells mem).toArray 37 (0, 0))) (hmb : ∀ v ∈ mem, 0 ≤ v ∧ v < 4294967296) (hoff : off + 16 ≤ mem.length) (hml : mem.length ≤ 1024) (hcap : 16 ≤ cap) :
    Calls Try.prog 41 #[.pointer (some ⟨b, 0, none⟩), .slice (some ⟨M, off, none⟩) 16 cap] w fun e w' =>
      e = .returned (.tuple #[]) ∧ w'.heap[b]? = some (.cells (stCells (loadSt mem off)).toArray T (0, 0)) ∧ Fr (fun i => i = b) w w' := by
  have h8c : (wordCells ((mem.drop off).take 8)).length = Nat.min 16 8 := by simp [wordCells]; omega
  have hsrc : ∀ j v, (wordCells ((mem.drop off).take 8))[j]? = some v → w.cell? ((⟨M, off, none⟩ : Addr).add j) = some v := by
    intro j v hj
    rw [show (⟨M, off, none⟩ : Addr).add j = ⟨M, off + j, none⟩ by unfold Addr.add; split <;> simp_all]
    have hlt := (List.getElem?_eq_some_iff.1 hj).1
    have hj8 : j < 8 := by simp [wordCells] at hlt; omega
    rw [mem_cell hM (off + j) (by omega)]
    rw [← hj]
    unfold wordCells
    rw [List.getElem?_map, List.getElem?_take, if_pos hj8, List.getElem?_drop, List.getElem?_eq_getElem (by omega)]
    rfl
  have hfit : 0 + (wordCells ((mem.drop off).take 8)).length ≤ (stCells s).length := by rw [h8c]; simp [stCells, hs]
  have hone : ∀ v ∈ wordCells ((mem.drop off).take 8), v.oneCell' = true := ints_oneCell .u32 _
  have m8 := mem_cell hM (off + 8) (by omega)
  have m9 := mem_cell hM (off + 9) (by omega)
  have m10 := mem_cell hM (off + 10) (by omega)
  have m11 := mem_cell hM (off + 11) (by omega)
  have m12 := mem_cell hM (off + 12) (by omega)
  have b9 := hmb mem[off + 9] (List.getElem_mem _)
  have b10 := hmb mem[off + 10] (List.getElem_mem _)
  have b11 := hmb mem[off + 11] (List.getElem_mem _)
  have HL : Hid (loadSt mem off = ⟨(mem.drop off).take 8, mem[off + 8], mem[off + 9], mem[off + 10], mem[off + 11], mem[off + 12] != 0⟩) := by
    unfold Hid loadSt
    have e : ∀ j, (hj : off + j < mem.length) → mem.getD (off + j) 0 = mem[off + j] := fun j hj => by simp [hj]
    rw [e 8 (by omega), e 9 (by omega), e 10 (by omega), e 11 (by omega), e 12 (by omega)]
  generalize mem[off + 8] = v8 at *
  generalize mem[off + 9] = v9 at *
  generalize mem[off + 10] = v10 at *
  generalize mem[off + 11] = v11 at *
  generalize mem[off + 12] = v12 at *
  have HB := hid hb
  have HM := hid hM
  have HSRC := hid hsrc
  have q1 := b9.1
  have q2 := b9.2
  have q3 := b10.1
  have q4 := b10.2
  have q5 := b11.1
  have q6 := b11.2
  clear hb hM hmb hsrc b9 b10 b11
  go_enter Try.func41, Try.ntmps41
  go_wp2_with fail
  obtain ⟨w1, hrun, hb1, hf1⟩ := run_copyF (P := Try.prog) w 75 75 3 37 b 0 8 8 ⟨M, off, none⟩ 16 cap (stCells s) T (wordCells ((mem.drop off).take 8)) Try.underlying75 (by kernel_rfl) HB.out h8c HSRC.out hfit hone
  rw [hrun]
  clear hrun
  have hsp : splice (stCells s) 0 (wordCells ((mem.drop off).take 8)) = wordCells ((mem.drop off).take 8) ++ [.int .u32 s.place, .int .i64 s.status, .int .i64 s.cause, .int .i64 s.busy, .bool s.y] := by
    unfold splice
    rw [h8c]
    simp [stCells, hs]
  rw [hsp] at hb1
  have hM1 : ∀ j v, w.cell? ⟨M, j, none⟩ = some v → w1.cell? ⟨M, j, none⟩ = some v := fun j v hv => (World.cell?_of_block (hf1.block M (World.block_lt_of_cell? w _ hv) (Ne.symm hbM))).trans hv
  have n8 := hM1 _ _ m8
  have n9 := hM1 _ _ m9
  have n10 := hM1 _ _ m10
  have n11 := hM1 _ _ m11
  have n12 := hM1 _ _ m12
  have hR : ∀ j, w1.cell? ⟨b, 8 + j, none⟩ = [Value.int .u32 s.place, .int .i64 s.status, .int .i64 s.cause, .int .i64 s.busy, .bool s.y][j]? := by
    intro j
    rw [row_cell hb1]
    simp only [List.getElem?_toArray]
    rw [List.getElem?_append_right (by rw [h8c]; simp)]
    rw [h8c]
    simp
  have r8 : w1.cell? ⟨b, 8, none⟩ = some (.int .u32 s.place) := hR 0
  have r9 : w1.cell? ⟨b, 9, none⟩ = some (.int .i64 s.status) := hR 1
  have r10 : w1.cell? ⟨b, 10, none⟩ = some (.int .i64 s.cause) := hR 2
  have r11 : w1.cell? ⟨b, 11, none⟩ = some (.int .i64 s.busy) := hR 3
  have r12 : w1.cell? ⟨b, 12, none⟩ = some (.bool s.y) := hR 4
  have fb := row_frozen hb1
  have HB1 := hid hb1
  have HF1 := hid hf1
  have H8 := hid h8c
  clear hb1 hf1 hsp hM1 hR m8 m9 m10 m11 m12 h8c hfit hone
  go_wp2_with fail
  go_end0
  refine ⟨rfl, ?_, ?_⟩
  · rw [row_set (row_set (row_set (row_set (row_set HB1.out _ _) _ _) _ _) _ _) _ _, set_tail _ _ _ _ _ _ _ _ _ _ _ (by rw [H8.out]; rfl), HL.out]
    rfl
  · exact ((((HF1.out.setCell (.inl rfl) _).setCell (.inl rfl) _).setCell (.inl rfl) _).setCell (.inl rfl) _).setCell (.inl rfl) _

/-- What View tells of ward k. -/
def viewSt (mem : List Int) (ks : List (StV × Value)) (k : Nat) : StV := if mem.getD 0 0 == (k : Int) then (ks.getD k (⟨[], 0, 0, 0, 0, false⟩, .slice none 0 0)).1 else loadSt mem (16 + 16 * k)

def zeroSt : StV := ⟨[0, 0, 0, 0, 0, 0, 0, 0], 0, 0, 0, 0, false⟩

theorem st13 (s : StV) (h : s.regs.length = 8) : ∃ r0 r1 r2 r3 r4 r5 r6 r7, s.regs = [r0, r1, r2, r3, r4, r5, r6, r7] := by
  match hs : s.regs, h with
  | [r0, r1, r2, r3, r4, r5, r6, r7], _ => exact ⟨r0, r1, r2, r3, r4, r5, r6, r7, rfl⟩

/-- Of the kernel's wards, the c-th cell of the k-th. -/
theorem flat_get14 : ∀ (xs : List (StV × Value)), (∀ x ∈ xs, x.1.regs.length = 8) → ∀ (k c : Nat) (hk : k < xs.length), c < 14 → (xs.flatMap kwCells)[k * 14 + c]? = (kwCells xs[k])[c]? := by
  intro xs
  induction xs with
  | nil => intro _ k c hk; simp at hk
  | cons x xs ih =>
    intro h8 k c hk hc
    have hx : (kwCells x).length = 14 := by simp [kwCells, stCells, h8 x (by simp)]
    cases k with
    | zero =>
      simp only [List.flatMap_cons, Nat.zero_mul, Nat.zero_add, List.getElem_cons_zero]
      rw [List.getElem?_append_left (by rw [hx]; exact hc)]
    | succ k =>
      simp only [List.flatMap_cons, List.getElem_cons_succ]
      rw [List.getElem?_append_right (by rw [hx, Nat.succ_mul]; omega), hx, ← ih (fun y hy => h8 y (by simp [hy])) k c (by simpa using hk) hc]
      congr 1
      rw [Nat.succ_mul]
      omega

set_option maxRecDepth 100000 in
set_option maxHeartbeats 2000000 in
theorem report_any (w : World) (X M n : Nat) (mem : List Int) (ck : Int) (ks : List (StV × Value)) (vK : Value) (k : Nat) (h : KerAt w X M n mem ck ks vK) (hk : k < ks.length) :
    Calls Try.prog 21 #[.pointer (some ⟨X, 0, none⟩), .int .i64 k] w fun e w' => e = .returned (.agg (stCells (viewSt mem ks k)).toArray) ∧ Fr (fun _ => False) w w' := by
  have hh1 := h.h1
  have hhw := h.hw
  have hk1000 : k ≤ 1000 := by omega
  have hM : M < w.heap.size := lt_of_get h.hm
  have hX : X < w.heap.size := lt_of_get h.hx
  obtain ⟨gK, cK, rfl, -, hgK⟩ := h.hk.form (by omega)
  have HH := hid h
  clear h
  go_enter Try.func21, Try.ntmps21
  go_wp2_with fail
  refine (inTurn_any _ X M n mem ck ks _ k (HH.out.fr (((Fr.refl _ w).alloc _).alloc _)) hk1000).mono ?_
  rintro e w1 ⟨rfl, rfl⟩
  cases ht : (mem.getD 0 0 == (k : Int))
  · have HV : Hid (viewSt mem ks k = loadSt mem (16 + 16 * k)) := by simp only [Hid, viewSt, ht]; rfl
    have HT := hid ht
    clear ht
    go_wp2_with fail
    refine (area_any X M n k ck _ _ (get_alloc (get_alloc HH.out.hx _) _) (by omega) hh1).mono ?_
    rintro e w1 ⟨rfl, rfl⟩
    go_wp2_with fail
    refine (load_any (w.heap.size + 1) M (16 + 16 * k) (n - (16 + 16 * k)) 72 zeroSt mem _ rfl (by omega) (by rw [heap_new2]; rfl) (get_alloc (get_alloc HH.out.hm _) _) HH.out.mb (by rw [HH.out.hn]; omega) (by rw [HH.out.hn]; exact hh1) (by omega)).mono ?_
    rintro e w2 ⟨rfl, hb2, hf2⟩
    have hr8 := loadSt_regs mem (16 + 16 * k) (by rw [HH.out.hn]; omega)
    obtain ⟨r0, r1, r2, r3, r4, r5, r6, r7, hr⟩ := st13 _ hr8
    have p2 := hf2.get1 (show _ from heap_alloc2_old w _ _) (by omega)
    have HF2 : Hid (Fr (fun _ => False) w w2) := (((Fr.refl _ w).alloc _).alloc _).step hf2 (fun i hi => .inr (by omega))
    generalize loadSt mem (16 + 16 * k) = s at *
    have hsc : stCells s = [.int .u32 r0, .int .u32 r1, .int .u32 r2, .int .u32 r3, .int .u32 r4, .int .u32 r5, .int .u32 r6, .int .u32 r7, .int .u32 s.place, .int .i64 s.status, .int .i64 s.cause, .int .i64 s.busy, .bool s.y] := by simp [stCells, hr]
    rw [hsc] at hb2
    have HSC := hid hsc
    have c2 := row_cell hb2
    have d2 := row_cell p2
    have f2 := row_frozen p2
    clear hb2 hf2 hsc hr hr8
    go_wp2_with fail
    refine bodyPost_ret (v := .agg #[.int .u32 r0, .int .u32 r1, .int .u32 r2, .int .u32 r3, .int .u32 r4, .int .u32 r5, .int .u32 r6, .int .u32 r7, .int .u32 s.place, .int .i64 s.status, .int .i64 s.cause, .int .i64 s.busy, .bool s.y]) ?_ rfl ⟨by rw [HV.out, HSC.out], ?_⟩
    · simp [results, Try.results21, go_sem, d2]
    · iterate 13 (refine Fr.setCell ?_ (.inr (Nat.le_refl _)) _)
      exact HF2.out
  · have HV : Hid (viewSt mem ks k = ks[k].1) := by
      simp only [Hid, viewSt, ht]
      simp [hk]
    have HT := hid ht
    have hok := HH.out.ok ks[k] (List.getElem_mem hk)
    obtain ⟨r0, r1, r2, r3, r4, r5, r6, r7, hr⟩ := st13 _ hok.1
    have hcell : ∀ c, c < 14 → ((w.alloc (.cells #[.int .u32 0, .int .u32 0, .int .u32 0, .int .u32 0, .int .u32 0, .int .u32 0, .int .u32 0, .int .u32 0, .int .u32 0, .int .i64 0, .int .i64 0, .int .i64 0, .bool false] 72)).alloc (.cells #[.int .u32 0, .int .u32 0, .int .u32 0, .int .u32 0, .int .u32 0, .int .u32 0, .int .u32 0, .int .u32 0, .int .u32 0, .int .i64 0, .int .i64 0, .int .i64 0, .bool false] 72)).cell? ⟨gK, k * 14 + c, none⟩ = (kwCells ks[k])[c]? := by
      intro c hc
      have h1 := (HH.out.fr (((Fr.refl _ w).alloc (.cells #[.int .u32 0, .int .u32 0, .int .u32 0, .int .u32 0, .int .u32 0, .int .u32 0, .int .u32 0, .int .u32 0, .int .u32 0, .int .i64 0, .int .i64 0, .int .i64 0, .bool false] 72)).alloc (.cells #[.int .u32 0, .int .u32 0, .int .u32 0, .int .u32 0, .int .u32 0, .int .u32 0, .int .u32 0, .int .u32 0, .int .u32 0, .int .i64 0, .int .i64 0, .int .i64 0, .bool false] 72))).hk
      rw [h1.cellAt (k * 14 + c) (by omega), flat_get14 ks (fun x hx => (HH.out.ok x hx).1) k c hk hc]
    have cX2 : ((w.alloc (.cells #[.int .u32 0, .int .u32 0, .int .u32 0, .int .u32 0, .int .u32 0, .int .u32 0, .int .u32 0, .int .u32 0, .int .u32 0, .int .i64 0, .int .i64 0, .int .i64 0, .bool false] 72)).alloc (.cells #[.int .u32 0, .int .u32 0, .int .u32 0, .int .u32 0, .int .u32 0, .int .u32 0, .int .u32 0, .int .u32 0, .int .u32 0, .int .i64 0, .int .i64 0, .int .i64 0, .bool false] 72)).cell? ⟨X, 2, none⟩ = some (.slice (some ⟨gK, 0, none⟩) ks.length cK) := row_cell (get_alloc (get_alloc HH.out.hx _) _) 2
    have HF : Hid (Fr (fun _ => False) w ((w.alloc (.cells #[.int .u32 0, .int .u32 0, .int .u32 0, .int .u32 0, .int .u32 0, .int .u32 0, .int .u32 0, .int .u32 0, .int .u32 0, .int .i64 0, .int .i64 0, .int .i64 0, .bool false] 72)).alloc (.cells #[.int .u32 0, .int .u32 0, .int .u32 0, .int .u32 0, .int .u32 0, .int .u32 0, .int .u32 0, .int .u32 0, .int .u32 0, .int .i64 0, .int .i64 0, .int .i64 0, .bool false] 72))) := ((Fr.refl _ w).alloc _).alloc _
    have p2 := heap_alloc2_old w (.cells #[.int .u32 0, .int .u32 0, .int .u32 0, .int .u32 0, .int .u32 0, .int .u32 0, .int .u32 0, .int .u32 0, .int .u32 0, .int .i64 0, .int .i64 0, .int .i64 0, .bool false] 72) (.cells #[.int .u32 0, .int .u32 0, .int .u32 0, .int .u32 0, .int .u32 0, .int .u32 0, .int .u32 0, .int .u32 0, .int .u32 0, .int .i64 0, .int .i64 0, .int .i64 0, .bool false] 72)
    have q2 := heap_new2 w (.cells #[.int .u32 0, .int .u32 0, .int .u32 0, .int .u32 0, .int .u32 0, .int .u32 0, .int .u32 0, .int .u32 0, .int .u32 0, .int .i64 0, .int .i64 0, .int .i64 0, .bool false] 72) (.cells #[.int .u32 0, .int .u32 0, .int .u32 0, .int .u32 0, .int .u32 0, .int .u32 0, .int .u32 0, .int .u32 0, .int .u32 0, .int .i64 0, .int .i64 0, .int .i64 0, .bool false] 72)
    generalize (w.alloc (.cells #[.int .u32 0, .int .u32 0, .int .u32 0, .int .u32 0, .int .u32 0, .int .u32 0, .int .u32 0, .int .u32 0, .int .u32 0, .int .i64 0, .int .i64 0, .int .i64 0, .bool false] 72)).alloc (.cells #[.int .u32 0, .int .u32 0, .int .u32 0, .int .u32 0, .int .u32 0, .int .u32 0, .int .u32 0, .int .u32 0, .int .u32 0, .int .i64 0, .int .i64 0, .int .i64 0, .bool false] 72) = wa at *
    generalize hs : ks[k] = sk at *
    have hsc : kwCells sk = [.int .u32 r0, .int .u32 r1, .int .u32 r2, .int .u32 r3, .int .u32 r4, .int .u32 r5, .int .u32 r6, .int .u32 r7, .int .u32 sk.1.place, .int .i64 sk.1.status, .int .i64 sk.1.cause, .int .i64 sk.1.busy, .bool sk.1.y, sk.2] := by simp [kwCells, stCells, hr]
    have HSC : Hid (stCells sk.1 = [.int .u32 r0, .int .u32 r1, .int .u32 r2, .int .u32 r3, .int .u32 r4, .int .u32 r5, .int .u32 r6, .int .u32 r7, .int .u32 sk.1.place, .int .i64 sk.1.status, .int .i64 sk.1.cause, .int .i64 sk.1.busy, .bool sk.1.y]) := by simp [Hid, stCells, hr]
    rw [hsc] at hcell
    have k0 := hcell 0 (by omega)
    have k1 := hcell 1 (by omega)
    have k2 := hcell 2 (by omega)
    have k3 := hcell 3 (by omega)
    have k4 := hcell 4 (by omega)
    have k5 := hcell 5 (by omega)
    have k6 := hcell 6 (by omega)
    have k7 := hcell 7 (by omega)
    have k8 := hcell 8 (by omega)
    have k9 := hcell 9 (by omega)
    have k10 := hcell 10 (by omega)
    have k11 := hcell 11 (by omega)
    have k12 := hcell 12 (by omega)
    simp only [List.getElem?_cons_succ, List.getElem?_cons_zero, Nat.add_zero] at k0 k1 k2 k3 k4 k5 k6 k7 k8 k9 k10 k11 k12
    have c2 := row_cell q2
    have g2 := row_frozen q2
    have d2 := row_cell p2
    have f2 := row_frozen p2
    have hki : (k : Int) < (ks.length : Int) := by omega
    clear hcell hsc hr hok hs ht p2 q2
    go_wp2_with fail
    refine bodyPost_ret (v := .agg #[.int .u32 r0, .int .u32 r1, .int .u32 r2, .int .u32 r3, .int .u32 r4, .int .u32 r5, .int .u32 r6, .int .u32 r7, .int .u32 sk.1.place, .int .i64 sk.1.status, .int .i64 sk.1.cause, .int .i64 sk.1.busy, .bool sk.1.y]) ?_ rfl ⟨by rw [HV.out, HSC.out], ?_⟩
    · simp [results, Try.results21, go_sem, d2]
    · iterate 13 (refine Fr.setCell ?_ (.inr (Nat.le_refl _)) _)
      iterate 13 (refine Fr.setCell ?_ (.inr (Nat.le_succ _)) _)
      exact HF.out

end Go.Proofs.Ytoccdnimikifnaa
