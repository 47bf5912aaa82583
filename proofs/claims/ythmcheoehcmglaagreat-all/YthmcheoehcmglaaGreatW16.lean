/- What is to be seen of a kernel: Word, Clock, View. -/
import Derived.Test.YthmcheoehcmglaaGreatW14
import Derived.BigQuiet
import Derived.Deep.QuietTactic
namespace Go.Proofs.YthmcheoehcmglaaGreat
open Go.RowKit
set_option linter.unusedVariables false
attribute [local go_sem ↓] Go.wp_at_zero Go.wp_at_succ

/-- A ward's cells in the kernel. -/
def kwCells (x : StV × Value) : List Value := stCells x.1 ++ [x.2]

/-- A kernel lies in block X, its memory in block M: what is told of it. -/
structure KerAt (w : World) (X M n : Nat) (mem : List Int) (ck : Int) (ks : List (StV × Value)) (vK : Value) : Prop where
  hx : ∃ row : Array Value, w.heap[X]? = some (.cells row 101 (0, 0)) ∧ row[0]? = some (.slice (some ⟨M, 0, none⟩) n n) ∧ row[1]? = some (.int .i64 ck) ∧ row[4]? = some vK
  hm : w.heap[M]? = some (.cells (wordCells mem).toArray 33 (0, 0))
  hk : ∃ gK cK cur, vK = .slice (some ⟨gK, 0, none⟩) ks.length cK ∧ w.heap[gK]? = some (.cells cur 94 (0, 0)) ∧ ∀ k y, ks[k]? = some y → ∀ c v, (kwCells y)[c]? = some v → cur[k * 15 + c]? = some v
  hn : mem.length = n
  h0 : 64 ≤ n
  h1 : n ≤ 1024
  hw : 16 + 16 * ks.length ≤ n
  ok : ∀ x ∈ ks, x.1.Ok
  mb : ∀ v ∈ mem, 0 ≤ v ∧ v < 4294967296

theorem KerAt.fr {w w' : World} {X M n : Nat} {mem : List Int} {ck : Int} {ks : List (StV × Value)} {vK : Value} (h : KerAt w X M n mem ck ks vK) (hf : Fr (fun _ => False) w w') : KerAt w' X M n mem ck ks vK := by
  obtain ⟨row, hr, h0, h1, h2⟩ := h.hx
  obtain ⟨gK, cK, cur, e, hc, hh⟩ := h.hk
  exact ⟨⟨row, hf.get hr id, h0, h1, h2⟩, hf.get h.hm id, ⟨gK, cK, cur, e, hf.get hc id, hh⟩, h.hn, h.h0, h.h1, h.hw, h.ok, h.mb⟩
theorem KerAt.c0 {w : World} {X M n : Nat} {mem : List Int} {ck : Int} {ks : List (StV × Value)} {vK : Value} (h : KerAt w X M n mem ck ks vK) : w.cell? ⟨X, 0, none⟩ = some (.slice (some ⟨M, 0, none⟩) n n) := by
  obtain ⟨row, hr, h0, h1, h2⟩ := h.hx
  exact (row_cell hr 0).trans h0
theorem KerAt.c1 {w : World} {X M n : Nat} {mem : List Int} {ck : Int} {ks : List (StV × Value)} {vK : Value} (h : KerAt w X M n mem ck ks vK) : w.cell? ⟨X, 1, none⟩ = some (.int .i64 ck) := by
  obtain ⟨row, hr, h0, h1, h2⟩ := h.hx
  exact (row_cell hr 1).trans h1
theorem KerAt.c2 {w : World} {X M n : Nat} {mem : List Int} {ck : Int} {ks : List (StV × Value)} {vK : Value} (h : KerAt w X M n mem ck ks vK) : w.cell? ⟨X, 4, none⟩ = some vK := by
  obtain ⟨row, hr, h0, h1, h2⟩ := h.hx
  exact (row_cell hr _).trans h2

set_option maxRecDepth 100000 in
set_option maxHeartbeats 1000000 in
theorem word_any (w : World) (X M n : Nat) (mem : List Int) (ck : Int) (ks : List (StV × Value)) (vK : Value) (i : Int) (h : KerAt w X M n mem ck ks vK) :
    Calls Tryz.prog 29 #[.pointer (some ⟨X, 0, none⟩), .int .i64 i] w fun e w' =>
      e = .returned (.tuple #[.int .u32 (if 0 ≤ i ∧ i < n then mem.getD i.toNat 0 else 0), .int .i64 (if 0 ≤ i ∧ i < n then 0 else 6)]) ∧ w' = w := by
  have c0 := h.c0
  have hn := h.h1
  by_cases h1 : i < 0
  · have HE : Hid ((0 ≤ i ∧ i < (n : Int)) = False) := by simp [Hid]; omega
    have HH := hid h
    clear h
    go_enter Tryz.func29, Tryz.ntmps29
    go_wp2_with fail
    go_ret2
    exact ⟨rfl, rfl⟩
  · by_cases h2 : (n : Int) ≤ i
    · have HE : Hid ((0 ≤ i ∧ i < (n : Int)) = False) := by simp [Hid]; omega
      have HH := hid h
      clear h
      go_enter Tryz.func29, Tryz.ntmps29
      go_wp2_with fail
      go_ret2
      exact ⟨rfl, rfl⟩
    · obtain ⟨j, rfl⟩ := Int.eq_ofNat_of_zero_le (show 0 ≤ i by omega)
      have hj : j < mem.length := by rw [h.hn]; omega
      have cj := mem_cell h.hm j hj
      have HE : Hid ((0 ≤ (j : Int) ∧ (j : Int) < (n : Int)) = True) := by simp [Hid]; omega
      have hjn : (j : Int) < (n : Int) := by omega
      have HG : Hid (mem.getD (j : Int).toNat 0 = mem[j]) := by simp [Hid, hj]
      clear h
      go_enter Tryz.func29, Tryz.ntmps29
      go_wp2_with fail
      go_ret2
      refine ⟨?_, rfl⟩
      first | rfl | (rw [HG.out]; rfl) | (simp [hj])

set_option maxRecDepth 100000 in
set_option maxHeartbeats 1000000 in
theorem clock_any (w : World) (X M n : Nat) (mem : List Int) (ck : Int) (ks : List (StV × Value)) (vK : Value) (h : KerAt w X M n mem ck ks vK) :
    Calls Tryz.prog 60 #[.pointer (some ⟨X, 0, none⟩)] w fun e w' => e = .returned (.int .i64 ck) ∧ w' = w := by
  have c0 := h.c1
  clear h
  go_enter Tryz.func60, Tryz.ntmps60
  go_wp2_with fail
  go_ret
  exact ⟨rfl, rfl⟩

set_option maxRecDepth 100000 in
set_option maxHeartbeats 1000000 in
theorem khas_any (w : World) (X M n : Nat) (mem : List Int) (ck : Int) (ks : List (StV × Value)) (vK : Value) (k : Int) (h : KerAt w X M n mem ck ks vK) :
    Calls Tryz.prog 45 #[.pointer (some ⟨X, 0, none⟩), .int .i64 k] w fun e w' => e = .returned (.bool (hasB ks.length k)) ∧ w' = w := by
  have c2 := h.c2
  obtain ⟨gK, cK, cur, rfl, -, -⟩ := h.hk
  clear h
  unfold hasB
  by_cases h1 : 0 ≤ k
  · go_enter Tryz.func45, Tryz.ntmps45
    go_wp2
    all_goals go_ret
    all_goals exact ⟨ret_bool (by simp [h1]), rfl⟩
  · go_enter Tryz.func45, Tryz.ntmps45
    go_wp2
    all_goals go_ret
    all_goals exact ⟨ret_bool (by simp; omega), rfl⟩

set_option maxRecDepth 100000 in
set_option maxHeartbeats 1000000 in
theorem inTurn_any (w : World) (X M n : Nat) (mem : List Int) (ck : Int) (ks : List (StV × Value)) (vK : Value) (k : Nat) (h : KerAt w X M n mem ck ks vK) (hk : k ≤ 1000) :
    Calls Tryz.prog 65 #[.pointer (some ⟨X, 0, none⟩), .int .i64 k] w fun e w' => e = .returned (.bool (mem.getD 0 0 == (k : Int))) ∧ w' = w := by
  have c0 := h.c0
  have h64 := h.h0
  have hl : 0 < mem.length := by rw [h.hn]; omega
  have c1 := mem_cell h.hm 0 hl
  have HG : Hid (mem.getD 0 0 = mem[0]) := by simp [Hid, hl]
  have hn0 : (0 : Int) < (n : Int) := by omega
  clear h
  go_enter Tryz.func65, Tryz.ntmps65
  go_wp2_with fail
  go_ret
  exact ⟨ret_bool (by rw [HG.out]), rfl⟩

/-- What View tells of ward k. -/
def viewSt (mem : List Int) (ks : List (StV × Value)) (k : Nat) : StV := if mem.getD 0 0 == (k : Int) then (ks.getD k (⟨[], 0, 0, 0, 0, false⟩, .slice none 0 0)).1 else loadSt mem (16 + 16 * k)

def zeroSt : StV := ⟨[0, 0, 0, 0, 0, 0, 0, 0], 0, 0, 0, 0, false⟩

set_option maxRecDepth 100000 in
set_option maxHeartbeats 2000000 in
theorem report_any (w : World) (X M n : Nat) (mem : List Int) (ck : Int) (ks : List (StV × Value)) (vK : Value) (k : Nat) (h : KerAt w X M n mem ck ks vK) (hk : k < ks.length) :
    Calls Tryz.prog 47 #[.pointer (some ⟨X, 0, none⟩), .int .i64 k] w fun e w' => e = .returned (.agg (stCells (viewSt mem ks k)).toArray) ∧ Fr (fun _ => False) w w' := by
  have hh1 := h.h1
  have hhw := h.hw
  have hk1000 : k ≤ 1000 := by omega
  have hM : M < w.heap.size := lt_of_get h.hm
  have hX : X < w.heap.size := h.hx.elim fun _ h => lt_of_get h.1
  obtain ⟨gK, cK, cur, rfl, hcur, hcv⟩ := h.hk
  have HCU := hid hcur
  have HCV := hid hcv
  clear hcur hcv
  have HH := hid h
  clear h
  go_enter Tryz.func47, Tryz.ntmps47
  go_wp2_with fail
  refine (inTurn_any _ X M n mem ck ks _ k (HH.out.fr (((Fr.refl _ w).alloc _).alloc _)) hk1000).mono ?_
  rintro e w1 ⟨rfl, rfl⟩
  cases ht : (mem.getD 0 0 == (k : Int))
  · have HV : Hid (viewSt mem ks k = loadSt mem (16 + 16 * k)) := by simp only [Hid, viewSt, ht]; rfl
    have HT := hid ht
    clear ht
    go_wp2_with fail
    refine (area_any X M n k _ ((HH.out.fr (((Fr.refl _ w).alloc _).alloc _)).c0) (by omega) hh1).mono ?_
    rintro e w1 ⟨rfl, rfl⟩
    go_wp2_with fail
    refine (load_any (w.heap.size + 1) M (16 + 16 * k) (n - (16 + 16 * k)) 104 zeroSt mem _ rfl (by omega) (by rw [heap_new2]; rfl) (get_alloc (get_alloc HH.out.hm _) _) HH.out.mb (by rw [HH.out.hn]; omega) (by rw [HH.out.hn]; exact hh1) (by omega)).mono ?_
    rintro e w2 ⟨rfl, hb2, hf2⟩
    have hr8 := loadSt_regs mem (16 + 16 * k) (by rw [HH.out.hn]; omega)
    obtain ⟨r0, r1, r2, r3, r4, r5, r6, r7, hr⟩ := st13 _ hr8
    have p2 := hf2.get1 (show _ from heap_alloc2_old w _ _) (by omega)
    have HF2 : Hid (Fr (fun _ => False) w w2) := (((Fr.refl _ w).alloc _).alloc _).step hf2 (fun i hi => .inr (by omega))
    generalize loadSt mem (16 + 16 * k) = s at *
    have hsc : stCells s = [.int .u32 r0, .int .u32 r1, .int .u32 r2, .int .u32 r3, .int .u32 r4, .int .u32 r5, .int .u32 r6, .int .u32 r7, .int .u32 s.place, .int .i64 s.status, .int .i64 s.cause, .int .i64 s.busy, .bool s.y] := by simp [stCells, hr]
    rw [hsc] at hb2
    have HSC := hid hsc
    have c2 := row_cell hb2
    have d2 := row_cell p2
    have f2 := row_frozen p2
    clear hb2 hf2 hsc hr hr8
    go_wp2_with fail
    refine bodyPost_ret (v := .agg #[.int .u32 r0, .int .u32 r1, .int .u32 r2, .int .u32 r3, .int .u32 r4, .int .u32 r5, .int .u32 r6, .int .u32 r7, .int .u32 s.place, .int .i64 s.status, .int .i64 s.cause, .int .i64 s.busy, .bool s.y]) ?_ rfl ⟨by rw [HV.out, HSC.out], ?_⟩
    · simp [results, Tryz.results47, go_sem, d2]
    · iterate 13 (refine Fr.setCell ?_ (.inr (Nat.le_refl _)) _)
      exact HF2.out
  · have HV : Hid (viewSt mem ks k = ks[k].1) := by
      simp only [Hid, viewSt, ht]
      simp [hk]
    have HT := hid ht
    have hok := HH.out.ok ks[k] (List.getElem_mem hk)
    obtain ⟨r0, r1, r2, r3, r4, r5, r6, r7, hr⟩ := st13 _ hok.1
    have hcell : ∀ c, c < 14 → ((w.alloc (.cells #[.int .u32 0, .int .u32 0, .int .u32 0, .int .u32 0, .int .u32 0, .int .u32 0, .int .u32 0, .int .u32 0, .int .u32 0, .int .i64 0, .int .i64 0, .int .i64 0, .bool false] 104)).alloc (.cells #[.int .u32 0, .int .u32 0, .int .u32 0, .int .u32 0, .int .u32 0, .int .u32 0, .int .u32 0, .int .u32 0, .int .u32 0, .int .i64 0, .int .i64 0, .int .i64 0, .bool false] 104)).cell? ⟨gK, k * 15 + c, none⟩ = (kwCells ks[k])[c]? := by
      intro c hc
      have h14 : (kwCells ks[k]).length = 14 := by simp [kwCells, stCells, hok.1]
      obtain ⟨v, hv⟩ : ∃ v, (kwCells ks[k])[c]? = some v := ⟨(kwCells ks[k])[c]'(by omega), List.getElem?_eq_getElem _⟩
      rw [hv, row_cell (get_alloc (get_alloc HCU.out _) _)]
      exact HCV.out k _ (List.getElem?_eq_getElem hk) c v hv
    have cX2 : ((w.alloc (.cells #[.int .u32 0, .int .u32 0, .int .u32 0, .int .u32 0, .int .u32 0, .int .u32 0, .int .u32 0, .int .u32 0, .int .u32 0, .int .i64 0, .int .i64 0, .int .i64 0, .bool false] 104)).alloc (.cells #[.int .u32 0, .int .u32 0, .int .u32 0, .int .u32 0, .int .u32 0, .int .u32 0, .int .u32 0, .int .u32 0, .int .u32 0, .int .i64 0, .int .i64 0, .int .i64 0, .bool false] 104)).cell? ⟨X, 4, none⟩ = some (.slice (some ⟨gK, 0, none⟩) ks.length cK) := (HH.out.fr (((Fr.refl _ w).alloc _).alloc _)).c2
    have HF : Hid (Fr (fun _ => False) w ((w.alloc (.cells #[.int .u32 0, .int .u32 0, .int .u32 0, .int .u32 0, .int .u32 0, .int .u32 0, .int .u32 0, .int .u32 0, .int .u32 0, .int .i64 0, .int .i64 0, .int .i64 0, .bool false] 104)).alloc (.cells #[.int .u32 0, .int .u32 0, .int .u32 0, .int .u32 0, .int .u32 0, .int .u32 0, .int .u32 0, .int .u32 0, .int .u32 0, .int .i64 0, .int .i64 0, .int .i64 0, .bool false] 104))) := ((Fr.refl _ w).alloc _).alloc _
    have p2 := heap_alloc2_old w (.cells #[.int .u32 0, .int .u32 0, .int .u32 0, .int .u32 0, .int .u32 0, .int .u32 0, .int .u32 0, .int .u32 0, .int .u32 0, .int .i64 0, .int .i64 0, .int .i64 0, .bool false] 104) (.cells #[.int .u32 0, .int .u32 0, .int .u32 0, .int .u32 0, .int .u32 0, .int .u32 0, .int .u32 0, .int .u32 0, .int .u32 0, .int .i64 0, .int .i64 0, .int .i64 0, .bool false] 104)
    have q2 := heap_new2 w (.cells #[.int .u32 0, .int .u32 0, .int .u32 0, .int .u32 0, .int .u32 0, .int .u32 0, .int .u32 0, .int .u32 0, .int .u32 0, .int .i64 0, .int .i64 0, .int .i64 0, .bool false] 104) (.cells #[.int .u32 0, .int .u32 0, .int .u32 0, .int .u32 0, .int .u32 0, .int .u32 0, .int .u32 0, .int .u32 0, .int .u32 0, .int .i64 0, .int .i64 0, .int .i64 0, .bool false] 104)
    generalize (w.alloc (.cells #[.int .u32 0, .int .u32 0, .int .u32 0, .int .u32 0, .int .u32 0, .int .u32 0, .int .u32 0, .int .u32 0, .int .u32 0, .int .i64 0, .int .i64 0, .int .i64 0, .bool false] 104)).alloc (.cells #[.int .u32 0, .int .u32 0, .int .u32 0, .int .u32 0, .int .u32 0, .int .u32 0, .int .u32 0, .int .u32 0, .int .u32 0, .int .i64 0, .int .i64 0, .int .i64 0, .bool false] 104) = wa at *
    generalize hs : ks[k] = sk at *
    have hsc : kwCells sk = [.int .u32 r0, .int .u32 r1, .int .u32 r2, .int .u32 r3, .int .u32 r4, .int .u32 r5, .int .u32 r6, .int .u32 r7, .int .u32 sk.1.place, .int .i64 sk.1.status, .int .i64 sk.1.cause, .int .i64 sk.1.busy, .bool sk.1.y, sk.2] := by simp [kwCells, stCells, hr]
    have HSC : Hid (stCells sk.1 = [.int .u32 r0, .int .u32 r1, .int .u32 r2, .int .u32 r3, .int .u32 r4, .int .u32 r5, .int .u32 r6, .int .u32 r7, .int .u32 sk.1.place, .int .i64 sk.1.status, .int .i64 sk.1.cause, .int .i64 sk.1.busy, .bool sk.1.y]) := by simp [Hid, stCells, hr]
    rw [hsc] at hcell
    have k0 := hcell 0 (by omega)
    have k1 := hcell 1 (by omega)
    have k2 := hcell 2 (by omega)
    have k3 := hcell 3 (by omega)
    have k4 := hcell 4 (by omega)
    have k5 := hcell 5 (by omega)
    have k6 := hcell 6 (by omega)
    have k7 := hcell 7 (by omega)
    have k8 := hcell 8 (by omega)
    have k9 := hcell 9 (by omega)
    have k10 := hcell 10 (by omega)
    have k11 := hcell 11 (by omega)
    have k12 := hcell 12 (by omega)
    simp only [List.getElem?_cons_succ, List.getElem?_cons_zero, Nat.add_zero] at k0 k1 k2 k3 k4 k5 k6 k7 k8 k9 k10 k11 k12
    have c2 := row_cell q2
    have g2 := row_frozen q2
    have d2 := row_cell p2
    have f2 := row_frozen p2
    have hki : (k : Int) < (ks.length : Int) := by omega
    clear hcell hsc hr hok hs ht p2 q2
    go_wp2_with fail
    refine bodyPost_ret (v := .agg #[.int .u32 r0, .int .u32 r1, .int .u32 r2, .int .u32 r3, .int .u32 r4, .int .u32 r5, .int .u32 r6, .int .u32 r7, .int .u32 sk.1.place, .int .i64 sk.1.status, .int .i64 sk.1.cause, .int .i64 sk.1.busy, .bool sk.1.y]) ?_ rfl ⟨by rw [HV.out, HSC.out], ?_⟩
    · simp [results, Tryz.results47, go_sem, d2]
    · iterate 13 (refine Fr.setCell ?_ (.inr (Nat.le_refl _)) _)
      iterate 13 (refine Fr.setCell ?_ (.inr (Nat.le_succ _)) _)
      exact HF.out

end Go.Proofs.YthmcheoehcmglaaGreat
