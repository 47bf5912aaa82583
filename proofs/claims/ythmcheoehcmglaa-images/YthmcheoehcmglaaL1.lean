/- The statements' own functions: num, state. -/
import Derived.Test.YthmcheoehcmglaaR4
import Derived.Test.YthmcheoehcmglaaW9
import Derived.Test.YthmcheoehcmglaaW17
namespace Go.Proofs.Ythmcheoehcmglaa
open Go.RowKit
set_option linter.unusedVariables false
attribute [local go_sem ↓] Go.wp_at_zero Go.wp_at_succ

set_option maxRecDepth 100000 in
set_option maxHeartbeats 1000000 in
theorem num_any (e : Int) (w : World) : Calls Try.prog 9 #[.int .i64 e] w fun r w' => r = .returned (.int .i64 e) ∧ w' = w := by
  go_enter Try.func9, Try.ntmps9
  go_wp2
  go_ret
  exact ⟨rfl, rfl⟩

def regRow (s : StV) (j : Nat) : List Value := ((s.regs.map (Value.int .i64)).take j ++ List.replicate (8 - j) (.int .i64 0)) ++ [.int .i64 s.place, .int .i64 s.status, .int .i64 s.cause, .int .i64 s.busy, .bool s.y]
theorem regRow_full (s : StV) (h : s.regs.length = 8) : regRow s 8 = stI s := by
  unfold regRow stI
  rw [List.take_of_length_le (by simp [h])]
  simp
theorem regRow_set (s : StV) (h : s.regs.length = 8) (j : Nat) (hj : j < 8) (r : Int) (hr : s.regs[j]? = some r) : (regRow s j).set j (.int .i64 r) = regRow s (j + 1) := by
  unfold regRow
  have hl : ((s.regs.map (Value.int .i64)).take j).length = j := by simp [h]; omega
  rw [List.set_append_left _ _ (by simp [hl]; omega), List.set_append_right _ _ (by omega), hl, Nat.sub_self]
  congr 1
  rw [show 8 - j = (8 - (j + 1)) + 1 by omega, List.replicate_succ, List.set_cons_zero, List.take_add_one, List.getElem?_map, hr]
  simp

structure StW (s : StV) : Prop where
  l : s.regs.length = 8
  r : ∀ r ∈ s.regs, 0 ≤ r ∧ r < 4294967296
  p0 : 0 ≤ s.place
  p1 : s.place < 4294967296

set_option maxRecDepth 100000 in
set_option maxHeartbeats 4000000 in
theorem state_any (w : World) (s : StV) (hs : StW s) :
    Calls Try.prog 49 #[.agg (stCells s).toArray] w fun e w' => e = .returned (.agg (stI s).toArray) ∧ Fr (fun _ => False) w w' := by
  obtain ⟨r0, r1, r2, r3, r4, r5, r6, r7, hr⟩ := st13 _ hs.l
  have HS := hid hs
  have hp0 := hs.p0
  have hp1 := hs.p1
  have hv : (stCells s).toArray = #[.int .u32 r0, .int .u32 r1, .int .u32 r2, .int .u32 r3, .int .u32 r4, .int .u32 r5, .int .u32 r6, .int .u32 r7, .int .u32 s.place, .int .i64 s.status, .int .i64 s.cause, .int .i64 s.busy, .bool s.y] := by unfold stCells; rw [hr]; rfl
  have HV := hid hv
  have HR0 : Hid (regRow s 0 = [.int .i64 0, .int .i64 0, .int .i64 0, .int .i64 0, .int .i64 0, .int .i64 0, .int .i64 0, .int .i64 0, .int .i64 s.place, .int .i64 s.status, .int .i64 s.cause, .int .i64 s.busy, .bool s.y]) := rfl
  have HRR := hid hr
  rw [hv]
  clear hv hs hr
  go_enter Try.func49, Try.ntmps49
  go_wp2_with fail
  have HF0 : Hid (Fr (fun _ => False) w (((w.alloc (.cells #[.int .u32 r0, .int .u32 r1, .int .u32 r2, .int .u32 r3, .int .u32 r4, .int .u32 r5, .int .u32 r6, .int .u32 r7, .int .u32 s.place, .int .i64 s.status, .int .i64 s.cause, .int .i64 s.busy, .bool s.y] 51)).alloc (.cells (stI noSt').toArray 74)).alloc (.cells (regRow s 0).toArray 74))) := (((Fr.refl _ w).alloc _).alloc _).alloc _
  have HA : Hid ((((w.alloc (.cells #[.int .u32 r0, .int .u32 r1, .int .u32 r2, .int .u32 r3, .int .u32 r4, .int .u32 r5, .int .u32 r6, .int .u32 r7, .int .u32 s.place, .int .i64 s.status, .int .i64 s.cause, .int .i64 s.busy, .bool s.y] 51)).alloc (.cells (stI noSt').toArray 74)).alloc (.cells (regRow s 0).toArray 74)).heap[w.heap.size]? = some (.cells #[.int .u32 r0, .int .u32 r1, .int .u32 r2, .int .u32 r3, .int .u32 r4, .int .u32 r5, .int .u32 r6, .int .u32 r7, .int .u32 s.place, .int .i64 s.status, .int .i64 s.cause, .int .i64 s.busy, .bool s.y] 51 (0, 0))) := get_alloc (get_alloc (heap_alloc_new w _) _) _
  have HB : Hid ((((w.alloc (.cells #[.int .u32 r0, .int .u32 r1, .int .u32 r2, .int .u32 r3, .int .u32 r4, .int .u32 r5, .int .u32 r6, .int .u32 r7, .int .u32 s.place, .int .i64 s.status, .int .i64 s.cause, .int .i64 s.busy, .bool s.y] 51)).alloc (.cells (stI noSt').toArray 74)).alloc (.cells (regRow s 0).toArray 74)).heap[w.heap.size + 1]? = some (.cells (stI noSt').toArray 74 (0, 0))) := get_alloc (heap_new2 w _ _) _
  have HC : Hid ((((w.alloc (.cells #[.int .u32 r0, .int .u32 r1, .int .u32 r2, .int .u32 r3, .int .u32 r4, .int .u32 r5, .int .u32 r6, .int .u32 r7, .int .u32 s.place, .int .i64 s.status, .int .i64 s.cause, .int .i64 s.busy, .bool s.y] 51)).alloc (.cells (stI noSt').toArray 74)).alloc (.cells (regRow s 0).toArray 74)).heap[w.heap.size + 2]? = some (.cells (regRow s 0).toArray 74 (0, 0))) := by
    unfold Hid
    have := heap_new2 (w.alloc (.cells #[.int .u32 r0, .int .u32 r1, .int .u32 r2, .int .u32 r3, .int .u32 r4, .int .u32 r5, .int .u32 r6, .int .u32 r7, .int .u32 s.place, .int .i64 s.status, .int .i64 s.cause, .int .i64 s.busy, .bool s.y] 51)) (.cells (stI noSt').toArray 74) (.cells (regRow s 0).toArray 74)
    rw [size_alloc1'] at this
    exact this
  go_loopw [4] (fun i wr => ∃ j : Nat, j ≤ 8 ∧ i = .int .i64 j ∧ wr.heap[w.heap.size]? = some (.cells #[.int .u32 r0, .int .u32 r1, .int .u32 r2, .int .u32 r3, .int .u32 r4, .int .u32 r5, .int .u32 r6, .int .u32 r7, .int .u32 s.place, .int .i64 s.status, .int .i64 s.cause, .int .i64 s.busy, .bool s.y] 51 (0, 0)) ∧ wr.heap[w.heap.size + 1]? = some (.cells (stI noSt').toArray 74 (0, 0)) ∧ wr.heap[w.heap.size + 2]? = some (.cells (regRow s j).toArray 74 (0, 0)) ∧ Fr (fun _ => False) w wr) (fun i _ => 8 - (intOf i).toNat)
  case atStart => exact ⟨0, by omega, rfl, HA.out, HB.out, HC.out, HF0.out⟩
  case round =>
    obtain ⟨j, hj, rfl, ha, hb, hc, hf⟩ := hrel
    clear HF0 HA HB HC
    by_cases hlt : j < 8
    · have hlti : (j : Int) < 8 := by omega
      obtain ⟨r, hrj⟩ : ∃ r, s.regs[j]? = some r := ⟨_, List.getElem?_eq_getElem (by rw [HS.out.l]; exact hlt)⟩
      have hrb := HS.out.r r (List.mem_of_getElem? hrj)
      have cV : wr.cell? ⟨w.heap.size, j, none⟩ = some (.int .u32 r) := by
        rw [row_cell ha, ← HV.out]
        unfold stCells
        rw [List.getElem?_toArray, List.getElem?_append_left (by rw [List.length_map, HS.out.l]; exact hlt), List.getElem?_map, hrj]
        rfl
      have fT := row_frozen hc j
      have cT : wr.cell? ⟨w.heap.size + 2, j, none⟩ = some ((regRow s j).toArray[j]'(by unfold regRow; simp [HS.out.l]; omega)) := by rw [row_cell hc, Array.getElem?_eq_getElem]
      have HA := hid (set_other ha (p := ⟨w.heap.size + 2, j, none⟩) (by simp only; omega) (.int .i64 r))
      have HB := hid (set_other hb (p := ⟨w.heap.size + 2, j, none⟩) (by simp only; omega) (.int .i64 r))
      have HC : Hid ((wr.setCell ⟨w.heap.size + 2, j, none⟩ (.int .i64 r)).heap[w.heap.size + 2]? = some (.cells (regRow s (j + 1)).toArray 74 (0, 0))) := by
        unfold Hid
        rw [row_set hc, List.setIfInBounds_toArray, regRow_set s HS.out.l j hlt r hrj]
      have HF := hid (hf.setCell (p := ⟨w.heap.size + 2, j, none⟩) (.inr (by simp only; omega)) (.int .i64 r))
      clear ha hb hc hf hrj
      go_wp2_with fail
      go_roundw
      case rel => exact ⟨j + 1, by omega, by go_num, HA.out, HB.out, HC.out, HF.out⟩
      case measure => simp [intOf]; omega
    · obtain rfl : j = 8 := by omega
      rw [regRow_full s HS.out.l] at hc
      have HB := hid hb
      have HC := hid hc
      have HF := hid hf
      have HI : Hid (stI s = [.int .i64 r0, .int .i64 r1, .int .i64 r2, .int .i64 r3, .int .i64 r4, .int .i64 r5, .int .i64 r6, .int .i64 r7, .int .i64 s.place, .int .i64 s.status, .int .i64 s.cause, .int .i64 s.busy, .bool s.y]) := by unfold Hid stI; rw [HRR.out]; rfl
      have HSZ : Hid ((stI s).toArray.size = 13) := by unfold Hid; rw [HI.out]; rfl
      have HON : Hid ((stI s).toArray.all (·.oneCell') = true) := by unfold Hid; rw [HI.out]; simp only [List.all_toArray, List.all_cons, List.all_nil]; rfl
      clear ha hb hc hf
      go_wp2_with (first
        | (refine wpList_loadRow (hu := Try.underlying74) ?_ 74 (.tmp 3) ?_ (w.heap.size + 2) 74 (stI s).toArray ?_ HC.out ?_ ?_ ?_; rfl; rfl; rfl; rfl; (rw [HSZ.out]; kernel_rfl))
        | (refine wpList_storeRow ?_ 74 (.tmp 2) (.tmp 29) ?_ (w.heap.size + 1) 74 _ (stI s).toArray ?_ ?_ HB.out ?_ ?_ HON.out ?_; rfl; rfl; rfl; rfl; (rw [HSZ.out]; kernel_rfl); (rw [HSZ.out]; rfl); intro w3 g3 hf3; have HG3 := hid g3; have HF3 := hid hf3; clear g3 hf3))
      refine bodyPost_ret (v := .agg (stI s).toArray) ?_ rfl ⟨rfl, HF.out.step HF3.out (fun i hi => .inr (by omega))⟩
      have hi : (Try.prog.info? 74).map (·.size) = some (stI s).toArray.size := by rw [HSZ.out]; kernel_rfl
      simp [results, Try.results49, Act.put, asAddr, run_loadVar_row w3 (w.heap.size + 1) _ 74 (stI s).toArray (0, 0) _ HG3.out Try.underlying74 rfl hi]

end Go.Proofs.Ythmcheoehcmglaa
