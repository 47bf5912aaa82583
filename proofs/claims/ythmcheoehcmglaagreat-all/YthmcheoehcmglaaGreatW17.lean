/- View; Check and Boot. -/
import Derived.Test.YthmcheoehcmglaaGreatW15
namespace Go.Proofs.YthmcheoehcmglaaGreat
open Go.RowKit
set_option linter.unusedVariables false
attribute [local go_sem ↓] Go.wp_at_zero Go.wp_at_succ

set_option maxRecDepth 100000 in
set_option maxHeartbeats 2000000 in
theorem stView_any (w : World) (b : Nat) (T : TypeId) (s : StV) (hs : s.regs.length = 8) (hb : w.heap[b]? = some (.cells (stCells s).toArray T (0, 0))) :
    Calls Tryz.prog 48 #[.pointer (some ⟨b, 0, none⟩)] w fun e w' => e = .returned (.agg (stCells s).toArray) ∧ Fr (fun _ => False) w w' := by
  obtain ⟨r0, r1, r2, r3, r4, r5, r6, r7, hr⟩ := st13 _ hs
  have hsc : stCells s = [.int .u32 r0, .int .u32 r1, .int .u32 r2, .int .u32 r3, .int .u32 r4, .int .u32 r5, .int .u32 r6, .int .u32 r7, .int .u32 s.place, .int .i64 s.status, .int .i64 s.cause, .int .i64 s.busy, .bool s.y] := by simp [stCells, hr]
  have hbl : b < w.heap.size := lt_of_get hb
  rw [hsc] at hb
  rw [hsc]
  have hk := row_cell hb
  have k0 := hk 0
  have k1 := hk 1
  have k2 := hk 2
  have k3 := hk 3
  have k4 := hk 4
  have k5 := hk 5
  have k6 := hk 6
  have k7 := hk 7
  have k8 := hk 8
  have k9 := hk 9
  have k10 := hk 10
  have k11 := hk 11
  have k12 := hk 12
  simp only [List.getElem?_toArray, List.getElem?_cons_succ, List.getElem?_cons_zero] at k0 k1 k2 k3 k4 k5 k6 k7 k8 k9 k10 k11 k12
  clear hk hb hsc hr hs
  go_enter Tryz.func48, Tryz.ntmps48
  go_wp2_with fail
  have hne := World.new_ne w ⟨b, 0, none⟩ k0
  go_region_held3 (fun w' => w'.cell? ⟨b, 0, none⟩ = some (.int .u32 r0) ∧ w'.cell? ⟨b, 1, none⟩ = some (.int .u32 r1) ∧ w'.cell? ⟨b, 2, none⟩ = some (.int .u32 r2) ∧ w'.cell? ⟨b, 3, none⟩ = some (.int .u32 r3) ∧ w'.cell? ⟨b, 4, none⟩ = some (.int .u32 r4) ∧ w'.cell? ⟨b, 5, none⟩ = some (.int .u32 r5) ∧ w'.cell? ⟨b, 6, none⟩ = some (.int .u32 r6) ∧ w'.cell? ⟨b, 7, none⟩ = some (.int .u32 r7) ∧ w'.cell? ⟨b, 8, none⟩ = some (.int .u32 s.place) ∧ w'.cell? ⟨b, 9, none⟩ = some (.int .i64 s.status) ∧ w'.cell? ⟨b, 10, none⟩ = some (.int .i64 s.cause) ∧ w'.cell? ⟨b, 11, none⟩ = some (.int .i64 s.busy) ∧ w'.cell? ⟨b, 12, none⟩ = some (.bool s.y))
    (go_keep) (fail)
  go_wp2_with fail
  refine bodyPost_ret (v := .agg #[.int .u32 r0, .int .u32 r1, .int .u32 r2, .int .u32 r3, .int .u32 r4, .int .u32 r5, .int .u32 r6, .int .u32 r7, .int .u32 s.place, .int .i64 s.status, .int .i64 s.cause, .int .i64 s.busy, .bool s.y]) ?_ rfl ⟨rfl, ((Fr.refl _ w).alloc _).drew⟩
  simp [results, Tryz.results48, go_sem]

def noSt : StV := ⟨[0, 0, 0, 0, 0, 0, 0, 0], 0, 0, 0, 0, false⟩
theorem viewSt_ok (w : World) (X M n : Nat) (mem : List Int) (ck : Int) (ks : List (StV × Value)) (vK : Value) (k : Nat) (h : KerAt w X M n mem ck ks vK) (hk : k < ks.length) : (viewSt mem ks k).regs.length = 8 := by
  unfold viewSt
  split
  · simp only [List.getD_eq_getElem?_getD, List.getElem?_eq_getElem hk, Option.getD_some]
    exact (h.ok ks[k] (List.getElem_mem hk)).1
  · exact loadSt_regs _ _ (by have := h.hw; rw [h.hn]; omega)

set_option maxRecDepth 100000 in
set_option maxHeartbeats 2000000 in
theorem kview_no (w : World) (X M n : Nat) (mem : List Int) (ck : Int) (ks : List (StV × Value)) (vK : Value) (k : Int) (h : KerAt w X M n mem ck ks vK) (hk : hasB ks.length k = false) :
    Calls Tryz.prog 23 #[.pointer (some ⟨X, 0, none⟩), .int .i64 k] w fun e w' => e = .returned (.tuple #[.agg (stCells noSt).toArray, .int .i64 4]) ∧ Fr (fun _ => False) w w' := by
  have HH := hid h
  have HK := hid hk
  clear h hk
  go_enter Tryz.func23, Tryz.ntmps23
  go_wp2_with fail
  refine (khas_any _ X M n mem ck ks vK k (HH.out.fr ((Fr.refl _ w).alloc _))).mono ?_
  rintro e w1 ⟨rfl, rfl⟩
  rw [HK.out]
  go_wp2_with fail
  refine bodyPost_ret (v := .tuple #[.agg (stCells noSt).toArray, .int .i64 4]) ?_ rfl ⟨rfl, (Fr.refl _ w).alloc _⟩
  simp [results, Tryz.results23, go_sem, stCells, noSt]

set_option maxRecDepth 100000 in
set_option maxHeartbeats 2000000 in
theorem kview_yes (w : World) (X M n : Nat) (mem : List Int) (ck : Int) (ks : List (StV × Value)) (vK : Value) (k : Nat) (h : KerAt w X M n mem ck ks vK) (hk : k < ks.length) :
    Calls Tryz.prog 23 #[.pointer (some ⟨X, 0, none⟩), .int .i64 k] w fun e w' => e = .returned (.tuple #[.agg (stCells (viewSt mem ks k)).toArray, .int .i64 0]) ∧ Fr (fun _ => False) w w' := by
  have hb : hasB ks.length (k : Int) = true := by simp [hasB]; omega
  have h8 := viewSt_ok w X M n mem ck ks vK k h hk
  obtain ⟨r0, r1, r2, r3, r4, r5, r6, r7, hr⟩ := st13 _ h8
  obtain ⟨s, hsv⟩ : ∃ s, viewSt mem ks k = s := ⟨_, rfl⟩
  rw [hsv]
  rw [hsv] at hr h8
  have HSV := hid hsv
  have HH := hid h
  have HB := hid hb
  have H8 := hid h8
  have HSC : Hid (stCells s = [.int .u32 r0, .int .u32 r1, .int .u32 r2, .int .u32 r3, .int .u32 r4, .int .u32 r5, .int .u32 r6, .int .u32 r7, .int .u32 s.place, .int .i64 s.status, .int .i64 s.cause, .int .i64 s.busy, .bool s.y]) := by simp [Hid, stCells, hr]
  clear h hb h8 hsv hr
  go_enter Tryz.func23, Tryz.ntmps23
  go_wp2_with fail
  refine (khas_any _ X M n mem ck ks vK k (HH.out.fr ((Fr.refl _ w).alloc _))).mono ?_
  rintro e w1 ⟨rfl, rfl⟩
  rw [HB.out]
  go_wp2_with fail
  refine (report_any _ X M n mem ck ks vK k (HH.out.fr ((Fr.refl _ w).alloc _)) hk).mono ?_
  rw [HSV.out, HSC.out]
  rintro e w2 ⟨rfl, hf2⟩
  have p2 := hf2.get (heap_new w _) id
  have HF2 := hid (((Fr.refl (fun _ => False) w).alloc _).step hf2 (fun _ h => .inl h))
  have HP2 := hid p2
  clear hf2 p2
  go_wp2_with fail
  refine (stView_any _ w2.heap.size 104 s H8.out (by rw [HSC.out]; exact heap_new w2 _)).mono ?_
  rw [HSC.out]
  rintro e w3 ⟨rfl, hf3⟩
  have p3 := hf3.get (get_alloc HP2.out _) id
  have HF3 := hid ((HF2.out.alloc _).step hf3 (fun _ h => .inl h))
  have d3 := row_cell p3
  have f3 := row_frozen p3
  clear hf3 p3
  go_wp2_with fail
  refine bodyPost_ret (v := .tuple #[.agg #[.int .u32 r0, .int .u32 r1, .int .u32 r2, .int .u32 r3, .int .u32 r4, .int .u32 r5, .int .u32 r6, .int .u32 r7, .int .u32 s.place, .int .i64 s.status, .int .i64 s.cause, .int .i64 s.busy, .bool s.y], .int .i64 0]) ?_ rfl ⟨by rw [HSC.out], ?_⟩
  · simp [results, Tryz.results23, go_sem, d3]
  · iterate 13 (refine Fr.setCell ?_ (.inr (Nat.le_refl _)) _)
    exact HF3.out

/-- A kernel that was just booted. -/
def booted0 (m : Img) (xs : List (WardV × Value × Value)) (w : World) (X : Nat) : Prop := ∃ M vK, KerAt w X M m.mem.toNat (memN m m.ws.length) 0 (kws xs) vK

set_option maxRecDepth 100000 in
set_option maxHeartbeats 2000000 in
theorem boot_no (s : ByteArray) (hs : s.size ≤ maxLen) (w : World) (m : Img) (ok : Bool) (E : Hid (rimg s.data.toList = (m, ok))) (hm : m.Ok) (he : mkErr m ok ≠ 0) :
    Calls Tryz.prog 36 #[.string s] w fun e w' => e = .returned (.tuple #[.pointer none, .int .i64 (mkErr m ok)]) ∧ Fr (fun _ => False) w w' := by
  have hne : (mkErr m ok != 0) = true := by simp [he]
  clear he
  go_enter Tryz.func36, Tryz.ntmps36
  go_wp2_with fail
  refine (make_core s hs w m ok E hm).mono ?_
  rintro e w1 ⟨vW, vI, vO, m', rfl, hf, hv, -⟩
  obtain ⟨a1, q1, rfl⟩ := hv.ws.shape
  obtain ⟨a2, q2, rfl⟩ := owns_shape hv.wi
  obtain ⟨a3, q3, rfl⟩ := owns_shape hv.ow
  have HF := hid hf
  clear hv hf hm
  go_wp2_with fail
  go_ret2
  exact ⟨rfl, HF.out.alloc _⟩

end Go.Proofs.YthmcheoehcmglaaGreat
