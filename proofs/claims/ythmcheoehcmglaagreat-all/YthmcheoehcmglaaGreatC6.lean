/- The kernel's calls: receive. -/
import Derived.Test.YthmcheoehcmglaaGreatC5
namespace Go.Proofs.YthmcheoehcmglaaGreat
open Go.RowKit
set_option linter.unusedVariables false
attribute [local go_sem ↓] Go.wp_at_zero Go.wp_at_succ

def receiveM (x : KX) (k : Nat) (s : StV) (mem : List Int) : Int × StV × List Int :=
  match wireOf x s with
  | none => (5, s, mem)
  | some (f, t) => if t = k then (if mem.getD (cellOf x s) 0 = 0 then (0, set0 s 1, mem) else (0, set0 { s with regs := s.regs.set 2 (mem.getD (cellOf x s + 1) 0) } 0, mem.set (cellOf x s) 0)) else (5, s, mem)

set_option maxRecDepth 100000 in
set_option maxHeartbeats 4000000 in
theorem receive_any (x : KX) (ck : Int) (mem : List Int) (w : World) (hR : KerR x ck mem w) (k : Nat) (hk : k ≤ 4) (B : Nat) (hB : ¬ KS x B) (s : StV) (c a b n : Int) (o : Value) (h : WorkAt w B s c a b n o) (hs : StB s) :
    Calls Tryz.prog 172 #[.agg #[.pointer (some ⟨x.X, 0, none⟩), .int .i64 k], .pointer (some ⟨B, 0, none⟩)] w fun e w' => CallPost x ck B c a b n o (receiveM x k s mem) w e w' := by
  have h8 := hs.l
  obtain ⟨i1, hi1⟩ : ∃ r, s.regs[1]? = some r := ⟨_, List.getElem?_eq_getElem (by omega)⟩
  obtain ⟨i2, hi2⟩ : ∃ r, s.regs[2]? = some r := ⟨_, List.getElem?_eq_getElem (by omega)⟩
  have hb1 := hs.r i1 (List.mem_of_getElem? hi1)
  have hb2 := hs.r i2 (List.mem_of_getElem? hi2)
  have hg1 : s.regs.getD 1 0 = i1 := by rw [List.getD_eq_getElem?_getD, hi1]; rfl
  have hg2 : s.regs.getD 2 0 = i2 := by rw [List.getD_eq_getElem?_getD, hi2]; rfl
  obtain ⟨i, rfl⟩ := Int.eq_ofNat_of_zero_le hb1.1
  have HQ : Hid (receiveM x k s mem = match x.wires[i]? with
      | none => (5, s, mem)
      | some (f, t) => if t = k then (if mem.getD (cellAt x i) 0 = 0 then (0, set0 s 1, mem) else (0, set0 { s with regs := s.regs.set 2 (mem.getD (cellAt x i + 1) 0) } 0, mem.set (cellAt x i) 0)) else (5, s, mem)) := by
    unfold Hid receiveM wireOf cellOf
    rw [hg1, Int.toNat_natCast]
  generalize receiveM x k s mem = q at *
  have HF0 : Hid (Fr (fun _ => False) w (w.alloc (.cells #[.pointer (some ⟨x.X, 0, none⟩), .int .i64 k] 139))) := (Fr.refl _ w).alloc _
  have hb := heap_alloc_new w (.cells #[.pointer (some ⟨x.X, 0, none⟩), .int .i64 k] 139)
  have hA := hR.frF HF0.out
  have hW := h.fr HF0.out
  go_enter Tryz.func172, Tryz.ntmps172
  go_upto_region 1 with fail
  generalize w.alloc (.cells #[.pointer (some ⟨x.X, 0, none⟩), .int .i64 k] 139) = wa at *
  have t0 : wa.drew.cell? ⟨w.heap.size, 0, none⟩ = some (.pointer (some ⟨x.X, 0, none⟩)) := row_cell hb 0
  have r1 : wa.drew.cell? ⟨B, 1, none⟩ = some (.int .u32 i) := hW.reg 1 _ hi1
  have t0b : ∀ ob, (wa.alloc ob).cell? ⟨w.heap.size, 0, none⟩ = some (.pointer (some ⟨x.X, 0, none⟩)) := fun ob => row_cell (get_alloc hb ob) 0
  have r1b : ∀ ob, (wa.alloc ob).cell? ⟨B, 1, none⟩ = some (.int .u32 i) := fun ob => (hW.fr ((Fr.refl _ wa).alloc ob)).reg 1 _ hi1
  have HB := hid hb
  have HA := hid hA
  have HW := hid hW
  have HI2 := hid hi2
  have H0 := hid h
  have HR0 := hid hR
  have HBM := hid (KerR.ne h hR)
  have hTs : w.heap.size < wa.heap.size := lt_of_get hb
  clear hR h hb hA hW hi1 hg1 hg2 hi2
  cases hwi : x.wires[i]? with
  | none =>
    have HQ2 : Hid (q = (5, s, mem)) := by unfold Hid; rw [HQ.out, hwi]
    have hge : (x.wires.length : Int) ≤ (i : Int) := by have := List.getElem?_eq_none_iff.1 hwi; omega
    have HWR := hid (fun (w1 : World) (h1 : KerR x ck mem w1) => wire_no x ck mem w1 h1 i hge hb1.2)
    clear HQ hwi
    go_cut [5, 6] from 7 to 17 (fun u v wx => ∃ Wb, u = .pointer (some ⟨Wb, 0, none⟩) ∧ v = .bool false ∧ wx.heap[Wb]? = some (.cells #[.int .i64 0, .int .i64 0, .slice none 0 0] 233 (0, 0)) ∧ wx.heap[w.heap.size]? = some (.cells #[.pointer (some ⟨x.X, 0, none⟩), .int .i64 k] 139 (0, 0)) ∧ Fr (fun _ => False) w wx)
    case first =>
      go_region_law
        (first
          | (refine step_call Tryz.func180 (by kernel_rfl) (by kernel_rfl) (by rfl) (by rfl) [.pointer (some ⟨x.X, 0, none⟩), .int .u32 i] (by rfl) ((HWR.out _ ?_).mono ?_); exact HA.out.frF ((Fr.refl _ wa).drew); rintro e w2 ⟨rfl, hf2⟩; refine ⟨_, rfl, ?_⟩; have hT2 := hf2.get (show wa.drew.heap[w.heap.size]? = some _ from HB.out) id; have HFX := hid (HF0.out.drew.step hf2 (fun _ h => .inl h)); have HTX := hid hT2; have HGX := hid (three_set (heap_alloc_new w2 (.cells #[.int .i64 0, .int .i64 0, .slice none 0 0] 233)) (.int .i64 0) (.int .i64 0) (.slice none 0 0)))
          | (refine step_call Tryz.func180 (by kernel_rfl) (by kernel_rfl) (by rfl) (by rfl) [.pointer (some ⟨x.X, 0, none⟩), .int .u32 i] (by rfl) ((HWR.out _ ?_).mono ?_); exact HA.out.frF (((Fr.refl _ wa).alloc (.cells #[.int .i64 0, .int .i64 0, .slice none 0 0] 233)).drew); rintro e w2 ⟨rfl, hf2⟩; refine ⟨_, rfl, ?_⟩; have hT2 := hf2.get (show (wa.alloc (.cells #[.int .i64 0, .int .i64 0, .slice none 0 0] 233)).drew.heap[w.heap.size]? = some _ from get_alloc HB.out _) id; have hblk := hf2.get (show (wa.alloc (.cells #[.int .i64 0, .int .i64 0, .slice none 0 0] 233)).drew.heap[wa.heap.size]? = some _ from heap_alloc_new wa _) id; have z0 := row_cell hblk 0; have z1 := row_cell hblk 1; have z2 := row_cell hblk 2; have y0 := row_frozen hblk 0; have y1 := row_frozen hblk 1; have y2 := row_frozen hblk 2; simp only [List.getElem?_toArray, List.getElem?_cons_zero, List.getElem?_cons_succ] at z0 z1 z2; have HFX := hid ((HF0.out.alloc (.cells #[.int .i64 0, .int .i64 0, .slice none 0 0] 233)).drew.step hf2 (fun _ h => .inl h)); have HTX := hid hT2; have HGX := hid (three_set hblk (.int .i64 0) (.int .i64 0) (.slice none 0 0))))
      all_goals
        clear hf2 hT2 t0 r1 t0b r1b hb1 hb2
        try clear z0 z1 z2 y0 y1 y2
        go_wp2_with fail
        go_meet
        case rel =>
          first
            | (have hv2 := hblk; clear hv2; exact ⟨wa.heap.size, rfl, rfl, HGX.out, set_other (set_other (set_other HTX.out (p := ⟨wa.heap.size, 0, none⟩) (Nat.ne_of_lt hTs) _) (p := ⟨wa.heap.size, 1, none⟩) (Nat.ne_of_lt hTs) _) (p := ⟨wa.heap.size, 2, none⟩) (Nat.ne_of_lt hTs) _, ((HFX.out.setCell (p := ⟨wa.heap.size, 0, none⟩) (.inr (Nat.le_of_lt hTs)) _).setCell (p := ⟨wa.heap.size, 1, none⟩) (.inr (Nat.le_of_lt hTs)) _).setCell (p := ⟨wa.heap.size, 2, none⟩) (.inr (Nat.le_of_lt hTs)) _⟩)
            | exact ⟨w2.heap.size, rfl, rfl, heap_alloc_new w2 _, get_alloc HTX.out _, HFX.out.alloc _⟩
    case rest =>
      obtain ⟨Wb, rfl, rfl, hWb, hTb, hf⟩ := hcut
      have HF := hid hf
      clear hWb hTb hf t0 r1 t0b r1b
      go_wp2_with fail
      go_ret
      rw [HQ2.out]
      exact ⟨rfl, H0.out.fr HF.out, HR0.out.frF HF.out, HF.out.toS⟩
  | some p =>
    obtain ⟨f, t⟩ := p
    have HQ2 : Hid (q = if t = k then (if mem.getD (cellAt x i) 0 = 0 then (0, set0 s 1, mem) else (0, set0 { s with regs := s.regs.set 2 (mem.getD (cellAt x i + 1) 0) } 0, mem.set (cellAt x i) 0)) else (5, s, mem)) := by unfold Hid; rw [HQ.out, hwi]
    have HWR := hid (fun (w1 : World) (h1 : KerR x ck mem w1) => wire_yes x ck mem w1 h1 i f t hwi)
    have hil : i < x.wires.length := (List.getElem?_eq_some_iff.1 hwi).1
    have hco : cellAt x i + 2 ≤ x.n := by have := HR0.out.kern; unfold cellAt; omega
    clear HQ hwi
    go_cut [5, 6] from 7 to 17 (fun u v wx => ∃ Wb, u = .pointer (some ⟨Wb, 0, none⟩) ∧ v = .bool true ∧ wx.heap[Wb]? = some (.cells #[.int .i64 f, .int .i64 t, .slice (some ⟨x.M, cellAt x i, none⟩) 2 (x.n - cellAt x i)] 233 (0, 0)) ∧ wx.heap[w.heap.size]? = some (.cells #[.pointer (some ⟨x.X, 0, none⟩), .int .i64 k] 139 (0, 0)) ∧ Fr (fun _ => False) w wx)
    case first =>
      go_region_law
        (first
          | (refine step_call Tryz.func180 (by kernel_rfl) (by kernel_rfl) (by rfl) (by rfl) [.pointer (some ⟨x.X, 0, none⟩), .int .u32 i] (by rfl) ((HWR.out _ ?_).mono ?_); exact HA.out.frF ((Fr.refl _ wa).drew); rintro e w2 ⟨rfl, hf2⟩; refine ⟨_, rfl, ?_⟩; have hT2 := hf2.get (show wa.drew.heap[w.heap.size]? = some _ from HB.out) id; have HFX := hid (HF0.out.drew.step hf2 (fun _ h => .inl h)); have HTX := hid hT2; have HGX := hid (three_set (heap_alloc_new w2 (.cells #[.int .i64 0, .int .i64 0, .slice none 0 0] 233)) (.int .i64 f) (.int .i64 t) (.slice (some ⟨x.M, cellAt x i, none⟩) 2 (x.n - cellAt x i))))
          | (refine step_call Tryz.func180 (by kernel_rfl) (by kernel_rfl) (by rfl) (by rfl) [.pointer (some ⟨x.X, 0, none⟩), .int .u32 i] (by rfl) ((HWR.out _ ?_).mono ?_); exact HA.out.frF (((Fr.refl _ wa).alloc (.cells #[.int .i64 0, .int .i64 0, .slice none 0 0] 233)).drew); rintro e w2 ⟨rfl, hf2⟩; refine ⟨_, rfl, ?_⟩; have hT2 := hf2.get (show (wa.alloc (.cells #[.int .i64 0, .int .i64 0, .slice none 0 0] 233)).drew.heap[w.heap.size]? = some _ from get_alloc HB.out _) id; have hblk := hf2.get (show (wa.alloc (.cells #[.int .i64 0, .int .i64 0, .slice none 0 0] 233)).drew.heap[wa.heap.size]? = some _ from heap_alloc_new wa _) id; have z0 := row_cell hblk 0; have z1 := row_cell hblk 1; have z2 := row_cell hblk 2; have y0 := row_frozen hblk 0; have y1 := row_frozen hblk 1; have y2 := row_frozen hblk 2; simp only [List.getElem?_toArray, List.getElem?_cons_zero, List.getElem?_cons_succ] at z0 z1 z2; have HFX := hid ((HF0.out.alloc (.cells #[.int .i64 0, .int .i64 0, .slice none 0 0] 233)).drew.step hf2 (fun _ h => .inl h)); have HTX := hid hT2; have HGX := hid (three_set hblk (.int .i64 f) (.int .i64 t) (.slice (some ⟨x.M, cellAt x i, none⟩) 2 (x.n - cellAt x i)))))
      all_goals
        clear hf2 hT2 t0 r1 t0b r1b hb1 hb2
        try clear z0 z1 z2 y0 y1 y2
        go_wp2_with fail
        go_meet
        case rel =>
          first
            | (have hv2 := hblk; clear hv2; exact ⟨wa.heap.size, rfl, rfl, HGX.out, set_other (set_other (set_other HTX.out (p := ⟨wa.heap.size, 0, none⟩) (Nat.ne_of_lt hTs) _) (p := ⟨wa.heap.size, 1, none⟩) (Nat.ne_of_lt hTs) _) (p := ⟨wa.heap.size, 2, none⟩) (Nat.ne_of_lt hTs) _, ((HFX.out.setCell (p := ⟨wa.heap.size, 0, none⟩) (.inr (Nat.le_of_lt hTs)) _).setCell (p := ⟨wa.heap.size, 1, none⟩) (.inr (Nat.le_of_lt hTs)) _).setCell (p := ⟨wa.heap.size, 2, none⟩) (.inr (Nat.le_of_lt hTs)) _⟩)
            | exact ⟨w2.heap.size, rfl, rfl, heap_alloc_new w2 _, get_alloc HTX.out _, HFX.out.alloc _⟩
    case rest =>
      obtain ⟨Wb, rfl, rfl, hWb, hTb, hf⟩ := hcut
      have HF := hid hf
      have HWb := hid hWb
      have hTk : wc.cell? ⟨w.heap.size, 1, none⟩ = some (.int .i64 k) := row_cell hTb 1
      have hF0 : wc.cell? ⟨Wb, 0, none⟩ = some (.int .i64 f) := row_cell hWb 0
      have hF1 : wc.cell? ⟨Wb, 1, none⟩ = some (.int .i64 t) := row_cell hWb 1
      have hF2 : wc.cell? ⟨Wb, 2, none⟩ = some (.slice (some ⟨x.M, cellAt x i, none⟩) 2 (x.n - cellAt x i)) := row_cell hWb 2
      have HKC := hid (HR0.out.frF hf)
      have HWC := hid (H0.out.fr hf)
      clear hWb hTb hf t0 r1 t0b r1b HWR
      by_cases hfk : t = k
      · subst hfk
        have hm0 := HKC.out.word (cellAt x i) (by omega)
        have HFU := hid (full_any wc f k x.M (cellAt x i) (x.n - cellAt x i) _ hm0)
        have hvb : 0 ≤ mem.getD (cellAt x i) 0 := by
          rw [List.getD_eq_getElem?_getD]
          cases hv : mem[cellAt x i]? with
          | none => simp
          | some v => exact (HR0.out.mb v (List.mem_of_getElem? hv)).1
        clear hm0
        by_cases hv0 : mem.getD (cellAt x i) 0 = 0
        · have hfull : (mem.getD (cellAt x i) 0 != 0) = false := by rw [hv0]; rfl
          rw [hfull] at HFU
          have HQ3 : Hid (q = (0, set0 s 1, mem)) := by unfold Hid; rw [HQ2.out, if_pos rfl, if_pos hv0]
          clear hfull hvb hv0 HQ2
          go_wp2_with fail
          refine HFU.out.mono ?_
          rintro e w3 ⟨rfl, hf3⟩
          have HF3 := hid (HF.out.step hf3 (fun _ h => .inl h))
          have HK3 := hid (HKC.out.frF hf3)
          have HW3 := hid (HWC.out.fr hf3)
          clear hf3 hTk hF0 hF1 hF2 HFU
          go_wp2_with fail
          refine (answer_any _ B s c a b n o HW3.out h8 _).mono ?_
          rintro e w5 ⟨rfl, rfl⟩
          have HW5 := hid (HW3.out.setReg 0 (by omega) 1)
          have HK5 := hid (HK3.out.fr (Fr.one w3 B 0 (.int .u32 1)) (fun i hi => by rw [hi]; exact hB))
          have HF5 := hid ((HF3.out.toS (S := fun i => i = x.M ∨ i = B)).setCell (p := ⟨B, 0, none⟩) (.inl (.inr rfl)) (.int .u32 1))
          go_wp2_with fail
          go_ret
          rw [HQ3.out]
          exact ⟨rfl, HW5.out, HK5.out, HF5.out⟩
        · have hfull : (mem.getD (cellAt x i) 0 != 0) = true := bne_iff_ne.2 hv0
          rw [hfull] at HFU
          have HQ3 : Hid (q = (0, set0 { s with regs := s.regs.set 2 (mem.getD (cellAt x i + 1) 0) } 0, mem.set (cellAt x i) 0)) := by unfold Hid; rw [HQ2.out, if_pos rfl, if_neg hv0]
          clear hfull hvb hv0 HQ2
          go_wp2_with fail
          refine HFU.out.mono ?_
          rintro e w3 ⟨rfl, hf3⟩
          have HF3 := hid (HF.out.step hf3 (fun _ h => .inl h))
          have HK3 := hid (HKC.out.frF hf3)
          have HW3 := hid (HWC.out.fr hf3)
          have hWb3 := hf3.get HWb.out id
          have l0 : w3.drew.cell? ⟨Wb, 0, none⟩ = some (.int .i64 f) := row_cell hWb3 0
          have l1 : w3.drew.cell? ⟨Wb, 1, none⟩ = some (.int .i64 k) := row_cell hWb3 1
          have l2 : w3.drew.cell? ⟨Wb, 2, none⟩ = some (.slice (some ⟨x.M, cellAt x i, none⟩) 2 (x.n - cellAt x i)) := row_cell hWb3 2
          have HEM := hid (empty_any x ck mem w3.drew (HK3.out.frF ((Fr.refl _ w3).drew)) f k (cellAt x i) (x.n - cellAt x i) hco)
          generalize mem.getD (cellAt x i + 1) 0 = ev at HEM HQ3
          clear hf3 hWb3 hTk hF0 hF1 hF2 HFU
          go_wp2_with fail
          go_region_law
            (first
              | (refine step_call Tryz.func183 (by kernel_rfl) (by kernel_rfl) (by rfl) (by rfl) [.agg #[.int .i64 f, .int .i64 k, .slice (some ⟨x.M, cellAt x i, none⟩) 2 (x.n - cellAt x i)]] (by rfl) (HEM.out.mono ?_); rintro e w4 ⟨rfl, hk4, hf4⟩; refine ⟨_, rfl, ?_⟩; have HW4 : Hid (WorkAt w4 B s c a b n o) := hf4.get (show w3.drew.heap[B]? = _ from HW3.out) HBM.out; have lr : w4.cell? ⟨B, 2, none⟩ = some (.int .u32 i2) := HW4.out.reg 2 _ HI2.out; have fr2 : w4.frozen? ⟨B, 2, none⟩ = false := row_frozen HW4.out 2))
          all_goals
            have HK4 := hid (hk4.fr (Fr.one w4 B 2 (.int .u32 ev)) (fun i hi => by rw [hi]; exact hB))
            have HF4 := hid (((HF3.out.toS (S := fun i => i = x.M ∨ i = B)).step (hf4.undrew) (fun i hi => .inl (.inl hi))).setCell (p := ⟨B, 2, none⟩) (.inl (.inr rfl)) (.int .u32 ev))
            have HW6 := hid (HW4.out.setReg 2 (by omega) ev)
            clear hk4 hf4 l0 l1 l2 lr fr2
            generalize w4.setCell ⟨B, 2, none⟩ (.int .u32 ev) = w6 at *
            go_wp2_with fail
            refine (answer_any _ B { s with regs := s.regs.set 2 ev } c a b n o HW6.out (by simp [h8]) _).mono ?_
            rintro e w5 ⟨rfl, rfl⟩
            have HW5 := hid (HW6.out.setReg 0 (by simp [h8]) 0)
            have HK5 := hid (HK4.out.fr (Fr.one w6 B 0 (.int .u32 0)) (fun i hi => by rw [hi]; exact hB))
            have HF5 := hid (HF4.out.setCell (p := ⟨B, 0, none⟩) (.inl (.inr rfl)) (.int .u32 0))
            go_wp2_with fail
            go_ret
            rw [HQ3.out]
            exact ⟨rfl, HW5.out, HK5.out, HF5.out⟩
      · have hfb : (t != (k : Int)) = true := by simp [hfk]
        go_wp2_with fail
        go_ret
        rw [HQ2.out, if_neg hfk]
        exact ⟨rfl, HWC.out, HKC.out, HF.out.toS⟩

end Go.Proofs.YthmcheoehcmglaaGreat
