/- The reference's call: receive, look; call as a whole. -/
import Derived.Test.YthmcheoehcmglaaGreatF7
namespace Go.Proofs.YthmcheoehcmglaaGreat
open Go.RowKit
set_option linter.unusedVariables false
attribute [local go_sem ↓] Go.wp_at_zero Go.wp_at_succ

set_option maxRecDepth 100000 in
set_option maxHeartbeats 2000000 in
theorem call_receive (x : RX) (kx : KX) (hK : RKx x kx) (N : NM) (vL : List Value) (w : World) (h : RefAt x N vL w) (hb : NLen x N) (hx : RXok x) (k : Nat) (y : RSt) (v : WN) (hy : x.st[k]? = some y) (hv : N.wn[k]? = some v) (hB : StB v.now) (hi : ∀ c ∈ N.wi, (c.1 = 0 ∨ c.1 = 1) ∧ bdW c.2) :
    Calls Tryz.prog 117 #[.pointer (some ⟨x.Y, 0, none⟩), .int .i64 k, .int .i64 4] w fun e w' => RCallPost x N k v vL (receiveN kx k v.now N.wi) w e w' := by
  have hkl := (List.getElem?_eq_some_iff.1 hy).1
  have hki : (k : Int) < (x.st.length : Int) := by omega
  have hn4 := hx.n4
  have h8 := (hb.s8 v (List.mem_of_getElem? hv)).1
  have c2 : w.cell? ⟨x.Y, 2, none⟩ = some (.slice (some ⟨x.gW, 0, none⟩) x.st.length x.cW) := row_cell h.n.hy 2
  have r1 := hB.getD 1
  obtain ⟨n, hn⟩ := Int.eq_ofNat_of_zero_le r1.1
  have HWO := hid (wireOf_any x N vL w h hb hx k y v hy hv r1.1 r1.2 false true)
  rw [hn] at HWO
  rcases wire_cases x kx hK N hb k v.now n hn with ⟨e1, e2⟩ | ⟨p, c, hp, hc, e1, e3, e4, e2⟩
  · have HP : Hid (RCallPost x N k v vL (receiveN kx k v.now N.wi) w (.returned (.int .i64 5)) w) := by
      have e : receiveN kx k v.now N.wi = (5, v.now, N.wi) := by unfold receiveN; rw [e1]
      rw [e]
      exact h.mkPost hv
    rw [e2] at HWO
    clear h hb hx hy hv e1 e2 hB hi hK hn
    go_enter Tryz.func117, Tryz.ntmps117
    go_wp2_with fail
    refine HWO.out.mono ?_
    rintro e w1 ⟨rfl, hw⟩
    obtain rfl := hw.symm
    go_wp2_with fail
    go_ret
    exact HP.out
  · rw [e2] at HWO
    by_cases hf : p.2 = (k : Int)
    case neg =>
      have HP : Hid (RCallPost x N k v vL (receiveN kx k v.now N.wi) w (.returned (.int .i64 5)) w) := by
        have e : receiveN kx k v.now N.wi = (5, v.now, N.wi) := by unfold receiveN; rw [e1]; simp only; rw [if_neg hf]
        rw [e]
        exact h.mkPost hv
      rw [if_neg (by simp [hf])] at HWO
      clear h hb hx hy hv e1 e2 hB hi hK hn
      go_enter Tryz.func117, Tryz.ntmps117
      go_wp2_with fail
      refine HWO.out.mono ?_
      rintro e w1 ⟨rfl, hw⟩
      obtain rfl := hw.symm
      go_wp2_with fail
      go_ret
      exact HP.out
    case pos =>
      rw [if_pos (by simp [hf])] at HWO
      have hlt : n < x.wires.length := (List.getElem?_eq_some_iff.1 hp).1
      have hni : (n : Int) < (x.wires.length : Int) := by omega
      have hw8 := hx.w8
      obtain ⟨aI, cI, hI, hIg⟩ := h.vis hb
      obtain ⟨g, rfl⟩ := hIg (by omega)
      have c3 : w.drew.cell? ⟨x.Y, 3, none⟩ = some (.slice (some ⟨g, 0, none⟩) x.wires.length cI) := by rw [← hI]; exact row_cell h.n.hy 3
      have d2 : w.drew.cell? ⟨g, n * 4 + 2, none⟩ = some (.int .i64 c.1) := (h.wcell hb g cI hI n p c hp hc).2.2.1
      have d0 : w.drew.cell? ⟨x.gW, k * 29 + 3, none⟩ = _ := h.reg hb k y v hy hv 0 (by omega)
      have f0 : w.drew.frozen? ⟨x.gW, k * 29 + 3, none⟩ = false := h.frozenW (k * 29 + 3)
      have hci := hi c (List.mem_of_getElem? hc)
      have hcb : 0 ≤ c.1 ∧ c.1 ≤ 1 := by rcases hci.1 with h0 | h0 <;> omega
      have h1 := h.setNow hb k y v hy hv (set0 v.now (1 - c.1)) (by simp [set0, h8]) 0 (by omega) (.int .i64 (1 - c.1)) (stI_reg _ h8 0 (by omega) _)
      have hb1 : NLen x (putW N k { v with now := set0 v.now (1 - c.1) }) := hb.put k v _ hv ⟨by simp [set0, h8], (hb.s8 v (List.mem_of_getElem? hv)).2⟩ rfl
      have hv1 : (putW N k { v with now := set0 v.now (1 - c.1) }).wn[k]? = some { v with now := set0 v.now (1 - c.1) } := putW_self N k v _ hv
      have HF1 : Hid (Fr (RA x vL) w (w.setCell ⟨x.gW, k * 29 + 3, none⟩ (.int .i64 (1 - c.1))).drew) := ((Fr.refl _ w).setCell (.inl (.inr (.inl rfl))) _).drew
      have H1 : Hid (RefAt x (putW N k { v with now := set0 v.now (1 - c.1) }) vL (w.setCell ⟨x.gW, k * 29 + 3, none⟩ (.int .i64 (1 - c.1))).drew) := h1.frF (Fr.refl _ _).drew
      have HB1 := hid hb1
      have HV1 := hid hv1
      have HY := hid hy
      have HI := hid hI
      have HPP := hid hp
      have HCC := hid hc
      have HRE : Hid (receiveN kx k v.now N.wi = if c.1 = 0 then (0, set0 v.now 1, N.wi) else (0, set0 { v.now with regs := v.now.regs.set 2 c.2 } 0, N.wi.set n (0, c.2))) := by
        unfold Hid receiveN
        rw [e1]
        simp only
        rw [if_pos hf, e3, e4]
      have H8 := hid h8
      clear h hb hx hy hv e1 e2 hB hi hK hn h1 hb1 hv1 hI hp hc e3 e4 hf h8
      go_enter Tryz.func117, Tryz.ntmps117
      go_wp2_with fail
      refine HWO.out.mono ?_
      rintro e w1 ⟨rfl, hw⟩
      obtain rfl := hw.symm
      go_wp2_with fail
      go_region
      generalize (w.setCell ⟨x.gW, k * 29 + 3, none⟩ (.int .i64 (1 - c.1))).drew = wa at *
      clear c2 c3 d2 d0 f0
      have cY : wa.cell? ⟨x.Y, 3, none⟩ = some (.slice (some ⟨g, 0, none⟩) x.wires.length cI) := by rw [← HI.out]; exact row_cell H1.out.n.hy 3
      obtain ⟨-, -, w2c, w3c, wf⟩ := H1.out.wcell HB1.out g cI HI.out n p c HPP.out HCC.out
      have wf2 := wf (n * 4 + 2)
      clear wf w3c
      rcases hci.1 with h0 | h0
      · rw [h0] at w2c
        go_wp2_with fail
        go_ret
        refine ⟨by rw [HRE.out, if_pos h0]; rfl, ?_, HF1.out⟩
        rw [HRE.out, if_pos h0]
        have := H1.out
        rw [h0] at this
        exact this
      · rw [h0] at w2c
        have h00 : ¬ c.1 = 0 := by omega
        have H00 := hid h00
        clear h00
        have H2 := hid (H1.out.setWire HB1.out g cI HI.out n p c (0, c.2) HPP.out HCC.out 2 (by omega) (.int .i64 0) rfl)
        have HF2 : Hid (Fr (RA x vL) w (wa.setCell ⟨g, n * 4 + 2, none⟩ (.int .i64 0))) := HF1.out.setCell (.inl (.inr (.inr (.inl (by rw [HI.out]; rfl))))) _
        go_wp2_with fail
        generalize wa.setCell ⟨g, n * 4 + 2, none⟩ (.int .i64 0) = wb at *
        have hb2 : NLen x { putW N k { v with now := set0 v.now (1 - c.1) } with wi := (putW N k { v with now := set0 v.now (1 - c.1) }).wi.set n (0, c.2) } := HB1.out.wi _ (by simp)
        have cY2 : wb.drew.cell? ⟨x.Y, 3, none⟩ = some (.slice (some ⟨g, 0, none⟩) x.wires.length cI) := by rw [← HI.out]; exact row_cell H2.out.n.hy 3
        have hc2 : ({ putW N k { v with now := set0 v.now (1 - c.1) } with wi := (putW N k { v with now := set0 v.now (1 - c.1) }).wi.set n (0, c.2) } : NM).wi[n]? = some (0, c.2) := List.getElem?_set_self (List.getElem?_eq_some_iff.1 HCC.out).1
        obtain ⟨-, -, -, w3c, wf⟩ := H2.out.wcell hb2 g cI HI.out n p (0, c.2) HPP.out hc2
        have w3d : wb.drew.cell? ⟨g, n * 4 + 3, none⟩ = some (.int .i64 c.2) := w3c
        have h8b : (set0 v.now (1 - c.1)).regs.length = 8 := by simp [set0, H8.out]
        have r2 : wb.drew.cell? ⟨x.gW, k * 29 + 3 + 2, none⟩ = _ := H2.out.reg hb2 k y { v with now := set0 v.now (1 - c.1) } HY.out HV1.out 2 (by omega)
        have rf2 : wb.drew.frozen? ⟨x.gW, k * 29 + 3 + 2, none⟩ = false := H2.out.frozenW _
        have H3 := hid (H2.out.setNow hb2 k y { v with now := set0 v.now (1 - c.1) } HY.out HV1.out { set0 v.now (1 - c.1) with regs := (set0 v.now (1 - c.1)).regs.set 2 c.2 } (by simp [set0, H8.out]) 2 (by omega) (.int .i64 c.2) (stI_reg _ h8b 2 (by omega) _))
        have HF3 : Hid (Fr (RA x vL) w (wb.setCell ⟨x.gW, k * 29 + 3 + 2, none⟩ (.int .i64 c.2)).drew) := (HF2.out.setCell (.inl (.inr (.inl rfl))) _).drew
        clear w3c wf hc2 hb2 w2c wf2 cY h8b
        generalize ({ v with now := set0 v.now (1 - c.1) } : WN).now.regs.getD 2 0 = zz at r2
        go_region
        go_wp2_with fail
        go_ret
        refine ⟨by rw [HRE.out, if_neg H00.out]; rfl, ?_, HF3.out⟩
        rw [HRE.out, if_neg H00.out]
        have := H3.out.frF (Fr.refl _ _).drew
        have e9 : ({ set0 v.now (1 - c.1) with regs := (set0 v.now (1 - c.1)).regs.set 2 c.2 } : StV) = set0 { v.now with regs := v.now.regs.set 2 c.2 } 0 := by
          unfold set0
          rw [h0]
          simp only [Int.sub_self]
          rw [List.set_comm _ _ (by omega)]
        rw [e9] at this
        have e10 : putW { putW N k { v with now := set0 v.now (1 - c.1) } with wi := (putW N k { v with now := set0 v.now (1 - c.1) }).wi.set n (0, c.2) } k { v with now := set0 { v.now with regs := v.now.regs.set 2 c.2 } 0 } = { putW N k { v with now := set0 { v.now with regs := v.now.regs.set 2 c.2 } 0 } with wi := N.wi.set n (0, c.2) } := by
          unfold putW
          simp [List.set_set]
        rw [e10] at this
        exact this

set_option maxRecDepth 100000 in
set_option maxHeartbeats 2000000 in
theorem call_look (x : RX) (kx : KX) (hK : RKx x kx) (N : NM) (vL : List Value) (w : World) (h : RefAt x N vL w) (hb : NLen x N) (hx : RXok x) (k : Nat) (y : RSt) (v : WN) (hy : x.st[k]? = some y) (hv : N.wn[k]? = some v) (hB : StB v.now) (hi : ∀ c ∈ N.wi, (c.1 = 0 ∨ c.1 = 1) ∧ bdW c.2) :
    Calls Tryz.prog 117 #[.pointer (some ⟨x.Y, 0, none⟩), .int .i64 k, .int .i64 5] w fun e w' => RCallPost x N k v vL (lookN kx k v.now N.wi) w e w' := by
  have hkl := (List.getElem?_eq_some_iff.1 hy).1
  have hki : (k : Int) < (x.st.length : Int) := by omega
  have hn4 := hx.n4
  have h8 := (hb.s8 v (List.mem_of_getElem? hv)).1
  have c2 : w.cell? ⟨x.Y, 2, none⟩ = some (.slice (some ⟨x.gW, 0, none⟩) x.st.length x.cW) := row_cell h.n.hy 2
  have r1 := hB.getD 1
  obtain ⟨n, hn⟩ := Int.eq_ofNat_of_zero_le r1.1
  have HWO := hid (wireOf_any x N vL w h hb hx k y v hy hv r1.1 r1.2 true true)
  rw [hn] at HWO
  rcases wire_cases x kx hK N hb k v.now n hn with ⟨e1, e2⟩ | ⟨p, c, hp, hc, e1, e3, e4, e2⟩
  · have HP : Hid (RCallPost x N k v vL (lookN kx k v.now N.wi) w (.returned (.int .i64 5)) w) := by
      have e : lookN kx k v.now N.wi = (5, v.now, N.wi) := by unfold lookN; rw [e1]
      rw [e]
      exact h.mkPost hv
    rw [e2] at HWO
    clear h hb hx hy hv e1 e2 hB hi hK hn
    go_enter Tryz.func117, Tryz.ntmps117
    go_wp2_with fail
    refine HWO.out.mono ?_
    rintro e w1 ⟨rfl, hw⟩
    obtain rfl := hw.symm
    go_wp2_with fail
    go_ret
    exact HP.out
  · rw [e2] at HWO
    by_cases hf : p.1 = (k : Int) ∨ p.2 = (k : Int)
    case neg =>
      have HP : Hid (RCallPost x N k v vL (lookN kx k v.now N.wi) w (.returned (.int .i64 5)) w) := by
        have e : lookN kx k v.now N.wi = (5, v.now, N.wi) := by unfold lookN; rw [e1]; simp only; rw [if_neg hf]
        rw [e]
        exact h.mkPost hv
      rw [if_neg (by simp only [Bool.true_and, Bool.or_eq_true, decide_eq_true_eq]; exact hf)] at HWO
      clear h hb hx hy hv e1 e2 hB hi hK hn
      go_enter Tryz.func117, Tryz.ntmps117
      go_wp2_with fail
      refine HWO.out.mono ?_
      rintro e w1 ⟨rfl, hw⟩
      obtain rfl := hw.symm
      go_wp2_with fail
      go_ret
      exact HP.out
    case pos =>
      rw [if_pos (by simp only [Bool.true_and, Bool.or_eq_true, decide_eq_true_eq]; exact hf)] at HWO
      have hlt : n < x.wires.length := (List.getElem?_eq_some_iff.1 hp).1
      have hni : (n : Int) < (x.wires.length : Int) := by omega
      have hw8 := hx.w8
      obtain ⟨aI, cI, hI, hIg⟩ := h.vis hb
      obtain ⟨g, rfl⟩ := hIg (by omega)
      have c3 : w.drew.cell? ⟨x.Y, 3, none⟩ = some (.slice (some ⟨g, 0, none⟩) x.wires.length cI) := by rw [← hI]; exact row_cell h.n.hy 3
      have d2 : w.drew.cell? ⟨g, n * 4 + 2, none⟩ = some (.int .i64 c.1) := (h.wcell hb g cI hI n p c hp hc).2.2.1
      have d0 : w.drew.cell? ⟨x.gW, k * 29 + 3, none⟩ = _ := h.reg hb k y v hy hv 0 (by omega)
      have f0 : w.drew.frozen? ⟨x.gW, k * 29 + 3, none⟩ = false := h.frozenW (k * 29 + 3)
      have hci := hi c (List.mem_of_getElem? hc)
      have h1 := h.setNow hb k y v hy hv (set0 v.now c.1) (by simp [set0, h8]) 0 (by omega) (.int .i64 c.1) (stI_reg _ h8 0 (by omega) _)
      have hb1 : NLen x (putW N k { v with now := set0 v.now c.1 }) := hb.put k v _ hv ⟨by simp [set0, h8], (hb.s8 v (List.mem_of_getElem? hv)).2⟩ rfl
      have hv1 : (putW N k { v with now := set0 v.now c.1 }).wn[k]? = some { v with now := set0 v.now c.1 } := putW_self N k v _ hv
      have HF1 : Hid (Fr (RA x vL) w (w.setCell ⟨x.gW, k * 29 + 3, none⟩ (.int .i64 c.1)).drew) := ((Fr.refl _ w).setCell (.inl (.inr (.inl rfl))) _).drew
      have H1 : Hid (RefAt x (putW N k { v with now := set0 v.now c.1 }) vL (w.setCell ⟨x.gW, k * 29 + 3, none⟩ (.int .i64 c.1)).drew) := h1.frF (Fr.refl _ _).drew
      have HSE : Hid (lookN kx k v.now N.wi = (0, set0 v.now c.1, N.wi)) := by
        unfold Hid lookN
        rw [e1]
        simp only
        rw [if_pos hf, e3, e4]
        rcases hci.1 with h0 | h0
        · rw [if_pos h0, h0]
        · rw [if_neg (by omega), h0]
      clear h hb hx hy hv e1 e2 hB hi hK hn h1 hb1 hv1 hI hp hc e3 e4 hf h8
      go_enter Tryz.func117, Tryz.ntmps117
      go_wp2_with fail
      refine HWO.out.mono ?_
      rintro e w1 ⟨rfl, hw⟩
      obtain rfl := hw.symm
      go_wp2_with fail
      go_region
      go_wp2_with fail
      go_ret
      refine ⟨by rw [HSE.out]; rfl, ?_, HF1.out⟩
      rw [HSE.out]
      exact H1.out

theorem rcall_any (x : RX) (kx : KX) (hK : RKx x kx) (N : NM) (vL : List Value) (w : World) (h : RefAt x N vL w) (hb : NLen x N) (hx : RXok x) (k : Nat) (y : RSt) (v : WN) (hy : x.st[k]? = some y) (hv : N.wn[k]? = some v) (hB : StB v.now) (hi : ∀ c ∈ N.wi, (c.1 = 0 ∨ c.1 = 1) ∧ bdW c.2) (hc0 : 0 ≤ N.ck) (hc1 : N.ck ≤ 9223372036854775807) (n : Nat) (hn : n < 65536) :
    Calls Tryz.prog 117 #[.pointer (some ⟨x.Y, 0, none⟩), .int .i64 k, .int .i64 n] w fun e w' => RCallPost x N k v vL (callN kx k N.ck v.now N.wi n) w e w' := by
  by_cases h3 : n = 3
  · subst h3
    exact call_send x kx hK N vL w h hb hx k y v hy hv hB hi
  by_cases h4 : n = 4
  · subst h4
    exact call_receive x kx hK N vL w h hb hx k y v hy hv hB hi
  by_cases h5 : n = 5
  · subst h5
    exact call_look x kx hK N vL w h hb hx k y v hy hv hB hi
  exact call_small x kx N vL w h hb hx k y v hy hv hc0 hc1 n hn h3 h4 h5

end Go.Proofs.YthmcheoehcmglaaGreat
