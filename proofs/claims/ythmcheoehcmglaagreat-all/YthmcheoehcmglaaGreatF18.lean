/- The reference's Run, walked. -/
import Derived.Test.YthmcheoehcmglaaGreatF17
namespace Go.Proofs.YthmcheoehcmglaaGreat
open Go.RowKit
set_option linter.unusedVariables false
attribute [local go_sem ↓] Go.wp_at_zero Go.wp_at_succ rsLoad_fold rsStore_fold

/-- The reference's net behind some cycles. -/
structure RRun (x : RX) (M : NM) (vL : List Value) (w wr : World) : Prop where
  r : ∃ vL', RefAt x M vL' wr ∧ LogsIn vL vL' w.heap.size
  f : Fr (RA x vL) w wr

theorem RRun.frF {x : RX} {M : NM} {vL : List Value} {w wr w' : World} (h : RRun x M vL w wr) (hf : Fr (fun _ => False) wr w') : RRun x M vL w w' := by
  obtain ⟨vL', h1, h2⟩ := h.r
  exact ⟨⟨vL', h1.frF hf, h2⟩, h.f.step hf (fun _ h => h.elim)⟩
theorem RRun.ck {x : RX} {M : NM} {vL : List Value} {w wr : World} (h : RRun x M vL w wr) (z : Int) : RRun x { M with ck := z } vL w (wr.setCell ⟨x.Y, 5, none⟩ (.int .i64 z)) := by
  obtain ⟨vL', h1, h2⟩ := h.r
  exact ⟨⟨vL', h1.setCk z, h2⟩, h.f.setCell (.inl (.inl rfl)) _⟩
theorem RRun.hy {x : RX} {M : NM} {vL : List Value} {w wr : World} (h : RRun x M vL w wr) : wr.cell? ⟨x.Y, 5, none⟩ = some (.int .i64 M.ck) ∧ wr.frozen? ⟨x.Y, 5, none⟩ = false ∧ wr.cell? ⟨x.Y, 2, none⟩ = some (.slice (some ⟨x.gW, 0, none⟩) x.st.length x.cW) := by
  obtain ⟨vL', h1, h2⟩ := h.r
  exact ⟨row_cell h1.n.hy 5, row_frozen h1.n.hy 5, row_cell h1.n.hy 2⟩

theorem cyc_turn (kx : KX) (M : NM) (k : Nat) (r : Int) (hs : SlotIs kx M.ck k r) (hr : r < kx.qs.getD k 0) (v : WN) (hv : M.wn[k]? = some v) : cycleN kx M = { outW M k v (cycleM (opsN kx k M.ck) v.now (v.ws, M.wi, M.devs)) with ck := M.ck + 1 } := by
  unfold cycleN actN
  rw [hs.e]
  simp only
  rw [if_pos hr, getD_of hv]
  rfl
theorem cyc_first (kx : KX) (M : NM) (k : Nat) (r : Int) (hs : SlotIs kx M.ck k r) (hr : ¬ r < kx.qs.getD k 0) (h0 : r - kx.qs.getD k 0 = 0) (v : WN) (hv : M.wn[k]? = some v) : cycleN kx M = { putW M k ⟨{ v.now with y := false }, { v.now with y := false }, v.ws⟩ with ck := M.ck + 1 } := by
  unfold cycleN actN
  rw [hs.e]
  simp only
  rw [if_neg hr, if_pos h0, getD_of hv]
  rfl
theorem cyc_gap (kx : KX) (M : NM) (k : Nat) (r : Int) (hs : SlotIs kx M.ck k r) (hr : ¬ r < kx.qs.getD k 0) (h0 : ¬ r - kx.qs.getD k 0 = 0) : cycleN kx M = { M with ck := M.ck + 1 } := by
  unfold cycleN actN
  rw [hs.e]
  simp only
  rw [if_neg hr, if_neg h0]

/-- What a ward did. -/
theorem RRun.work {x : RX} {M : NM} {vL vL' vL2 : List Value} {w w1 w2 : World} {M2 : NM} (hl : LogsIn vL vL' w.heap.size) (hf : Fr (RA x vL) w w1) (h2 : RefAt x M2 vL2 w2) (hl2 : LogsIn vL' vL2 w1.heap.size) (hf2 : Fr (RA x vL') w1 w2) : RRun x M2 vL w w2 :=
  ⟨⟨vL2, h2, LogsIn.trans hl hl2 hf.size⟩, hf.step hf2 (fun b hb => RA.mono hl b hb)⟩

/-- The first cycle of a gap. -/
theorem RRun.first {x : RX} {M : NM} {vL : List Value} {w w1 : World} (h : RRun x M vL w w1) (hb : NLen x M) (k : Nat) (y : RSt) (v : WN) (hy : x.st[k]? = some y) (hv : M.wn[k]? = some v) :
    w1.cell? ⟨x.gW, k * 29 + 3 + 12, none⟩ = some (.bool v.now.y) ∧ w1.frozen? ⟨x.gW, k * 29 + 3 + 12, none⟩ = false ∧ (w1.setCell ⟨x.gW, k * 29 + 3 + 12, none⟩ (.bool false)).cell? ⟨x.Y, 2, none⟩ = some (.slice (some ⟨x.gW, 0, none⟩) x.st.length x.cW) ∧
      (rsLoad (.pointer (some ⟨x.gW, k * 29 + 3, none⟩))).run Tryz.prog (w1.setCell ⟨x.gW, k * 29 + 3 + 12, none⟩ (.bool false)).drew = .ok (.agg (stI { v.now with y := false }).toArray) (w1.setCell ⟨x.gW, k * 29 + 3 + 12, none⟩ (.bool false)).drew ∧
      (rsStore (.pointer (some ⟨x.gW, k * 29 + 16, none⟩)) (.agg (stI { v.now with y := false }).toArray)).run Tryz.prog (w1.setCell ⟨x.gW, k * 29 + 3 + 12, none⟩ (.bool false)).drew = .ok () ((w1.setCell ⟨x.gW, k * 29 + 3 + 12, none⟩ (.bool false)).drew.setCells x.gW (k * 29 + 16) (stI { v.now with y := false })) ∧
      RRun x (putW M k ⟨{ v.now with y := false }, { v.now with y := false }, v.ws⟩) vL w ((w1.setCell ⟨x.gW, k * 29 + 3 + 12, none⟩ (.bool false)).drew.setCells x.gW (k * 29 + 16) (stI { v.now with y := false })) := by
  obtain ⟨vL', h1, h2⟩ := h.r
  have h8 := hb.s8 v (List.mem_of_getElem? hv)
  have g1 := (h1.setNow hb k y v hy hv { v.now with y := false } h8.1 12 (by omega) _ (stI_y _ h8.1 false)).frF (Fr.refl _ _).drew
  have hb1 : NLen x (putW M k { v with now := { v.now with y := false } }) := hb.put k v _ hv h8 rfl
  have hv1 := putW_self M k v { v with now := { v.now with y := false } } hv
  obtain ⟨l1, l2⟩ := g1.copies hb1 k y _ hy hv1
  have g2 := g1.setThen hb1 k y _ hy hv1
  rw [putW_put] at g2
  refine ⟨(h1.rest hb k y v hy hv).2.2.2.2, h1.frozenW _, row_cell g1.n.hy 2, l1, l2, ⟨⟨vL', g2, h2⟩, ?_⟩⟩
  exact ((h.f.setCell (.inl (.inr (.inl rfl))) _).drew).step (g1.thenFr _ _) (fun b hb => .inl (.inr (.inl hb)))

set_option maxRecDepth 100000 in
set_option maxHeartbeats 1000000 in
theorem rrun_any (x : RX) (kx : KX) (hK : RKx x kx) (N : NM) (vL : List Value) (w : World) (h : RefAt x N vL w) (hx : RXok x) (n : Int) (m : Nat) (hm : runN n = (m : Int)) (hall : ∀ i, i ≤ m → NBd x (iterN kx i N)) (hck : N.ck + m ≤ 9223372036854775807) (hL : ∀ i, i ≤ m → ∀ d ∈ (iterN kx i N).devs, d.2.length + 1 ≤ 17592186044416) (hQ : QsOk kx.gap kx.qs) :
    Calls Tryz.prog 54 #[.pointer (some ⟨x.Y, 0, none⟩), .int .i64 n] w fun e w' => e = .returned (.int .i64 (m : Int)) ∧ RRun x (iterN kx m N) vL w w' := by
  have H0 : Hid (RRun x (iterN kx 0 N) vL w w) := ⟨⟨vL, h, LogsIn.refl _ _⟩, Fr.refl _ _⟩
  have HK := hid hK
  have HX := hid hx
  have HALL := hid hall
  have HLL := hid hL
  have HQ := hid hQ
  have hm1 := (runN_bd n).2
  have hkql : kx.qs.length = x.st.length := by rw [hK.qs]; simp
  have hn4 := hx.n4
  have c0 : 0 ≤ N.ck := (hall 0 (Nat.zero_le _)).c0
  have hcki : N.ck + (m : Int) ≤ 9223372036854775807 := hck
  clear h hK hx hall hL hQ
  by_cases hn0 : n < 0
  · obtain rfl : m = 0 := by unfold runN at hm; rw [if_pos hn0] at hm; omega
    clear hm hm1 HALL HLL
    go_enter Tryz.func54, Tryz.ntmps54
    go_wp2_with fail
    go_loopw [5] (fun i wr => i = .int .i64 0 ∧ RRun x (iterN kx 0 N) vL w wr) (fun _ _ => 0)
    case atStart => exact ⟨rfl, H0.out⟩
    case round =>
      obtain ⟨rfl, hR⟩ := hrel
      have HR := hid hR
      clear hR
      go_wp2_with fail
      go_ret
      exact ⟨rfl, HR.out⟩
  by_cases hn1 : 100000 < n
  case' pos =>
    have HM : Hid ((100000 : Int) = (m : Int)) := by unfold Hid; unfold runN at hm; rw [if_neg hn0, if_pos hn1] at hm; exact hm
    clear hm
    go_enter Tryz.func54, Tryz.ntmps54
    go_upto_region 5 with fail
    rw [HM.out]
  case' neg =>
    have HM : Hid (n = (m : Int)) := by unfold Hid; unfold runN at hm; rw [if_neg hn0, if_neg hn1] at hm; exact hm
    clear hm
    go_enter Tryz.func54, Tryz.ntmps54
    go_upto_region 5 with fail
    rw [HM.out]
  all_goals
    clear HM
    go_wp2_with fail
    go_loopw [5] (fun i wr => ∃ j : Nat, j ≤ m ∧ i = .int .i64 j ∧ RRun x (iterN kx j N) vL w wr) (fun i _ => m - (intOf i).toNat)
    case atStart => exact ⟨0, Nat.zero_le _, rfl, H0.out⟩
    case round =>
      obtain ⟨j, hj, rfl, hR⟩ := hrel
      clear H0
      by_cases hlt : j < m
      · have hji : (j : Int) < (m : Int) := by omega
        have hMck := iterN_ck kx N j
        have hbd := HALL.out j hj
        have hLj := HLL.out j hj
        have hNX : iterN kx (j + 1) N = cycleN kx (iterN kx j N) := rfl
        have HNX := hid hNX
        generalize iterN kx j N = M at *
        obtain ⟨k, r, hs⟩ := slot_is HQ.out M.ck (by omega)
        have hkl : k < x.st.length := by rw [← hkql]; exact hs.kl
        have hki : (k : Int) < (x.st.length : Int) := by omega
        have hr0 := hs.r0
        have hr1 := hs.r1
        obtain ⟨y, hy⟩ : ∃ y, x.st[k]? = some y := ⟨_, List.getElem?_eq_getElem hkl⟩
        obtain ⟨v, hv⟩ : ∃ v, M.wn[k]? = some v := ⟨_, List.getElem?_eq_getElem (by rw [hbd.len.l1]; exact hkl)⟩
        obtain ⟨vL1, hA, hl1⟩ := hR.r
        obtain ⟨c5, f5, c2⟩ := hR.hy
        have hcb0 : 0 ≤ M.ck := by omega
        have hcb1 : M.ck + 1 ≤ 9223372036854775807 := by omega
        have HSL := hid (slot_any x kx HK.out M vL1 wr hA hbd.len HX.out M.ck hcb0 (by omega) k r hs)
        clear hMck
        have hqa := HQ.out.at k hs.kl
        have hg16 := HQ.out.g1
        by_cases hrq : r < kx.qs.getD k 0
        · have HWK := hid (fun (w1 : World) (hf : Fr (fun _ => False) wr w1) => rwork_any x kx HK.out M vL1 w1 (hA.frF hf) hbd HX.out (by omega) hLj k y v hy hv)
          have HCY := hid (cyc_turn kx M k r hs hrq v hv)
          have hsq : slotQ (kx.qs.getD k 0) k r = .tuple #[.int .i64 (k : Int), .int .i64 r, .int .i64 (k : Int)] := by unfold slotQ; rw [if_pos hrq, if_pos hrq]
          rw [hsq] at HSL
          have HRR := hid hR
          have HL1 := hid hl1
          clear hR hA hl1 hs hy hv hsq hbd hLj hNX hqa hrq
          go_wp2_with fail
          refine HSL.out.mono ?_
          rintro e w1 ⟨rfl, hf1⟩
          have HF1 := hid hf1
          clear hf1 HSL
          go_wp2_with fail
          refine (HWK.out w1 HF1.out).mono ?_
          rintro e w2 ⟨rfl, vL2, hA2, hl2, hf2⟩
          have hR2 := RRun.work (M := M) HL1.out (HRR.out.f.step HF1.out (fun _ h => h.elim)) hA2 hl2 hf2
          have hR3 := hR2.ck (M.ck + 1)
          rw [← HCY.out, ← HNX.out] at hR3
          have HR3 := hid hR3
          obtain ⟨d5, g5, d2⟩ := hR2.hy
          replace d5 : w2.cell? ⟨x.Y, 5, none⟩ = some (.int .i64 M.ck) := d5
          clear hA2 hl2 hf2 hR2 hR3 HWK HF1 HRR HL1 HCY c5 f5 c2 d2
          go_wp2_with fail
          go_roundw
          case rel => exact ⟨j + 1, by omega, by go_num, HR3.out⟩
          case measure => simp [intOf]; omega
        · obtain ⟨ov, hov⟩ : ∃ ov, r - kx.qs.getD k 0 = ov := ⟨_, rfl⟩
          have hsq : slotQ (kx.qs.getD k 0) k r = .tuple #[.int .i64 (-1), .int .i64 ov, .int .i64 (k : Int)] := by unfold slotQ; rw [if_neg hrq, if_neg hrq, hov]
          rw [hsq] at HSL
          have hR1 := fun (w1 : World) (hf : Fr (fun _ => False) wr w1) => hR.frF hf
          by_cases h0 : ov = 0
          · have HCY := hid (cyc_first kx M k r hs hrq (by rw [hov]; exact h0) v hv)
            have HFI := hid (fun (w1 : World) (hf : Fr (fun _ => False) wr w1) => (hR1 w1 hf).first hbd.len k y v hy hv)
            have HHY := hid (fun (w1 : World) (hf : Fr (fun _ => False) wr w1) => (hR1 w1 hf).hy)
            subst h0
            clear hR hA hl1 hs hy hv hsq hbd hLj hNX hqa hrq hov hR1
            go_wp2_with fail
            refine HSL.out.mono ?_
            rintro e w1 ⟨rfl, hf1⟩
            obtain ⟨q1, q2, q3, q4, q5, q6⟩ := HFI.out w1 hf1
            obtain ⟨-, -, d2⟩ := HHY.out w1 hf1
            obtain ⟨A, hA⟩ : ∃ A, (stI { v.now with y := false }).toArray = A := ⟨_, rfl⟩
            rw [hA] at q4 q5
            obtain ⟨wb, hwb⟩ : ∃ wb, w1.setCell ⟨x.gW, k * 29 + 3 + 12, none⟩ (.bool false) = wb := ⟨_, rfl⟩
            rw [hwb] at q3 q4 q5 q6
            obtain ⟨wS, hwS⟩ : ∃ wS, wb.drew.setCells x.gW (k * 29 + 16) (stI { v.now with y := false }) = wS := ⟨_, rfl⟩
            rw [hwS] at q5 q6
            have q3d : wb.drew.cell? ⟨x.Y, 2, none⟩ = some (.slice (some ⟨x.gW, 0, none⟩) x.st.length x.cW) := q3
            obtain ⟨d5, g5, -⟩ := q6.hy
            replace d5 : wS.cell? ⟨x.Y, 5, none⟩ = some (.int .i64 M.ck) := d5
            have hR3 := q6.ck (M.ck + 1)
            rw [← HCY.out, ← HNX.out] at hR3
            have HR3 := hid hR3
            clear hf1 HSL HFI HHY hA hwS q6 hR3 HCY c5 f5 c2
            go_wp2_with fail
            clear hwb q1 q2
            go_region
            go_wp2_with fail
            go_roundw
            case rel => exact ⟨j + 1, by omega, by go_num, HR3.out⟩
            case measure => simp [intOf]; omega
          · have HCY := hid (cyc_gap kx M k r hs hrq (by rw [hov]; exact h0))
            have HHY := hid (fun (w1 : World) (hf : Fr (fun _ => False) wr w1) => (hR1 w1 hf).hy)
            have HCK := hid (fun (w1 : World) (hf : Fr (fun _ => False) wr w1) => (hR1 w1 hf).ck (M.ck + 1))
            have h0b : (ov == 0) = false := by simpa using h0
            clear hR hA hl1 hs hy hv hsq hbd hLj hNX hqa hrq hov hR1 h0
            go_wp2_with fail
            refine HSL.out.mono ?_
            rintro e w1 ⟨rfl, hf1⟩
            obtain ⟨d5, g5, -⟩ := HHY.out w1 hf1
            have hR3 := HCK.out w1 hf1
            rw [← HCY.out, ← HNX.out] at hR3
            have HR3 := hid hR3
            clear hf1 HSL HHY hR3 HCY HCK c5 f5 c2
            go_wp2_with fail
            go_roundw
            case rel => exact ⟨j + 1, by omega, by go_num, HR3.out⟩
            case measure => simp [intOf]; omega
      · obtain rfl : j = m := by omega
        have HR := hid hR
        clear hR
        go_wp2_with fail
        go_ret
        exact ⟨rfl, HR.out⟩

end Go.Proofs.YthmcheoehcmglaaGreat
