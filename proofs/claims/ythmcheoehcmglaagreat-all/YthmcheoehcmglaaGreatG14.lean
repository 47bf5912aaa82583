/- The statements' plays, with the kinds 510. -/
import Derived.Test.YthmcheoehcmglaaGreatG16
namespace Go.Proofs.YthmcheoehcmglaaGreat
open Go.RowKit
set_option linter.unusedVariables false
attribute [local go_sem ↓] Go.wp_at_zero Go.wp_at_succ

set_option maxRecDepth 100000 in
set_option maxHeartbeats 2000000 in
theorem plays_510 {c : Prop} (hB : BootC c) (w : World) (a1 a2 : Option Addr) (c1 c2 : Nat) (ims : List ByteArray) (sc : List Stp) (h1 : StrsAt w a1 ims) (h2 : StepsAt w a2 sc) (hsz : ∀ s ∈ ims, s.size ≤ maxLen) (hl1 : ims.length ≤ 17592186044415) (hl2 : sc.length ≤ 80000000000000) (hc : ims.length ≤ 1 ∨ c) (hnd : NoDev sc.length ims) :
    Calls Tryz.prog 15 #[.slice a1 ims.length c1, .slice a2 sc.length c2, .int .i64 510] w fun e w' => e = .returned (.bool true) ∧ Fr (fun _ => False) w w' := by
  have H1 := hid h1
  have H2 := hid h2
  have HSZ := hid hsz
  have HB := hid hB
  have HC := hid hc
  have HND := hid hnd
  obtain ⟨n, hn⟩ : ∃ n, sc.length = n := ⟨_, rfl⟩
  obtain ⟨l, hl⟩ : ∃ l, ims.length = l := ⟨_, rfl⟩
  rw [hn] at HND hl2 ⊢
  rw [hl] at HC hl1 ⊢
  have HN := hid hn
  have HL := hid hl
  clear h1 h2 hsz hB hc hnd hn hl
  go_enter Tryz.func15, Tryz.ntmps15
  go_wp2_with fail
  refine (known_any _).mono ?_
  rintro e w0 ⟨rfl, hf0⟩
  have HF0 := hid hf0
  have H10 := hid (H1.out.fr hf0)
  have H20 := hid (H2.out.fr hf0)
  clear hf0 H1 H2
  go_wp2_with fail
  go_loopw [8, 9] (fun a b wr => ∃ i : Nat, i ≤ l ∧ b = .int .i64 (i : Int) ∧ PsI n w0 i a wr) (fun _ b _ => l - (intOf b).toNat)
  case atStart => exact ⟨0, by omega, rfl, PsI.start n w0⟩
  case round =>
    obtain ⟨i, hi, rfl, hP⟩ := hrel
    have HP := hid hP
    have HF := hid (show Fr (fun _ => False) w0 wr by obtain ⟨ds, h5, h6, h7⟩ := hP; exact h5.f)
    clear hP
    by_cases hlt : i < l
    · have hlti : (i : Int) < (l : Int) := by omega
      obtain ⟨b1, o1, ha1, hcl⟩ := H10.out (by rw [HL.out]; omega)
      subst ha1
      have hgi : ims[i]? = some (ims[i]'(by rw [HL.out]; omega)) := List.getElem?_eq_getElem _
      have hcs := cell_fr (hcl i _ hgi) HF.out
      have hsm := List.mem_of_getElem? hgi
      have hsl := HSZ.out _ hsm
      have hdv : ∀ m ok, rimg (ims[i]'(by rw [HL.out]; omega)).data.toList = (m, ok) → mkErr m ok = 0 → m.ow = [] ∨ n ≤ 100000000 := by
        intro m ok e1 e2
        rcases HND.out with h5 | h5
        · exact .inr h5
        · exact .inl (h5 _ hsm m ok e1 e2)
      generalize ims[i]'(by rw [HL.out]; omega) = s at *
      obtain ⟨m, ok, hE⟩ : ∃ m ok, rimg s.data.toList = (m, ok) := ⟨_, _, rfl⟩
      have HE := hid hE
      have HOK : Hid m.Ok := by
        have := rimg_ok s.data.toList
        rw [hE] at this
        exact this
      have HDV := hid (hdv m ok hE)
      have HSL := hid hsl
      have HCS := hid hcs
      have HCC : Hid (i = 0 ∨ c) := by
        rcases HC.out with h5 | h5
        · exact .inl (by omega)
        · exact .inr h5
      clear hE hdv hsl hsm hgi hcl
      by_cases he : mkErr m ok = 0
      · have HBT := hid (HB.out s HSL.out wr m ok HE he)
        have HRD : Hid (∀ w, Calls Tryz.prog 37 #[.string s] w fun e w' => Fr (fun _ => False) w w' ∧ ∃ Y rws wi vW vI vD, e = .returned (.tuple #[.pointer (some ⟨Y, 0, none⟩), .int .i64 0]) ∧ NetAt w' Y m.gap m.mem 0 rws wi vW vI vD m.ow.length ∧ NetOf m rws wi ∧ RdEx w Y rws vW vI vD m.ow.length w') := fun w => (rRead_any s HSL.out w m ok HE).mono (fun e w' h => ⟨h.1, h.2.2 he⟩)
        have HM : Hid (0 ≤ m.mem) := by have := (good_of _ m ok HE.out he).f.m64; show 0 ≤ m.mem; omega
        have HDV2 := hid (HDV.out he)
        clear he HDV
        go_wp2_with fail
        refine HBT.out.mono ?_
        rintro e w1 ⟨kx, vK, rfl, hL, hX, hf1, hka, hks⟩
        have HLv := hid hL
        have HX := hid hX
        have HF1 := hid hf1
        have HKA := hid hka
        have HKS := hid hks
        have hcs1 := cell_fr HCS.out hf1
        clear hL hX hf1 hka hks HBT hcs
        go_wp2_with fail
        refine (HRD.out _).mono ?_
        rintro e w2 ⟨hf2, Y, rws, wi, vW, vI, vD, rfl, hNA, hNO, hEx⟩
        obtain ⟨k, xs, hki, how, hadd⟩ := HP.out.add HM.out HLv.out HX.out HF1.out HKA.out HKS.out hf2 hNA hNO hEx HCC.out HDV2.out
        have HOW := hid how
        have HADD := hid hadd
        have hk1 : k + 1 ≤ 17592186044416 := by omega
        have hws : w0.heap.size ≤ w2.heap.size := Nat.le_trans (HF.out.step HF1.out (fun _ h => .inl h)).size hf2.size
        clear hf2 hNA hNO hEx how hadd hcs1 HRD HKA HKS HX HLv
        go_wp2_with fail
        refine (num_any _ _).mono ?_
        rintro e w3 ⟨rfl, hw⟩
        obtain rfl := hw.symm
        generalize kx.X = X at *
        go_wp2_with (first
          | (refine wpList_app8 slPair (by rfl) _ _ (by rfl) w0.heap.size u8 k _ (by rfl) ((HOW.out.alloc _).alloc _) (w2.heap.size + 1) #[.pointer (some ⟨w2.heap.size, 0, none⟩)] _ (by rfl) (heap_alloc2_new w2 _ _) rfl (by simp [Value.oneCell']) hk1 (le_alloc (le_alloc hws _) _) ?_; intro gg cap w7 hown7 hf7; have HN7 := hid (HADD.out _ _ w7 hown7 hf7); clear hown7 hf7))
        go_roundw
        case rel => exact ⟨i + 1, by omega, by go_num, HN7.out⟩
        case measure => simp [intOf]; omega
      · have HBN := hid (boot_no s HSL.out wr m ok HE HOK.out he)
        have HRD : Hid (∀ w, Calls Tryz.prog 37 #[.string s] w fun e w' => Fr (fun _ => False) w w' ∧ e = .returned (.tuple #[.pointer none, .int .i64 (mkErr m ok)])) := fun w => (rRead_any s HSL.out w m ok HE).mono (fun e w' h => ⟨h.1, h.2.1 he⟩)
        generalize mkErr m ok = er at *
        clear he HDV
        go_wp2_with fail
        refine HBN.out.mono ?_
        rintro e w1 ⟨rfl, hf1⟩
        have HF1 := hid hf1
        have hcs1 := cell_fr HCS.out hf1
        clear hf1 HBN hcs
        go_wp2_with fail
        refine (HRD.out _).mono ?_
        rintro e w2 ⟨hf2, rfl⟩
        have HN7 := hid ((HP.out.frF (HF1.out.step hf2 (fun _ h => .inl h))).skip)
        clear hf2 hcs1 HRD
        go_wp2_with fail
        refine (num_any _ _).mono ?_
        rintro e w3 ⟨rfl, hw⟩
        obtain rfl := hw.symm
        go_wp2_with fail
        go_roundw
        case rel => exact ⟨i + 1, by omega, by go_num, HN7.out⟩
        case measure => simp [intOf]; omega
    · have hlti : ¬ (i : Int) < (l : Int) := by omega
      obtain ⟨L, hLi, ⟨a8, c8, rfl⟩, hJ⟩ := HP.out.toJ
      have HJ := hid hJ
      clear hJ HP HF H10
      go_wp2_with fail
      go_loopw [14] (fun a wr => ∃ j : Nat, j ≤ n ∧ a = .int .i64 (j : Int) ∧ PsJ n L w0 (.slice a8 L c8) j wr) (fun a _ => n - (intOf a).toNat)
      case atStart => exact ⟨0, by omega, rfl, HJ.out⟩
      case round =>
        obtain ⟨j, hj, rfl, hJ2⟩ := hrel
        clear HJ
        have HJ := hid hJ2
        clear hJ2
        by_cases hgo : j < n ∧ 0 < L
        · obtain ⟨hjn, hL0⟩ := hgo
          have hjni : (j : Int) < (n : Int) := by omega
          have hL0i : (0 : Int) < (L : Int) := by omega
          obtain ⟨b2, o2, ha2, hcl⟩ := H20.out.1 (by rw [HN.out]; omega)
          subst ha2
          have hgi : sc[j]? = some (sc[j]'(by rw [HN.out]; omega)) := List.getElem?_eq_getElem _
          have hok := H20.out.2 _ (List.mem_of_getElem? hgi)
          have hcell := hcl j _ hgi
          generalize sc[j]'(by rw [HN.out]; omega) = x at *
          obtain ⟨wh, kd, xa, xb⟩ := x
          have k0 : wr.cell? ⟨b2, o2 + j * 4, none⟩ = some (.int .i64 wh) := cell_fr (hcell 0 _ rfl) HJ.out.f
          have k1 : wr.cell? ⟨b2, o2 + j * 4 + 1, none⟩ = some (.int .i64 kd) := cell_fr (hcell 1 _ rfl) HJ.out.f
          have k2 : wr.cell? ⟨b2, o2 + j * 4 + 2, none⟩ = some (.int .i64 xa) := cell_fr (hcell 2 _ rfl) HJ.out.f
          have k3 : wr.cell? ⟨b2, o2 + j * 4 + 3, none⟩ = some (.int .i64 xb) := cell_fr (hcell 3 _ rfl) HJ.out.f
          have HOKx := hid hok
          clear hok hcell hcl hgi
          go_upto_region 18 with fail
          have HBX := hid (heap_alloc_new wr (.cells #[.int .i64 wh, .int .i64 kd, .int .i64 xa, .int .i64 xb] 28))
          have HJA := hid (HJ.out.frF ((Fr.refl _ wr).alloc (.cells #[.int .i64 wh, .int .i64 kd, .int .i64 xa, .int .i64 xb] 28)))
          generalize wr.alloc (.cells #[.int .i64 wh, .int .i64 kd, .int .i64 xa, .int .i64 xb] 28) = wa at *
          generalize wr.heap.size = bx at *
          have HNX := hid HJA.out.skip
          have q1 : wa.cell? ⟨bx, 1, none⟩ = some (.int .i64 kd) := row_cell HBX.out 1
          clear k0 k1 k2 k3
          rcases (by omega : kd < 1 ∨ 8 < kd ∨ kd = 1 ∨ kd = 2 ∨ kd = 3 ∨ kd = 4 ∨ kd = 5 ∨ kd = 6 ∨ kd = 7 ∨ kd = 8) with h | h | rfl | rfl | rfl | rfl | rfl | rfl | rfl | rfl
          · go_wp2_with fail
            go_roundw
            case rel => exact ⟨j + 1, by omega, by go_num, HNX.out⟩
            case measure => simp [intOf]; omega
          · have h1 : ¬ kd < 1 := by omega
            go_wp2_with fail
            go_roundw
            case rel => exact ⟨j + 1, by omega, by go_num, HNX.out⟩
            case measure => simp [intOf]; omega
          · obtain ⟨hp0, hp1⟩ := pickM_bd wh L (by omega)
            obtain ⟨p, hp⟩ := Int.eq_ofNat_of_zero_le hp0
            rw [hp] at hp1
            have HPK := hid (fun w => lpick_any wh L w HOKx.out.1 (by omega) (by omega))
            rw [hp] at HPK
            obtain ⟨d, g8, c9, hv, hcg, hPd, hBd, hTd, hNX⟩ := HJA.out.at hl2 (by omega) p (by omega)
            cases hv
            have HST := hid (stepC_1 d wa.drew (hPd.frF (Fr.refl _ wa).drew) j hBd hTd wh xa xb HOKx.out.2.2.1 HOKx.out.2.2.2)
            have HNX2 := hid (fun w' hs => hNX w' (StepTo.back (Fr.refl _ wa).drew hs))
            unfold stepV at HST
            generalize d.P = dP at *
            have hp1n : p < L := by omega
            have r8 : wa.drew.cell? ⟨g8, p, none⟩ = some (.pointer (some ⟨dP, 0, none⟩)) := hcg
            have r0 : wa.drew.cell? ⟨bx, 0, none⟩ = some (.int .i64 wh) := row_cell HBX.out 0
            have r1 : wa.drew.cell? ⟨bx, 1, none⟩ = some (.int .i64 1) := row_cell HBX.out 1
            have r2 : wa.drew.cell? ⟨bx, 2, none⟩ = some (.int .i64 xa) := row_cell HBX.out 2
            have r3 : wa.drew.cell? ⟨bx, 3, none⟩ = some (.int .i64 xb) := row_cell HBX.out 3
            clear hcg hPd hBd hTd hNX hp hp0
            go_wp2_with fail
            go_region_law
              (first
                | (refine step_call Tryz.func14 (by kernel_rfl) (by kernel_rfl) (by rfl) (by rfl) [.int .i64 wh, .int .i64 L] (by rfl) ((HPK.out _).mono ?_); rintro e wy ⟨rfl, hwy⟩; obtain rfl := hwy.symm; refine ⟨_, rfl, ?_⟩)
                | (refine step_call Tryz.func39 (by kernel_rfl) (by kernel_rfl) (by rfl) (by rfl) [.pointer (some ⟨dP, 0, none⟩), .agg #[.int .i64 wh, .int .i64 1, .int .i64 xa, .int .i64 xb]] (by rfl) (HST.out.mono ?_); rintro e w2 ⟨rfl, hM⟩; have HN8 := hid (HNX2.out w2 hM); clear hM; refine ⟨_, rfl, ?_⟩))
            all_goals
              clear r8 r0 r1 r2 r3 q1
              go_wp2_with fail
              go_roundw
              case rel => exact ⟨j + 1, by omega, by go_num, HN8.out⟩
              case measure => simp [intOf]; omega
          · obtain ⟨hp0, hp1⟩ := pickM_bd wh L (by omega)
            obtain ⟨p, hp⟩ := Int.eq_ofNat_of_zero_le hp0
            rw [hp] at hp1
            have HPK := hid (fun w => lpick_any wh L w HOKx.out.1 (by omega) (by omega))
            rw [hp] at HPK
            obtain ⟨d, g8, c9, hv, hcg, hPd, hBd, hTd, hNX⟩ := HJA.out.at hl2 (by omega) p (by omega)
            cases hv
            have HST := hid (stepC_2 d wa.drew (hPd.frF (Fr.refl _ wa).drew) j hBd hTd wh xa xb HOKx.out.2.2.1 HOKx.out.2.2.2)
            have HNX2 := hid (fun w' hs => hNX w' (StepTo.back (Fr.refl _ wa).drew hs))
            unfold stepV at HST
            generalize d.P = dP at *
            have hp1n : p < L := by omega
            have r8 : wa.drew.cell? ⟨g8, p, none⟩ = some (.pointer (some ⟨dP, 0, none⟩)) := hcg
            have r0 : wa.drew.cell? ⟨bx, 0, none⟩ = some (.int .i64 wh) := row_cell HBX.out 0
            have r1 : wa.drew.cell? ⟨bx, 1, none⟩ = some (.int .i64 2) := row_cell HBX.out 1
            have r2 : wa.drew.cell? ⟨bx, 2, none⟩ = some (.int .i64 xa) := row_cell HBX.out 2
            have r3 : wa.drew.cell? ⟨bx, 3, none⟩ = some (.int .i64 xb) := row_cell HBX.out 3
            clear hcg hPd hBd hTd hNX hp hp0
            go_wp2_with fail
            go_region_law
              (first
                | (refine step_call Tryz.func14 (by kernel_rfl) (by kernel_rfl) (by rfl) (by rfl) [.int .i64 wh, .int .i64 L] (by rfl) ((HPK.out _).mono ?_); rintro e wy ⟨rfl, hwy⟩; obtain rfl := hwy.symm; refine ⟨_, rfl, ?_⟩)
                | (refine step_call Tryz.func39 (by kernel_rfl) (by kernel_rfl) (by rfl) (by rfl) [.pointer (some ⟨dP, 0, none⟩), .agg #[.int .i64 wh, .int .i64 2, .int .i64 xa, .int .i64 xb]] (by rfl) (HST.out.mono ?_); rintro e w2 ⟨rfl, hM⟩; have HN8 := hid (HNX2.out w2 hM); clear hM; refine ⟨_, rfl, ?_⟩))
            all_goals
              clear r8 r0 r1 r2 r3 q1
              go_wp2_with fail
              go_roundw
              case rel => exact ⟨j + 1, by omega, by go_num, HN8.out⟩
              case measure => simp [intOf]; omega
          · obtain ⟨hp0, hp1⟩ := pickM_bd wh L (by omega)
            obtain ⟨p, hp⟩ := Int.eq_ofNat_of_zero_le hp0
            rw [hp] at hp1
            have HPK := hid (fun w => lpick_any wh L w HOKx.out.1 (by omega) (by omega))
            rw [hp] at HPK
            obtain ⟨d, g8, c9, hv, hcg, hPd, hBd, hTd, hNX⟩ := HJA.out.at hl2 (by omega) p (by omega)
            cases hv
            have HST := hid (stepC_3 d wa.drew (hPd.frF (Fr.refl _ wa).drew) j hBd hTd wh xa xb HOKx.out.2.2.1 HOKx.out.2.2.2)
            have HNX2 := hid (fun w' hs => hNX w' (StepTo.back (Fr.refl _ wa).drew hs))
            unfold stepV at HST
            generalize d.P = dP at *
            have hp1n : p < L := by omega
            have r8 : wa.drew.cell? ⟨g8, p, none⟩ = some (.pointer (some ⟨dP, 0, none⟩)) := hcg
            have r0 : wa.drew.cell? ⟨bx, 0, none⟩ = some (.int .i64 wh) := row_cell HBX.out 0
            have r1 : wa.drew.cell? ⟨bx, 1, none⟩ = some (.int .i64 3) := row_cell HBX.out 1
            have r2 : wa.drew.cell? ⟨bx, 2, none⟩ = some (.int .i64 xa) := row_cell HBX.out 2
            have r3 : wa.drew.cell? ⟨bx, 3, none⟩ = some (.int .i64 xb) := row_cell HBX.out 3
            clear hcg hPd hBd hTd hNX hp hp0
            go_wp2_with fail
            go_region_law
              (first
                | (refine step_call Tryz.func14 (by kernel_rfl) (by kernel_rfl) (by rfl) (by rfl) [.int .i64 wh, .int .i64 L] (by rfl) ((HPK.out _).mono ?_); rintro e wy ⟨rfl, hwy⟩; obtain rfl := hwy.symm; refine ⟨_, rfl, ?_⟩)
                | (refine step_call Tryz.func39 (by kernel_rfl) (by kernel_rfl) (by rfl) (by rfl) [.pointer (some ⟨dP, 0, none⟩), .agg #[.int .i64 wh, .int .i64 3, .int .i64 xa, .int .i64 xb]] (by rfl) (HST.out.mono ?_); rintro e w2 ⟨rfl, hM⟩; have HN8 := hid (HNX2.out w2 hM); clear hM; refine ⟨_, rfl, ?_⟩))
            all_goals
              clear r8 r0 r1 r2 r3 q1
              go_wp2_with fail
              go_roundw
              case rel => exact ⟨j + 1, by omega, by go_num, HN8.out⟩
              case measure => simp [intOf]; omega
          · obtain ⟨hp0, hp1⟩ := pickM_bd wh L (by omega)
            obtain ⟨p, hp⟩ := Int.eq_ofNat_of_zero_le hp0
            rw [hp] at hp1
            have HPK := hid (fun w => lpick_any wh L w HOKx.out.1 (by omega) (by omega))
            rw [hp] at HPK
            obtain ⟨d, g8, c9, hv, hcg, hPd, hBd, hTd, hNX⟩ := HJA.out.at hl2 (by omega) p (by omega)
            cases hv
            have HST := hid (stepC_4 d wa.drew (hPd.frF (Fr.refl _ wa).drew) j hBd hTd wh xa xb HOKx.out.2.2.1 HOKx.out.2.2.2)
            have HNX2 := hid (fun w' hs => hNX w' (StepTo.back (Fr.refl _ wa).drew hs))
            unfold stepV at HST
            generalize d.P = dP at *
            have hp1n : p < L := by omega
            have r8 : wa.drew.cell? ⟨g8, p, none⟩ = some (.pointer (some ⟨dP, 0, none⟩)) := hcg
            have r0 : wa.drew.cell? ⟨bx, 0, none⟩ = some (.int .i64 wh) := row_cell HBX.out 0
            have r1 : wa.drew.cell? ⟨bx, 1, none⟩ = some (.int .i64 4) := row_cell HBX.out 1
            have r2 : wa.drew.cell? ⟨bx, 2, none⟩ = some (.int .i64 xa) := row_cell HBX.out 2
            have r3 : wa.drew.cell? ⟨bx, 3, none⟩ = some (.int .i64 xb) := row_cell HBX.out 3
            clear hcg hPd hBd hTd hNX hp hp0
            go_wp2_with fail
            go_region_law
              (first
                | (refine step_call Tryz.func14 (by kernel_rfl) (by kernel_rfl) (by rfl) (by rfl) [.int .i64 wh, .int .i64 L] (by rfl) ((HPK.out _).mono ?_); rintro e wy ⟨rfl, hwy⟩; obtain rfl := hwy.symm; refine ⟨_, rfl, ?_⟩)
                | (refine step_call Tryz.func39 (by kernel_rfl) (by kernel_rfl) (by rfl) (by rfl) [.pointer (some ⟨dP, 0, none⟩), .agg #[.int .i64 wh, .int .i64 4, .int .i64 xa, .int .i64 xb]] (by rfl) (HST.out.mono ?_); rintro e w2 ⟨rfl, hM⟩; have HN8 := hid (HNX2.out w2 hM); clear hM; refine ⟨_, rfl, ?_⟩))
            all_goals
              clear r8 r0 r1 r2 r3 q1
              go_wp2_with fail
              go_roundw
              case rel => exact ⟨j + 1, by omega, by go_num, HN8.out⟩
              case measure => simp [intOf]; omega
          · obtain ⟨hp0, hp1⟩ := pickM_bd wh L (by omega)
            obtain ⟨p, hp⟩ := Int.eq_ofNat_of_zero_le hp0
            rw [hp] at hp1
            have HPK := hid (fun w => lpick_any wh L w HOKx.out.1 (by omega) (by omega))
            rw [hp] at HPK
            obtain ⟨d, g8, c9, hv, hcg, hPd, hBd, hTd, hNX⟩ := HJA.out.at hl2 (by omega) p (by omega)
            cases hv
            have HST := hid (stepC_5 d wa.drew (hPd.frF (Fr.refl _ wa).drew) j hBd hTd wh xa xb HOKx.out.2.2.1 HOKx.out.2.2.2)
            have HNX2 := hid (fun w' hs => hNX w' (StepTo.back (Fr.refl _ wa).drew hs))
            unfold stepV at HST
            generalize d.P = dP at *
            have hp1n : p < L := by omega
            have r8 : wa.drew.cell? ⟨g8, p, none⟩ = some (.pointer (some ⟨dP, 0, none⟩)) := hcg
            have r0 : wa.drew.cell? ⟨bx, 0, none⟩ = some (.int .i64 wh) := row_cell HBX.out 0
            have r1 : wa.drew.cell? ⟨bx, 1, none⟩ = some (.int .i64 5) := row_cell HBX.out 1
            have r2 : wa.drew.cell? ⟨bx, 2, none⟩ = some (.int .i64 xa) := row_cell HBX.out 2
            have r3 : wa.drew.cell? ⟨bx, 3, none⟩ = some (.int .i64 xb) := row_cell HBX.out 3
            clear hcg hPd hBd hTd hNX hp hp0
            go_wp2_with fail
            go_region_law
              (first
                | (refine step_call Tryz.func14 (by kernel_rfl) (by kernel_rfl) (by rfl) (by rfl) [.int .i64 wh, .int .i64 L] (by rfl) ((HPK.out _).mono ?_); rintro e wy ⟨rfl, hwy⟩; obtain rfl := hwy.symm; refine ⟨_, rfl, ?_⟩)
                | (refine step_call Tryz.func39 (by kernel_rfl) (by kernel_rfl) (by rfl) (by rfl) [.pointer (some ⟨dP, 0, none⟩), .agg #[.int .i64 wh, .int .i64 5, .int .i64 xa, .int .i64 xb]] (by rfl) (HST.out.mono ?_); rintro e w2 ⟨rfl, hM⟩; have HN8 := hid (HNX2.out w2 hM); clear hM; refine ⟨_, rfl, ?_⟩))
            all_goals
              clear r8 r0 r1 r2 r3 q1
              go_wp2_with fail
              go_roundw
              case rel => exact ⟨j + 1, by omega, by go_num, HN8.out⟩
              case measure => simp [intOf]; omega
          · obtain ⟨hp0, hp1⟩ := pickM_bd wh L (by omega)
            obtain ⟨p, hp⟩ := Int.eq_ofNat_of_zero_le hp0
            rw [hp] at hp1
            have HPK := hid (fun w => lpick_any wh L w HOKx.out.1 (by omega) (by omega))
            rw [hp] at HPK
            obtain ⟨d, g8, c9, hv, hcg, hPd, hBd, hTd, hNX⟩ := HJA.out.at hl2 (by omega) p (by omega)
            cases hv
            have HST := hid (stepC_6 d wa.drew (hPd.frF (Fr.refl _ wa).drew) j hBd hTd wh xa xb HOKx.out.2.2.1 HOKx.out.2.2.2)
            have HNX2 := hid (fun w' hs => hNX w' (StepTo.back (Fr.refl _ wa).drew hs))
            unfold stepV at HST
            generalize d.P = dP at *
            have hp1n : p < L := by omega
            have r8 : wa.drew.cell? ⟨g8, p, none⟩ = some (.pointer (some ⟨dP, 0, none⟩)) := hcg
            have r0 : wa.drew.cell? ⟨bx, 0, none⟩ = some (.int .i64 wh) := row_cell HBX.out 0
            have r1 : wa.drew.cell? ⟨bx, 1, none⟩ = some (.int .i64 6) := row_cell HBX.out 1
            have r2 : wa.drew.cell? ⟨bx, 2, none⟩ = some (.int .i64 xa) := row_cell HBX.out 2
            have r3 : wa.drew.cell? ⟨bx, 3, none⟩ = some (.int .i64 xb) := row_cell HBX.out 3
            clear hcg hPd hBd hTd hNX hp hp0
            go_wp2_with fail
            go_region_law
              (first
                | (refine step_call Tryz.func14 (by kernel_rfl) (by kernel_rfl) (by rfl) (by rfl) [.int .i64 wh, .int .i64 L] (by rfl) ((HPK.out _).mono ?_); rintro e wy ⟨rfl, hwy⟩; obtain rfl := hwy.symm; refine ⟨_, rfl, ?_⟩)
                | (refine step_call Tryz.func39 (by kernel_rfl) (by kernel_rfl) (by rfl) (by rfl) [.pointer (some ⟨dP, 0, none⟩), .agg #[.int .i64 wh, .int .i64 6, .int .i64 xa, .int .i64 xb]] (by rfl) (HST.out.mono ?_); rintro e w2 ⟨rfl, hM⟩; have HN8 := hid (HNX2.out w2 hM); clear hM; refine ⟨_, rfl, ?_⟩))
            all_goals
              clear r8 r0 r1 r2 r3 q1
              go_wp2_with fail
              go_roundw
              case rel => exact ⟨j + 1, by omega, by go_num, HN8.out⟩
              case measure => simp [intOf]; omega
          · obtain ⟨hp0, hp1⟩ := pickM_bd wh L (by omega)
            obtain ⟨p, hp⟩ := Int.eq_ofNat_of_zero_le hp0
            rw [hp] at hp1
            have HPK := hid (fun w => lpick_any wh L w HOKx.out.1 (by omega) (by omega))
            rw [hp] at HPK
            obtain ⟨d, g8, c9, hv, hcg, hPd, hBd, hTd, hNX⟩ := HJA.out.at hl2 (by omega) p (by omega)
            cases hv
            have HST := hid (stepC_7 d wa.drew (hPd.frF (Fr.refl _ wa).drew) j hBd hTd wh xa xb HOKx.out.2.2.1 HOKx.out.2.2.2)
            have HNX2 := hid (fun w' hs => hNX w' (StepTo.back (Fr.refl _ wa).drew hs))
            unfold stepV at HST
            generalize d.P = dP at *
            have hp1n : p < L := by omega
            have r8 : wa.drew.cell? ⟨g8, p, none⟩ = some (.pointer (some ⟨dP, 0, none⟩)) := hcg
            have r0 : wa.drew.cell? ⟨bx, 0, none⟩ = some (.int .i64 wh) := row_cell HBX.out 0
            have r1 : wa.drew.cell? ⟨bx, 1, none⟩ = some (.int .i64 7) := row_cell HBX.out 1
            have r2 : wa.drew.cell? ⟨bx, 2, none⟩ = some (.int .i64 xa) := row_cell HBX.out 2
            have r3 : wa.drew.cell? ⟨bx, 3, none⟩ = some (.int .i64 xb) := row_cell HBX.out 3
            clear hcg hPd hBd hTd hNX hp hp0
            go_wp2_with fail
            go_region_law
              (first
                | (refine step_call Tryz.func14 (by kernel_rfl) (by kernel_rfl) (by rfl) (by rfl) [.int .i64 wh, .int .i64 L] (by rfl) ((HPK.out _).mono ?_); rintro e wy ⟨rfl, hwy⟩; obtain rfl := hwy.symm; refine ⟨_, rfl, ?_⟩)
                | (refine step_call Tryz.func39 (by kernel_rfl) (by kernel_rfl) (by rfl) (by rfl) [.pointer (some ⟨dP, 0, none⟩), .agg #[.int .i64 wh, .int .i64 7, .int .i64 xa, .int .i64 xb]] (by rfl) (HST.out.mono ?_); rintro e w2 ⟨rfl, hM⟩; have HN8 := hid (HNX2.out w2 hM); clear hM; refine ⟨_, rfl, ?_⟩))
            all_goals
              clear r8 r0 r1 r2 r3 q1
              go_wp2_with fail
              go_roundw
              case rel => exact ⟨j + 1, by omega, by go_num, HN8.out⟩
              case measure => simp [intOf]; omega
          · obtain ⟨hp0, hp1⟩ := pickM_bd wh L (by omega)
            obtain ⟨p, hp⟩ := Int.eq_ofNat_of_zero_le hp0
            rw [hp] at hp1
            have HPK := hid (fun w => lpick_any wh L w HOKx.out.1 (by omega) (by omega))
            rw [hp] at HPK
            obtain ⟨d, g8, c9, hv, hcg, hPd, hBd, hTd, hNX⟩ := HJA.out.at hl2 (by omega) p (by omega)
            cases hv
            have HST := hid (stepC_8 d wa.drew (hPd.frF (Fr.refl _ wa).drew) j hBd hTd wh xa xb HOKx.out.2.2.1 HOKx.out.2.2.2)
            have HNX2 := hid (fun w' hs => hNX w' (StepTo.back (Fr.refl _ wa).drew hs))
            unfold stepV at HST
            generalize d.P = dP at *
            have hp1n : p < L := by omega
            have r8 : wa.drew.cell? ⟨g8, p, none⟩ = some (.pointer (some ⟨dP, 0, none⟩)) := hcg
            have r0 : wa.drew.cell? ⟨bx, 0, none⟩ = some (.int .i64 wh) := row_cell HBX.out 0
            have r1 : wa.drew.cell? ⟨bx, 1, none⟩ = some (.int .i64 8) := row_cell HBX.out 1
            have r2 : wa.drew.cell? ⟨bx, 2, none⟩ = some (.int .i64 xa) := row_cell HBX.out 2
            have r3 : wa.drew.cell? ⟨bx, 3, none⟩ = some (.int .i64 xb) := row_cell HBX.out 3
            clear hcg hPd hBd hTd hNX hp hp0
            go_wp2_with fail
            go_region_law
              (first
                | (refine step_call Tryz.func14 (by kernel_rfl) (by kernel_rfl) (by rfl) (by rfl) [.int .i64 wh, .int .i64 L] (by rfl) ((HPK.out _).mono ?_); rintro e wy ⟨rfl, hwy⟩; obtain rfl := hwy.symm; refine ⟨_, rfl, ?_⟩)
                | (refine step_call Tryz.func39 (by kernel_rfl) (by kernel_rfl) (by rfl) (by rfl) [.pointer (some ⟨dP, 0, none⟩), .agg #[.int .i64 wh, .int .i64 8, .int .i64 xa, .int .i64 xb]] (by rfl) (HST.out.mono ?_); rintro e w2 ⟨rfl, hM⟩; have HN8 := hid (HNX2.out w2 hM); clear hM; refine ⟨_, rfl, ?_⟩))
            all_goals
              clear r8 r0 r1 r2 r3 q1
              go_wp2_with fail
              go_roundw
              case rel => exact ⟨j + 1, by omega, by go_num, HN8.out⟩
              case measure => simp [intOf]; omega
        · have hL17 : L ≤ 17592186044415 := by omega
          rcases (by omega : n ≤ j ∨ (j < n ∧ L = 0)) with hx | ⟨hx, hL0⟩
          · have hjni : ¬ (j : Int) < (n : Int) := by omega
            clear hgo
            go_wp2_with fail
            go_loopw [17] (fun a wr => ∃ k : Nat, k ≤ L ∧ a = .int .i64 (k : Int) ∧ PsJ n L w0 (.slice a8 L c8) j wr) (fun a _ => L - (intOf a).toNat)
            case atStart => exact ⟨0, by omega, rfl, HJ.out⟩
            case round =>
              obtain ⟨k, hk, rfl, hJ2⟩ := hrel
              clear HJ
              have HJ := hid hJ2
              clear hJ2
              by_cases hlt3 : k < L
              · have hlt3i : (k : Int) < (L : Int) := by omega
                obtain ⟨d, g8, c9, hv, hcg, hPd, hBd, hTd, hNX⟩ := HJ.out.at hl2 hj k hlt3
                cases hv
                have HLK := hid (hPd.looks (by have := hBd.1; omega) true (fun _ w1 hf1 i => log_any hPd hBd hTd hf1 i))
                generalize d.P = dP at *
                clear hPd hBd hTd hNX
                go_wp2_with fail
                refine HLK.out.mono ?_
                rintro e w5 ⟨rfl, hf5⟩
                have HJ5 := hid (HJ.out.frF hf5)
                clear hf5
                go_wp2_with fail
                go_roundw
                case rel => exact ⟨k + 1, by omega, by go_num, HJ5.out⟩
                case measure => simp [intOf]; omega
              · have hlt3i : ¬ (k : Int) < (L : Int) := by omega
                go_wp2_with fail
                go_ret
                exact ⟨rfl, HF0.out.step HJ.out.f (fun _ h => .inl h)⟩
          · have hjni : (j : Int) < (n : Int) := by omega
            have hL0i : ¬ (0 : Int) < (L : Int) := by omega
            clear hgo
            go_wp2_with fail
            go_loopw [17] (fun a wr => ∃ k : Nat, k ≤ L ∧ a = .int .i64 (k : Int) ∧ PsJ n L w0 (.slice a8 L c8) j wr) (fun a _ => L - (intOf a).toNat)
            case atStart => exact ⟨0, by omega, rfl, HJ.out⟩
            case round =>
              obtain ⟨k, hk, rfl, hJ2⟩ := hrel
              clear HJ
              have HJ := hid hJ2
              clear hJ2
              by_cases hlt3 : k < L
              · omega
              · have hlt3i : ¬ (k : Int) < (L : Int) := by omega
                go_wp2_with fail
                go_ret
                exact ⟨rfl, HF0.out.step HJ.out.f (fun _ h => .inl h)⟩

end Go.Proofs.YthmcheoehcmglaaGreat
