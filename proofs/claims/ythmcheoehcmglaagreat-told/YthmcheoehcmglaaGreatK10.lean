/- The statements' own functions (wardskeep): image with one wire. -/
import Derived.Test.YthmcheoehcmglaaGreatK7
import Derived.Deep.RegionHeld3
namespace Go.Proofs.YthmcheoehcmglaaGreat
open Go.RowKit
set_option linter.unusedVariables false
attribute [local go_sem ↓] Go.wp_at_zero Go.wp_at_succ

theorem kernel_w1 (w : World) (a b : Option Addr) (n c d : Nat) (hn : n ≤ 4) :
    Calls Tryz.prog 43 #[.slice a n c, .slice b 1 d] w fun e w' => e = .returned (.int .i64 (18 + 16 * n)) ∧ w' = w := by
  refine (kernel_any w a b n c 1 d hn (by omega)).mono ?_
  rintro e w' ⟨rfl, rfl⟩
  exact ⟨by rw [show (16 + 16 * (n : Int) + 2 * ((1 : Nat) : Int)) = 18 + 16 * n by omega], rfl⟩

attribute [local go_sem] mk_app lowB_len
set_option maxRecDepth 100000 in
set_option maxHeartbeats 4000000 in
theorem image_w1 (w : World) (gap : Int) (hg : I64 gap) (g o n c : Nat) (l : List (Int × List Int)) (h : WdsAt w g o n c l) (n1 : 1 ≤ n) (n4 : n ≤ 4) (gw cw : Nat) (f u : Int) (hcf : w.cell? ⟨gw, 0, none⟩ = some (.int .i64 f)) (hcu : w.cell? ⟨gw, 1, none⟩ = some (.int .i64 u)) (hf64 : I64 f) (hu64 : I64 u) :
    Calls Tryz.prog 20 #[.int .i64 gap, .slice (some ⟨g, o, none⟩) n c, .slice (some ⟨gw, 0, none⟩) 1 cw] w fun e w' => e = .returned (.string ⟨(headB gap n 1 ++ (List.range n).flatMap (fun k : Nat => wardB (18 + 16 * n) k (l.getD k (0, [])).1 (l.getD k (0, [])).2) ++ (lowB f 1 ++ lowB u 1) ++ (List.range n).flatMap (fun k : Nat => lowB (k : Int) 1)).toArray⟩) ∧ Fr (fun _ => False) w w' := by
  have H := hid h
  have HGP := hid hg
  have HF : Hid (Fr (fun _ => False) w w) := Fr.refl _ _
  have hnn : I64 (n : Int) := by unfold I64; omega
  have HNN := hid hnn
  have hgw := withinM_bd gap 1 16 (by omega)
  have HGW : Hid (I64 (withinM gap 1 16)) := by unfold Hid I64; omega
  have HZ : Hid (I64 0) := by unfold Hid I64; omega
  have HZ1 : Hid (I64 1024) := by unfold Hid I64; omega
  have HCF := hid hcf
  have HCU := hid hcu
  have HF64 := hid hf64
  have HU64 := hid hu64
  have HONE : Hid (I64 1) := by unfold Hid I64; omega
  clear h hg hnn hcf hcu hf64 hu64
  go_enter Tryz.func20, Tryz.ntmps20
  go_wp2_with fail
  refine (bytes1 _ _ HNN.out).mono ?_
  rintro e w1 ⟨rfl, hf⟩
  replace HF := hid (HF.out.step hf (fun _ h => .inl h))
  clear hf
  go_wp2_with fail
  refine (kwithin_any _ _ _ _ HGP.out (by omega) (by omega) (by omega)).mono ?_
  rintro e w1 ⟨rfl, rfl⟩
  go_wp2_with fail
  refine (bytes1 _ _ HGW.out).mono ?_
  rintro e w1 ⟨rfl, hf⟩
  replace HF := hid (HF.out.step hf (fun _ h => .inl h))
  clear hf
  go_wp2_with fail
  refine (bytes2 _ _ HZ1.out).mono ?_
  rintro e w1 ⟨rfl, hf⟩
  replace HF := hid (HF.out.step hf (fun _ h => .inl h))
  clear hf
  go_wp2_with fail
  refine (bytes1 _ _ HONE.out).mono ?_
  rintro e w1 ⟨rfl, hf⟩
  replace HF := hid (HF.out.step hf (fun _ h => .inl h))
  clear hf
  go_wp2_with fail
  refine (bytes1 _ _ HNN.out).mono ?_
  rintro e w1 ⟨rfl, hf⟩
  replace HF := hid (HF.out.step hf (fun _ h => .inl h))
  clear hf
  go_wp2_with fail
  have HHD : Hid (lowB (n : Int) 1 ++ (lowB (withinM gap 1 16) 1 ++ (lowB 1024 2 ++ (lowB 1 1 ++ lowB (n : Int) 1))) = headB gap n 1) := by unfold Hid headB; simp only [List.append_assoc]; rfl
  go_loopw [7, 8] (fun a b wr => ∃ k : Nat, k ≤ n ∧ b = .int .i64 k ∧ ∃ acc : List UInt8, a = .string ⟨acc.toArray⟩ ∧ AccIs acc (headB gap n 1 ++ (List.range k).flatMap (fun k : Nat => wardB (18 + 16 * n) k (l.getD k (0, [])).1 (l.getD k (0, [])).2)) (6 + 300 * k) ∧ Fr (fun _ => False) w wr) (fun _ b _ => n - (intOf b).toNat)
  case atStart => exact ⟨0, Nat.zero_le _, rfl, _, rfl, ⟨by rw [HHD.out]; simp, by simp [lowB_len]⟩, HF.out⟩
  case round =>
    obtain ⟨k, hk, rfl, acc, rfl, hacc, hf⟩ := hrel
    clear HHD
    have HAC := hid hacc
    have hal := hacc.2
    replace HF := hid hf
    clear hacc hf
    by_cases hlt : k < n
    · have hlti : (k : Int) < (n : Int) := by omega
      have hlk : k < l.length := by rw [H.out.len]; exact hlt
      obtain ⟨⟨q, ws⟩, hqw⟩ : ∃ p, l[k]? = some p := ⟨_, List.getElem?_eq_getElem hlk⟩
      obtain ⟨hcq, vw, hcw, hin⟩ := H.out.el k q ws hqw
      have cq : wr.cell? ⟨g, o + k * 2, none⟩ = some (.int .i64 q) := cell_fr hcq HF.out
      obtain ⟨aw, cw, hvw, hlc, hcc, hrd⟩ := hin
      have HRD := hid hrd
      subst hvw
      have cwd : wr.cell? ⟨g, o + k * 2 + 1, none⟩ = some (.slice aw ws.length cw) := cell_fr hcw HF.out
      have hok := H.out.ok q ws (List.mem_of_getElem? hqw)
      have HQW := hid hqw
      have HOQ := hid hok.1
      have HOW := hid hok.2
      clear hcq hcw hrd hqw hok
      have hqb := withinM_bd q 1 64 (by omega)
      have HWQ : Hid (I64 (withinM q 1 64)) := by unfold Hid I64; omega
      have HO1 : Hid (I64 1) := by unfold Hid I64; omega
      have HO7 : Hid (I64 7) := by unfold Hid I64; omega
      have HO64 : Hid (I64 64) := by unfold Hid I64; omega
      have HKK : Hid (I64 (18 + 16 * (n : Int) + 64 * (k : Int))) := by unfold Hid I64; omega
      obtain ⟨W, hW⟩ : ∃ W, ws.take 64 = W := ⟨_, rfl⟩
      have hl64 : W.length ≤ 64 := by rw [← hW, List.length_take]; omega
      have HLW : Hid (I64 (W.length : Int)) := by unfold Hid I64; omega
      have HW := hid hW
      clear hW
      rcases Nat.lt_or_ge 64 ws.length with hw | hw
      case' inl =>
        have hwi : (64 : Int) < (ws.length : Int) := by omega
        have hcw : (64 : Int) ≤ (cw : Int) := by omega
        have HE9 : Hid (Value.slice aw 64 cw = Value.slice aw W.length cw) := by unfold Hid; rw [← HW.out, List.length_take, Nat.min_eq_left (by omega)]
        go_upto_region 8 with fail
        rw [HE9.out]
        clear HE9 hwi hcw
      case' inr =>
        have hwi : ¬ ((64 : Int) < (ws.length : Int)) := by omega
        have HE9 : Hid (Value.slice aw ws.length cw = Value.slice aw W.length cw) := by unfold Hid; rw [← HW.out, List.take_of_length_le hw]
        go_upto_region 8 with fail
        rw [HE9.out]
        clear HE9 hwi
      all_goals
        go_wp2_with fail
        refine (kwithin_any _ _ _ _ HOQ.out (by omega) (by omega) (by omega)).mono ?_
        rintro e w1 ⟨rfl, rfl⟩
        clear cq cwd
        go_wp2_with fail
        refine (bytes1 _ _ HWQ.out).mono ?_
        rintro e w1 ⟨rfl, hf⟩
        replace HF := hid (HF.out.step hf (fun _ h => .inl h))
        clear hf
        go_wp2_with fail
        refine (bytes1 _ _ HO1.out).mono ?_
        rintro e w1 ⟨rfl, hf⟩
        replace HF := hid (HF.out.step hf (fun _ h => .inl h))
        clear hf
        go_wp2_with fail
        refine (bytes2 _ _ HZ.out).mono ?_
        rintro e w1 ⟨rfl, hf⟩
        replace HF := hid (HF.out.step hf (fun _ h => .inl h))
        clear hf
        go_wp2_with fail
        refine (bytes2 _ _ HZ.out).mono ?_
        rintro e w1 ⟨rfl, hf⟩
        replace HF := hid (HF.out.step hf (fun _ h => .inl h))
        clear hf
        go_wp2_with fail
        refine (bytes2 _ _ HO64.out).mono ?_
        rintro e w1 ⟨rfl, hf⟩
        replace HF := hid (HF.out.step hf (fun _ h => .inl h))
        clear hf
        go_wp2_with fail
        refine (kernel_w1 _ _ _ n c _ n4).mono ?_
        rintro e w1 ⟨rfl, rfl⟩
        go_wp2_with fail
        refine (bytes2 _ _ HKK.out).mono ?_
        rintro e w1 ⟨rfl, hf⟩
        replace HF := hid (HF.out.step hf (fun _ h => .inl h))
        clear hf
        go_wp2_with fail
        refine (bytes1 _ _ HO7.out).mono ?_
        rintro e w1 ⟨rfl, hf⟩
        replace HF := hid (HF.out.step hf (fun _ h => .inl h))
        clear hf
        go_wp2_with fail
        refine (bytes2 _ _ HLW.out).mono ?_
        rintro e w1 ⟨rfl, hf⟩
        replace HF := hid (HF.out.step hf (fun _ h => .inl h))
        clear hf
        go_wp2_with fail
        generalize hbase : acc ++ (lowB (withinM q 1 64) 1 ++ (lowB 1 1 ++ (lowB 0 2 ++ (lowB 0 2 ++ (lowB 64 2 ++ (lowB (18 + 16 * (n : Int) + 64 * (k : Int)) 2 ++ (lowB 7 1 ++ lowB (W.length : Int) 2))))))) = base
        have hbl : base.length ≤ 19 + 300 * k := by rw [← hbase]; simp only [List.length_append, lowB_len]; omega
        have HBS := hid hbase
        clear hbase
        go_loopw [7, 10] (fun a b wq => ∃ i : Nat, i ≤ W.length ∧ b = .int .i64 i ∧ ∃ acc2 : List UInt8, a = .string ⟨acc2.toArray⟩ ∧ AccIs acc2 (base ++ (W.take i).flatMap (fun x => lowB x 4)) (19 + 300 * k + 4 * i) ∧ Fr (fun _ => False) w wq) (fun _ b _ => W.length - (intOf b).toNat)
        case atStart => exact ⟨0, Nat.zero_le _, rfl, base, rfl, ⟨by simp, by omega⟩, HF.out⟩
        case round =>
          obtain ⟨i, hi, rfl, acc2, rfl, hacc2, hf2⟩ := hrel
          have HAC2 := hid hacc2
          have hal2 := hacc2.2
          replace HF := hid hf2
          clear hacc2 hf2
          by_cases hil : i < W.length
          · have hili : (i : Int) < (W.length : Int) := by omega
            obtain ⟨x, hx⟩ : ∃ x, W[i]? = some x := ⟨_, List.getElem?_eq_getElem hil⟩
            have hxw : ws[i]? = some x := by rw [← HW.out, List.getElem?_take, if_pos (by omega)] at hx; exact hx
            have hwl : 1 ≤ ws.length := by have := (List.getElem?_eq_some_iff.1 hxw).1; omega
            obtain ⟨wb, wo, hawe, hcell⟩ := HRD.out hwl
            subst hawe
            have cx : wr.cell? ⟨wb, wo + i, none⟩ = some (.int .i64 x) := cell_fr (hcell i x hxw) HF.out
            have HXB := hid (HOW.out x (List.mem_of_getElem? hxw))
            have HX := hid hx
            clear hcell hx hxw
            go_wp2_with fail
            refine (bytes4 _ _ HXB.out).mono ?_
            rintro e w1 ⟨rfl, hf⟩
            replace HF := hid (HF.out.step hf (fun _ h => .inl h))
            clear hf cx
            go_wp2_with fail
            go_roundw
            case rel =>
              refine ⟨i + 1, by omega, by go_num, _, rfl, ⟨?_, ?_⟩, HF.out⟩
              · rw [HAC2.out.1, List.take_add_one, HX.out]; simp
              · simp only [List.length_append, lowB_len]; omega
            case measure => simp [intOf]; omega
          · obtain rfl : i = W.length := by omega
            have hili : ¬ ((W.length : Int) < (W.length : Int)) := by omega
            go_wp2_with fail
            go_roundw
            case rel =>
              refine ⟨k + 1, by omega, by go_num, acc2, rfl, ⟨?_, by omega⟩, HF.out⟩
              rw [HAC2.out.1, List.take_length, ← HBS.out, HAC.out.1, List.range_succ, List.flatMap_append, List.flatMap_cons, List.flatMap_nil, List.append_nil, List.getD_eq_getElem?_getD, HQW.out, ← HW.out]
              simp only [Option.getD_some, wardB, List.append_assoc]
            case measure => simp [intOf]; omega
    · obtain rfl : k = n := by omega
      have hlti : ¬ ((k : Int) < (k : Int)) := by omega
      go_wp2_with fail
      go_loopw [7, 11] (fun a b wq => ∃ j : Nat, j ≤ 1 ∧ b = .int .i64 j ∧ ∃ acc1 : List UInt8, a = .string ⟨acc1.toArray⟩ ∧ AccIs acc1 (acc ++ if j = 0 then [] else (lowB f 1 ++ lowB u 1)) (8 + 300 * k) ∧ Fr (fun _ => False) w wq) (fun _ b _ => 1 - (intOf b).toNat)
      case atStart => exact ⟨0, Nat.zero_le _, rfl, acc, rfl, ⟨by simp, by omega⟩, HF.out⟩
      case round =>
       obtain ⟨j, hj, rfl, acc1, rfl, hacc1, hf3⟩ := hrel
       replace HF := hid hf3
       clear hf3
       have HAC1 := hid hacc1
       have hal1 := hacc1.2
       clear hacc1
       rcases (show j = 0 ∨ j = 1 by omega) with hj0 | hj1
       · subst hj0
         have cf : wr.cell? ⟨gw, 0, none⟩ = some (.int .i64 f) := cell_fr HCF.out HF.out
         have cu : ∀ w2, Fr (fun _ => False) wr w2 → w2.cell? ⟨gw, 1, none⟩ = some (.int .i64 u) := fun w2 h2 => cell_fr (cell_fr HCU.out HF.out) h2
         have HCU2 := hid cu
         clear cu
         have cu0 := HCU2.out wr (Fr.refl _ _)
         have hs1 : ¬ 9223372036854775807 < acc1.length + 1 := by omega
         have hs2 : ¬ 9223372036854775807 < acc1.length + 1 + 1 := by omega
         have hs3 : ¬ 9223372036854775807 < acc1.length + (1 + 1) := by omega
         have hs4 : acc1.length + 1 ≤ 9223372036854775807 := by omega
         have hs5 : acc1.length + 1 + 1 ≤ 9223372036854775807 := by omega
         go_wp2_with fail
         go_region_held3 (fun w' => w'.cell? ⟨gw, 0, none⟩ = some (.int .i64 f) ∧ w'.cell? ⟨gw, 1, none⟩ = some (.int .i64 u))
           (go_keep)
           (first
             | (go_at_call 32; first
               | (have hq := hf6; refine (bytes1 u _ HU64.out).mono ?_; rintro e w7 ⟨rfl, hf7⟩; have cf7 := cell_fr cf6 hf7; have cu7 := cell_fr cu6 hf7)
               | (refine (bytes1 f _ HF64.out).mono ?_; rintro e w6 ⟨rfl, hf6⟩; have cf6 := cell_fr cf hf6.undrew; have cu6 := cell_fr cu0 hf6.undrew)))
         all_goals
           replace HF := hid ((HF.out.step hf6.undrew (fun _ h => .inl h)).step hf7 (fun _ h => .inl h))
           clear hf6 hf7 cf6 cu6 cf7 cu7 cf cu0
           go_wp2_with fail
           go_roundw
           case rel =>
             refine ⟨1, by omega, by go_num, _, rfl, ⟨?_, ?_⟩, HF.out⟩
             · rw [HAC1.out.1]; simp
             · have := congrArg List.length HAC1.out.1
               simp only [List.length_append, lowB_len, if_true, List.length_nil] at this ⊢; omega
           case measure => simp [intOf]
       · subst hj1
         rw [show ((1 : Nat) : Int) = 1 from rfl]
         go_wp2_with fail
         go_loopw [7, 12] (fun a b wq => ∃ d : Nat, d ≤ k ∧ b = .int .i64 d ∧ ∃ acc2 : List UInt8, a = .string ⟨acc2.toArray⟩ ∧ AccIs acc2 (acc1 ++ (List.range d).flatMap (fun k : Nat => lowB (k : Int) 1)) (8 + 300 * k + d) ∧ Fr (fun _ => False) w wq) (fun _ b _ => k - (intOf b).toNat)
         case atStart => exact ⟨0, Nat.zero_le _, rfl, acc1, rfl, ⟨by simp, by omega⟩, HF.out⟩
         case round =>
           obtain ⟨d, hd, rfl, acc2, rfl, hacc2, hf2⟩ := hrel
           have HAC2 := hid hacc2
           have hal2 := hacc2.2
           replace HF := hid hf2
           clear hacc2 hf2
           by_cases hdl : d < k
           · have hdli : (d : Int) < (k : Int) := by omega
             have HDB : Hid (I64 (d : Int)) := by unfold Hid I64; omega
             go_wp2_with fail
             refine (bytes1 _ _ HDB.out).mono ?_
             rintro e w1 ⟨rfl, hf⟩
             replace HF := hid (HF.out.step hf (fun _ h => .inl h))
             clear hf
             go_wp2_with fail
             go_roundw
             case rel =>
               refine ⟨d + 1, by omega, by go_num, _, rfl, ⟨?_, ?_⟩, HF.out⟩
               · rw [HAC2.out.1, List.range_succ]; simp
               · simp only [List.length_append, lowB_len]; omega
             case measure => simp [intOf]; omega
           · obtain rfl : d = k := by omega
             have hdli : ¬ ((d : Int) < (d : Int)) := by omega
             go_wp2_with fail
             go_ret
             refine ⟨?_, HF.out⟩
             show Ending.returned (Value.string ⟨acc2.toArray⟩) = _
             rw [HAC2.out.1, HAC1.out.1, if_neg (by omega), HAC.out.1]
             simp only [List.append_assoc, List.getD_eq_getElem?_getD]

end Go.Proofs.YthmcheoehcmglaaGreat
