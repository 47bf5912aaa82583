/- The statements' own functions (wardskeep): image. -/
import Derived.Test.YthmcheoehcmglaaGreatK1
namespace Go.Proofs.YthmcheoehcmglaaGreat
open Go.RowKit
set_option linter.unusedVariables false
attribute [local go_sem ↓] Go.wp_at_zero Go.wp_at_succ

theorem mk_app (a b : List UInt8) : (⟨a.toArray⟩ : ByteArray) ++ ⟨b.toArray⟩ = ⟨(a ++ b).toArray⟩ := by simp [ByteArray.mk_append_mk]

theorem cell_fr {w w' : World} {p : Addr} {v : Value} (h : w.cell? p = some v) (hf : Fr (fun _ => False) w w') : w'.cell? p = some v := by
  rw [← h]
  exact World.cell?_of_block (hf.block p.block (World.block_lt_of_cell? w _ h) id)
theorem bytes1 (v : Int) (w : World) (hv : I64 v) : Calls Tryz.prog 32 #[.int .i64 v, .int .i64 1] w fun e w' => e = .returned (.string ⟨(lowB v 1).toArray⟩) ∧ Fr (fun _ => False) w w' := bytes_any v 1 w hv (by omega)
theorem bytes2 (v : Int) (w : World) (hv : I64 v) : Calls Tryz.prog 32 #[.int .i64 v, .int .i64 2] w fun e w' => e = .returned (.string ⟨(lowB v 2).toArray⟩) ∧ Fr (fun _ => False) w w' := bytes_any v 2 w hv (by omega)
theorem bytes4 (v : Int) (w : World) (hv : I64 v) : Calls Tryz.prog 32 #[.int .i64 v, .int .i64 4] w fun e w' => e = .returned (.string ⟨(lowB v 4).toArray⟩) ∧ Fr (fun _ => False) w w' := bytes_any v 4 w hv (by omega)

/-- A slice of integers that can be read. -/
def IntsAt (w : World) (v : Value) (ws : List Int) : Prop := ∃ a c, v = .slice a ws.length c ∧ ws.length ≤ c ∧ c ≤ 9223372036854775807 ∧ (1 ≤ ws.length → ∃ b o, a = some ⟨b, o, none⟩ ∧ ∀ i x, ws[i]? = some x → w.cell? ⟨b, o + i, none⟩ = some (.int .i64 x))
theorem IntsAt.fr {w w' : World} {v : Value} {ws : List Int} (h : IntsAt w v ws) (hf : Fr (fun _ => False) w w') : IntsAt w' v ws := by
  obtain ⟨a, c, h1, h2, h3, h4⟩ := h
  refine ⟨a, c, h1, h2, h3, fun hl => ?_⟩
  obtain ⟨b, o, h5, h6⟩ := h4 hl
  refine ⟨b, o, h5, fun i x hx => ?_⟩
  have := h6 i x hx
  rw [← this]
  exact World.cell?_of_block (hf.block b (World.block_lt_of_cell? w _ this) id)
/-- A slice of wards that can be read: each a quantum and its words. -/
structure WdsAt (w : World) (g o n c : Nat) (l : List (Int × List Int)) : Prop where
  len : l.length = n
  el : ∀ k q ws, l[k]? = some (q, ws) → w.cell? ⟨g, o + k * 2, none⟩ = some (.int .i64 q) ∧ ∃ vw, w.cell? ⟨g, o + k * 2 + 1, none⟩ = some vw ∧ IntsAt w vw ws
  ok : ∀ q ws, (q, ws) ∈ l → I64 q ∧ ∀ x ∈ ws, I64 x

def SameK (a b : World) : Prop := a = b
def AccIs (acc spec : List UInt8) (n : Nat) : Prop := acc = spec ∧ acc.length ≤ n
/-- The image: its head, a ward, the owners. -/
def headB (gap : Int) (n nw : Nat) : List UInt8 := lowB n 1 ++ lowB (withinM gap 1 16) 1 ++ lowB 1024 2 ++ lowB nw 1 ++ lowB n 1
def wardB (K : Int) (k : Nat) (q : Int) (ws : List Int) : List UInt8 :=
  lowB (withinM q 1 64) 1 ++ lowB 1 1 ++ lowB 0 2 ++ lowB 0 2 ++ lowB 64 2 ++ lowB (K + 64 * k) 2 ++ lowB 7 1 ++ lowB ((ws.take 64).length : Nat) 2 ++ (ws.take 64).flatMap (fun x => lowB x 4)

set_option maxRecDepth 100000 in
set_option maxHeartbeats 1000000 in
theorem kernel_any (w : World) (a b : Option Addr) (n c m d : Nat) (hn : n ≤ 4) (hm : m ≤ 8) :
    Calls Tryz.prog 43 #[.slice a n c, .slice b m d] w fun e w' => e = .returned (.int .i64 (16 + 16 * n + 2 * m)) ∧ w' = w := by
  go_enter Tryz.func43, Tryz.ntmps43
  go_wp2_with fail
  go_ret
  exact ⟨rfl, rfl⟩

attribute [local go_sem] mk_app lowB_len
set_option maxRecDepth 100000 in
set_option maxHeartbeats 4000000 in
theorem image_nw (w : World) (gap : Int) (hg : I64 gap) (g o n c : Nat) (l : List (Int × List Int)) (h : WdsAt w g o n c l) (n1 : 1 ≤ n) (n4 : n ≤ 4) :
    Calls Tryz.prog 20 #[.int .i64 gap, .slice (some ⟨g, o, none⟩) n c, .slice none 0 0] w fun e w' => e = .returned (.string ⟨(headB gap n 0 ++ (List.range n).flatMap (fun k : Nat => wardB (16 + 16 * n) k (l.getD k (0, [])).1 (l.getD k (0, [])).2) ++ (List.range n).flatMap (fun k : Nat => lowB (k : Int) 1)).toArray⟩) ∧ Fr (fun _ => False) w w' := by
  have H := hid h
  have HGP := hid hg
  have HF : Hid (Fr (fun _ => False) w w) := Fr.refl _ _
  have hnn : I64 (n : Int) := by unfold I64; omega
  have HNN := hid hnn
  have hgw := withinM_bd gap 1 16 (by omega)
  have HGW : Hid (I64 (withinM gap 1 16)) := by unfold Hid I64; omega
  have HZ : Hid (I64 0) := by unfold Hid I64; omega
  have HZ1 : Hid (I64 1024) := by unfold Hid I64; omega
  clear h hg hnn
  go_enter Tryz.func20, Tryz.ntmps20
  go_wp2_with fail
  refine (bytes1 _ _ HNN.out).mono ?_
  rintro e w1 ⟨rfl, hf⟩
  replace HF := hid (HF.out.step hf (fun _ h => .inl h))
  clear hf
  go_wp2_with fail
  refine (kwithin_any _ _ _ _ HGP.out (by omega) (by omega) (by omega)).mono ?_
  rintro e w1 ⟨rfl, rfl⟩
  go_wp2_with fail
  refine (bytes1 _ _ HGW.out).mono ?_
  rintro e w1 ⟨rfl, hf⟩
  replace HF := hid (HF.out.step hf (fun _ h => .inl h))
  clear hf
  go_wp2_with fail
  refine (bytes2 _ _ HZ1.out).mono ?_
  rintro e w1 ⟨rfl, hf⟩
  replace HF := hid (HF.out.step hf (fun _ h => .inl h))
  clear hf
  go_wp2_with fail
  refine (bytes1 _ _ HZ.out).mono ?_
  rintro e w1 ⟨rfl, hf⟩
  replace HF := hid (HF.out.step hf (fun _ h => .inl h))
  clear hf
  go_wp2_with fail
  refine (bytes1 _ _ HNN.out).mono ?_
  rintro e w1 ⟨rfl, hf⟩
  replace HF := hid (HF.out.step hf (fun _ h => .inl h))
  clear hf
  go_wp2_with fail
  have HHD : Hid (lowB (n : Int) 1 ++ (lowB (withinM gap 1 16) 1 ++ (lowB 1024 2 ++ (lowB 0 1 ++ lowB (n : Int) 1))) = headB gap n 0) := by unfold Hid headB; simp only [List.append_assoc]; rfl
  go_loopw [7, 8] (fun a b wr => ∃ k : Nat, k ≤ n ∧ b = .int .i64 k ∧ ∃ acc : List UInt8, a = .string ⟨acc.toArray⟩ ∧ AccIs acc (headB gap n 0 ++ (List.range k).flatMap (fun k : Nat => wardB (16 + 16 * n) k (l.getD k (0, [])).1 (l.getD k (0, [])).2)) (6 + 300 * k) ∧ Fr (fun _ => False) w wr) (fun _ b _ => n - (intOf b).toNat)
  case atStart => exact ⟨0, Nat.zero_le _, rfl, _, rfl, ⟨by rw [HHD.out]; simp, by simp [lowB_len]⟩, HF.out⟩
  case round =>
    obtain ⟨k, hk, rfl, acc, rfl, hacc, hf⟩ := hrel
    clear HHD
    have HAC := hid hacc
    have hal := hacc.2
    replace HF := hid hf
    clear hacc hf
    by_cases hlt : k < n
    · have hlti : (k : Int) < (n : Int) := by omega
      have hlk : k < l.length := by rw [H.out.len]; exact hlt
      obtain ⟨⟨q, ws⟩, hqw⟩ : ∃ p, l[k]? = some p := ⟨_, List.getElem?_eq_getElem hlk⟩
      obtain ⟨hcq, vw, hcw, hin⟩ := H.out.el k q ws hqw
      have cq : wr.cell? ⟨g, o + k * 2, none⟩ = some (.int .i64 q) := cell_fr hcq HF.out
      obtain ⟨aw, cw, hvw, hlc, hcc, hrd⟩ := hin
      have HRD := hid hrd
      subst hvw
      have cwd : wr.cell? ⟨g, o + k * 2 + 1, none⟩ = some (.slice aw ws.length cw) := cell_fr hcw HF.out
      have hok := H.out.ok q ws (List.mem_of_getElem? hqw)
      have HQW := hid hqw
      have HOQ := hid hok.1
      have HOW := hid hok.2
      clear hcq hcw hrd hqw hok
      have hqb := withinM_bd q 1 64 (by omega)
      have HWQ : Hid (I64 (withinM q 1 64)) := by unfold Hid I64; omega
      have HO1 : Hid (I64 1) := by unfold Hid I64; omega
      have HO7 : Hid (I64 7) := by unfold Hid I64; omega
      have HO64 : Hid (I64 64) := by unfold Hid I64; omega
      have HKK : Hid (I64 (16 + 16 * (n : Int) + 64 * (k : Int))) := by unfold Hid I64; omega
      obtain ⟨W, hW⟩ : ∃ W, ws.take 64 = W := ⟨_, rfl⟩
      have hl64 : W.length ≤ 64 := by rw [← hW, List.length_take]; omega
      have HLW : Hid (I64 (W.length : Int)) := by unfold Hid I64; omega
      have HW := hid hW
      clear hW
      rcases Nat.lt_or_ge 64 ws.length with hw | hw
      case' inl =>
        have hwi : (64 : Int) < (ws.length : Int) := by omega
        have hcw : (64 : Int) ≤ (cw : Int) := by omega
        have HE9 : Hid (Value.slice aw 64 cw = Value.slice aw W.length cw) := by unfold Hid; rw [← HW.out, List.length_take, Nat.min_eq_left (by omega)]
        go_upto_region 8 with fail
        rw [HE9.out]
        clear HE9 hwi hcw
      case' inr =>
        have hwi : ¬ ((64 : Int) < (ws.length : Int)) := by omega
        have HE9 : Hid (Value.slice aw ws.length cw = Value.slice aw W.length cw) := by unfold Hid; rw [← HW.out, List.take_of_length_le hw]
        go_upto_region 8 with fail
        rw [HE9.out]
        clear HE9 hwi
      all_goals
        go_wp2_with fail
        refine (kwithin_any _ _ _ _ HOQ.out (by omega) (by omega) (by omega)).mono ?_
        rintro e w1 ⟨rfl, rfl⟩
        clear cq cwd
        go_wp2_with fail
        refine (bytes1 _ _ HWQ.out).mono ?_
        rintro e w1 ⟨rfl, hf⟩
        replace HF := hid (HF.out.step hf (fun _ h => .inl h))
        clear hf
        go_wp2_with fail
        refine (bytes1 _ _ HO1.out).mono ?_
        rintro e w1 ⟨rfl, hf⟩
        replace HF := hid (HF.out.step hf (fun _ h => .inl h))
        clear hf
        go_wp2_with fail
        refine (bytes2 _ _ HZ.out).mono ?_
        rintro e w1 ⟨rfl, hf⟩
        replace HF := hid (HF.out.step hf (fun _ h => .inl h))
        clear hf
        go_wp2_with fail
        refine (bytes2 _ _ HZ.out).mono ?_
        rintro e w1 ⟨rfl, hf⟩
        replace HF := hid (HF.out.step hf (fun _ h => .inl h))
        clear hf
        go_wp2_with fail
        refine (bytes2 _ _ HO64.out).mono ?_
        rintro e w1 ⟨rfl, hf⟩
        replace HF := hid (HF.out.step hf (fun _ h => .inl h))
        clear hf
        go_wp2_with fail
        refine (kernel_any _ _ _ n c 0 0 n4 (by omega)).mono ?_
        rintro e w1 ⟨rfl, rfl⟩
        go_wp2_with fail
        refine (bytes2 _ _ HKK.out).mono ?_
        rintro e w1 ⟨rfl, hf⟩
        replace HF := hid (HF.out.step hf (fun _ h => .inl h))
        clear hf
        go_wp2_with fail
        refine (bytes1 _ _ HO7.out).mono ?_
        rintro e w1 ⟨rfl, hf⟩
        replace HF := hid (HF.out.step hf (fun _ h => .inl h))
        clear hf
        go_wp2_with fail
        refine (bytes2 _ _ HLW.out).mono ?_
        rintro e w1 ⟨rfl, hf⟩
        replace HF := hid (HF.out.step hf (fun _ h => .inl h))
        clear hf
        go_wp2_with fail
        generalize hbase : acc ++ (lowB (withinM q 1 64) 1 ++ (lowB 1 1 ++ (lowB 0 2 ++ (lowB 0 2 ++ (lowB 64 2 ++ (lowB (16 + 16 * (n : Int) + 64 * (k : Int)) 2 ++ (lowB 7 1 ++ lowB (W.length : Int) 2))))))) = base
        have hbl : base.length ≤ 19 + 300 * k := by rw [← hbase]; simp only [List.length_append, lowB_len]; omega
        have HBS := hid hbase
        clear hbase
        go_loopw [7, 10] (fun a b wq => ∃ i : Nat, i ≤ W.length ∧ b = .int .i64 i ∧ ∃ acc2 : List UInt8, a = .string ⟨acc2.toArray⟩ ∧ AccIs acc2 (base ++ (W.take i).flatMap (fun x => lowB x 4)) (19 + 300 * k + 4 * i) ∧ Fr (fun _ => False) w wq) (fun _ b _ => W.length - (intOf b).toNat)
        case atStart => exact ⟨0, Nat.zero_le _, rfl, base, rfl, ⟨by simp, by omega⟩, HF.out⟩
        case round =>
          obtain ⟨i, hi, rfl, acc2, rfl, hacc2, hf2⟩ := hrel
          have HAC2 := hid hacc2
          have hal2 := hacc2.2
          replace HF := hid hf2
          clear hacc2 hf2
          by_cases hil : i < W.length
          · have hili : (i : Int) < (W.length : Int) := by omega
            obtain ⟨x, hx⟩ : ∃ x, W[i]? = some x := ⟨_, List.getElem?_eq_getElem hil⟩
            have hxw : ws[i]? = some x := by rw [← HW.out, List.getElem?_take, if_pos (by omega)] at hx; exact hx
            have hwl : 1 ≤ ws.length := by have := (List.getElem?_eq_some_iff.1 hxw).1; omega
            obtain ⟨wb, wo, hawe, hcell⟩ := HRD.out hwl
            subst hawe
            have cx : wr.cell? ⟨wb, wo + i, none⟩ = some (.int .i64 x) := cell_fr (hcell i x hxw) HF.out
            have HXB := hid (HOW.out x (List.mem_of_getElem? hxw))
            have HX := hid hx
            clear hcell hx hxw
            go_wp2_with fail
            refine (bytes4 _ _ HXB.out).mono ?_
            rintro e w1 ⟨rfl, hf⟩
            replace HF := hid (HF.out.step hf (fun _ h => .inl h))
            clear hf cx
            go_wp2_with fail
            go_roundw
            case rel =>
              refine ⟨i + 1, by omega, by go_num, _, rfl, ⟨?_, ?_⟩, HF.out⟩
              · rw [HAC2.out.1, List.take_add_one, HX.out]; simp
              · simp only [List.length_append, lowB_len]; omega
            case measure => simp [intOf]; omega
          · obtain rfl : i = W.length := by omega
            have hili : ¬ ((W.length : Int) < (W.length : Int)) := by omega
            go_wp2_with fail
            go_roundw
            case rel =>
              refine ⟨k + 1, by omega, by go_num, acc2, rfl, ⟨?_, by omega⟩, HF.out⟩
              rw [HAC2.out.1, List.take_length, ← HBS.out, HAC.out.1, List.range_succ, List.flatMap_append, List.flatMap_cons, List.flatMap_nil, List.append_nil, List.getD_eq_getElem?_getD, HQW.out, ← HW.out]
              simp only [Option.getD_some, wardB, List.append_assoc]
            case measure => simp [intOf]; omega
    · obtain rfl : k = n := by omega
      have hlti : ¬ ((k : Int) < (k : Int)) := by omega
      go_wp2_with fail
      go_loopw [7, 11] (fun a b wq => a = .string ⟨acc.toArray⟩ ∧ b = .int .i64 0 ∧ Fr (fun _ => False) w wq) (fun _ _ _ => 0)
      case atStart => exact ⟨rfl, rfl, HF.out⟩
      case round =>
        obtain ⟨rfl, rfl, hf3⟩ := hrel
        replace HF := hid hf3
        clear hf3
        go_wp2_with fail
        go_loopw [7, 12] (fun a b wq => ∃ d : Nat, d ≤ k ∧ b = .int .i64 d ∧ ∃ acc2 : List UInt8, a = .string ⟨acc2.toArray⟩ ∧ AccIs acc2 (acc ++ (List.range d).flatMap (fun k : Nat => lowB (k : Int) 1)) (6 + 300 * k + d) ∧ Fr (fun _ => False) w wq) (fun _ b _ => k - (intOf b).toNat)
        case atStart => exact ⟨0, Nat.zero_le _, rfl, acc, rfl, ⟨by simp, by omega⟩, HF.out⟩
        case round =>
          obtain ⟨d, hd, rfl, acc2, rfl, hacc2, hf2⟩ := hrel
          have HAC2 := hid hacc2
          have hal2 := hacc2.2
          replace HF := hid hf2
          clear hacc2 hf2
          by_cases hdl : d < k
          · have hdli : (d : Int) < (k : Int) := by omega
            have HDB : Hid (I64 (d : Int)) := by unfold Hid I64; omega
            go_wp2_with fail
            refine (bytes1 _ _ HDB.out).mono ?_
            rintro e w1 ⟨rfl, hf⟩
            replace HF := hid (HF.out.step hf (fun _ h => .inl h))
            clear hf
            go_wp2_with fail
            go_roundw
            case rel =>
              refine ⟨d + 1, by omega, by go_num, _, rfl, ⟨?_, ?_⟩, HF.out⟩
              · rw [HAC2.out.1, List.range_succ]; simp
              · simp only [List.length_append, lowB_len]; omega
            case measure => simp [intOf]; omega
          · obtain rfl : d = k := by omega
            have hdli : ¬ ((d : Int) < (d : Int)) := by omega
            go_wp2_with fail
            go_ret
            refine ⟨?_, HF.out⟩
            show Ending.returned (Value.string ⟨acc2.toArray⟩) = _
            rw [HAC2.out.1, HAC.out.1]
            simp only [List.append_assoc, List.getD_eq_getElem?_getD]

end Go.Proofs.YthmcheoehcmglaaGreat
