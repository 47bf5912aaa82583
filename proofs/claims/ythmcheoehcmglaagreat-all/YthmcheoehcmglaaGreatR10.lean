/- The reference's laid: the walk. -/
import Derived.Test.YthmcheoehcmglaaGreatR9
namespace Go.Proofs.YthmcheoehcmglaaGreat
open Go.RowKit
set_option linter.unusedVariables false
attribute [local go_sem ↓] Go.wp_at_zero Go.wp_at_succ

theorem LIn.fr {w : World} {T S N : Nat} {P : List Own} {k : Int} {r : Int × Int × Int × Int} {c : Nat} {wr w' : World} (h : LIn w T S N P k r c wr) (hf : Fr (fun _ => False) wr w') : LIn w T S N P k r c w' :=
  ⟨hf.get h.t id, hf.get h.s id, h.f.step hf (fun _ h => .inl h), h.h1, h.h2⟩

theorem LIn.zero {w : World} {T S N : Nat} {P : List Own} {k : Int} {r : Int × Int × Int × Int} {wr : World} (h1 : wr.heap[T]? = some (.cells (bRow N (fun p => tB P p)).toArray 4 (0, 0))) (h2 : wr.heap[S]? = some (.cells (bRow N (fun p => sB P k p)).toArray 4 (0, 0))) (hf : Fr (fun _ => False) w wr) : LIn w T S N P k r 0 wr := by
  refine ⟨?_, ?_, hf, fun p h1 h2 => by omega, fun p h1 h2 => by omega⟩
  · rw [h1]
    congr 3
    apply bRow_congr
    intro i _
    have : (decide (r.2.2.1 ≤ (i : Int)) && decide ((i : Int) < r.2.2.1 + ((0 : Nat) : Int))) = false := by simp
    rw [this, Bool.or_false]
  · rw [h2]
    congr 3
    apply bRow_congr
    intro i _
    have : (decide (r.1 ≤ (i : Int)) && decide ((i : Int) < r.1 + ((0 : Nat) : Int))) = false := by simp
    rw [this, Bool.or_false]
theorem LIn.cellT {w : World} {T S N : Nat} {P : List Own} {k : Int} {r : Int × Int × Int × Int} {c : Nat} {wr : World} (h : LIn w T S N P k r c wr) (q : Nat) (hq : (q : Int) = r.2.2.1 + c) (hn : q < N) : wr.cell? ⟨T, q, none⟩ = some (.bool (tB P q)) := by
  rw [bCell h.t q hn]
  have : (decide (r.2.2.1 ≤ (q : Int)) && decide ((q : Int) < r.2.2.1 + (c : Int))) = false := by simp; omega
  rw [this, Bool.or_false]
theorem LIn.cellS {w : World} {T S N : Nat} {P : List Own} {k : Int} {r : Int × Int × Int × Int} {c : Nat} {wr : World} (h : LIn w T S N P k r c wr) (q : Nat) (hq : (q : Int) = r.1 + c) (hn : q < N) : wr.cell? ⟨S, q, none⟩ = some (.bool (sB P k q)) := by
  rw [bCell h.s q hn]
  have : (decide (r.1 ≤ (q : Int)) && decide ((q : Int) < r.1 + (c : Int))) = false := by simp; omega
  rw [this, Bool.or_false]
theorem LIn.full {w : World} {T S N : Nat} {P : List Own} {k : Int} {r : Int × Int × Int × Int} {c : Nat} {wr : World} (h : LIn w T S N P k r c wr) (hc : (c : Int) = r.2.1) :
    wr.heap[T]? = some (.cells (bRow N (fun p => tB (P ++ [(r, k)]) p)).toArray 4 (0, 0)) ∧ wr.heap[S]? = some (.cells (bRow N (fun p => sB (P ++ [(r, k)]) k p)).toArray 4 (0, 0)) := by
  constructor
  · rw [h.t]
    congr 3
    apply bRow_congr
    intro i _
    rw [tB_snoc, hc]
  · rw [h.s]
    congr 3
    apply bRow_congr
    intro i _
    rw [sB_snoc _ _ _ rfl, hc]

set_option maxRecDepth 100000 in
set_option maxHeartbeats 8000000 in
theorem laid_any (w : World) (Y : Nat) (gap mem ck : Int) (rws : List RWard) (wi : List (Int × Int × Int × Int)) (vW vI vD : Value) (nd : Nat) (h : NetAt w Y gap mem ck rws wi vW vI vD nd) (hr : RegsOk rws wi.length) (hm : mem ≤ 1024) (hpos : ∀ y ∈ rws, ∀ r ∈ y.regs, 1 ≤ r.r.2.1) :
    Calls Tryz.prog 53 #[.pointer (some ⟨Y, 0, none⟩)] w fun e w' => e = .returned (.bool (laidB rws wi.length mem)) ∧ Fr (fun _ => False) w w' := by
  have HH := hid h
  have HR := hid hr
  have HPOS := hid hpos
  obtain ⟨a1, q1, rfl⟩ := owns_shape h.ow
  obtain ⟨i0, hi0, hz0, hz1, hz2⟩ := info_parts (show (Tryz.prog.info? 4).map (fun i => (i.zero, i.size, i.bytes)) = some (some (.bool false), 1, 1) by kernel_rfl)
  obtain ⟨N, hN⟩ : ∃ N : Nat, N = 70000 := ⟨_, rfl⟩
  have hNi : (70000 : Int) = (N : Int) := by omega
  have hb2 : i0.bytes * N ≤ 281474976710656 := by rw [hz2]; omega
  have hb3 : N ≤ maxLen := by unfold maxLen; omega
  have HN := hid hN
  have HNi := hid hNi
  have hrl := hr.l
  have hrli := hr.li
  clear h hr hpos hN hNi
  go_enter Tryz.func53, Tryz.ntmps53
  go_wp2_with (at_make; refine wpList_make_full _ (by rfl) _ _ 158 (by rfl) 0 4 i0 _ 1 Tryz.underlying158 hi0 hz0 hz1 .i64 .i64 _ _ N (by rfl) (by rfl) HNi.out HNi.out hb2 hb3 (Nat.zero_le _) ?_; intro w1 hm1 hg1; have HM1 := hid (made_bools hm1); have HF1 := hid (grown_fr' hg1); clear hm1 hg1)
  have hTs : w.heap.size < w1.heap.size := lt_of_get HM1.out
  go_loopw [4] (fun i wr => ∃ k : Nat, k ≤ rws.length ∧ i = .int .i64 k ∧ wr.heap[w.heap.size]? = some (.cells (bRow N (fun p => tB (ownedN (wsOf rws) k) p)).toArray 4 (0, 0)) ∧ (∀ b ∈ ownedN (wsOf rws) k, fitB (16 + 16 * rws.length + 2 * wi.length) mem b = true) ∧ (ownedN (wsOf rws) k).Pairwise ApP ∧ Fr (fun _ => False) w wr) (fun i _ => rws.length - (intOf i).toNat)
  case atStart => exact ⟨0, Nat.zero_le _, rfl, HM1.out, by simp [ownedN], by simp [ownedN], HF1.out⟩
  case round =>
    obtain ⟨k, hk, rfl, ht, hfit, hap, hF⟩ := hrel
    have hP := HH.out.fr hF
    have c2 : wr.cell? ⟨Y, 2, none⟩ = some (.slice a1 rws.length q1) := row_cell hP.hy 2
    have HT := hid ht
    have HFIT := hid hfit
    have HAP := hid hap
    have HFr := hid hF
    have hszw : w.heap.size < wr.heap.size := lt_of_get ht
    clear ht hfit hap hF HM1 HF1 hTs
    by_cases hlt : k < rws.length
    · obtain ⟨y, hy⟩ : ∃ y, rws[k]? = some y := ⟨_, List.getElem?_eq_getElem hlt⟩
      have hym := List.mem_of_getElem? hy
      obtain ⟨gv, cp, hv, -, hgl⟩ := hP.ow.form (by omega)
      simp only [Value.slice.injEq] at hv
      obtain ⟨rfl, -, rfl⟩ := hv
      obtain ⟨a3, q3, ea⟩ := owns_shape (hP.rg y hym).1.own
      have HY := hid hy
      have HYM := hid hym
      have hki : (k : Int) < (rws.length : Int) := by omega
      have hy3 := HR.out.c y hym
      clear hP hy hym
      go_wp2_with (at_make; refine wpList_make_full _ (by rfl) _ _ 158 (by rfl) 0 4 i0 _ 1 Tryz.underlying158 hi0 hz0 hz1 .i64 .i64 _ _ N (by rfl) (by rfl) HNi.out HNi.out hb2 hb3 (Nat.zero_le _) ?_; intro w2 hm2 hg2; have HM2 := hid (made_bools hm2); have HF2 := hid (grown_fr' hg2); clear hm2 hg2)
      clear c2
      have HT2 := hid (HF2.out.get HT.out id)
      have HFw2 := hid (HFr.out.step HF2.out (fun _ h => .inl h))
      generalize hS : wr.heap.size = S at *
      clear hS HFr HF2 HT hgl
      go_loopw [6] (fun i wq => ∃ j : Nat, j ≤ y.regs.length ∧ i = .int .i64 j ∧ wq.heap[w.heap.size]? = some (.cells (bRow N (fun p => tB (preR rws k j y) p)).toArray 4 (0, 0)) ∧ wq.heap[S]? = some (.cells (bRow N (fun p => sB (preR rws k j y) k p)).toArray 4 (0, 0)) ∧ (∀ b ∈ preR rws k j y, fitB (16 + 16 * rws.length + 2 * wi.length) mem b = true) ∧ (preR rws k j y).Pairwise ApP ∧ Fr (fun _ => False) w wq) (fun i _ => y.regs.length - (intOf i).toNat)
      case atStart =>
        refine ⟨0, Nat.zero_le _, rfl, ?_⟩
        rw [preR_zero]
        refine ⟨HT2.out, ?_, HFIT.out, HAP.out, HFw2.out⟩
        rw [bRow_congr N _ (fun _ => false) (fun i _ => sB_none _ _ _)]
        exact HM2.out
      case round =>
        obtain ⟨j, hj, rfl, ht, hs, hfit, hap, hFq⟩ := hrel
        clear HT2 HM2 HFw2
        have hP := HH.out.fr hFq
        have c2' : wr.cell? ⟨Y, 2, none⟩ = some (.slice (some ⟨gv, 0, none⟩) rws.length q1) := row_cell hP.hy 2
        have hvr' := (ward_regs _ _ _ _ _ _ _ _ _ _ _ _ hP k y HY.out).1
        rw [ea] at hvr'
        have hreg := (hP.rg y HYM.out).1
        have HP := hid hP
        have HT := hid ht
        have HS := hid hs
        have HFIT2 := hid hfit
        have HAP2 := hid hap
        have HFq := hid hFq
        have hTl : w.heap.size < wr.heap.size := lt_of_get ht
        have hSl : S < wr.heap.size := lt_of_get hs
        clear ht hs hfit hap hFq hP
        by_cases hjl : j < y.regs.length
        · obtain ⟨r, hrj⟩ : ∃ r, y.regs[j]? = some r := ⟨_, List.getElem?_eq_getElem hjl⟩
          have hrm := List.mem_of_getElem? hrj
          have hb := HR.out.r y HYM.out r hrm
          have hrp := HPOS.out y HYM.out r hrm
          have ho := hreg.own
          rw [ea] at ho
          obtain ⟨gr, cr, hv, -, -⟩ := ho.form (by omega)
          simp only [Value.slice.injEq] at hv
          obtain ⟨rfl, -, rfl⟩ := hv
          have hcell : ∀ c', c' < 5 → wr.cell? ⟨gr, j * 5 + c', none⟩ = (rrCells r)[c']? := by
            intro c' hc'
            rw [ho.cellAt (j * 5 + c') (by omega), flat_get rrCells 5 (fun _ => rfl) y.regs j c' hjl hc']
            rw [List.getElem?_eq_getElem hjl] at hrj
            rw [Option.some.inj hrj]
          have d0 : wr.cell? ⟨gr, j * 5, none⟩ = some (.int .i64 r.r.1) := hcell 0 (by omega)
          have d1 : wr.cell? ⟨gr, j * 5 + 1, none⟩ = some (.int .i64 r.r.2.1) := hcell 1 (by omega)
          have d2 : wr.cell? ⟨gr, j * 5 + 2, none⟩ = some (.int .i64 r.r.2.2.1) := hcell 2 (by omega)
          have d3 : wr.cell? ⟨gr, j * 5 + 3, none⟩ = some (.int .i64 r.r.2.2.2) := hcell 3 (by omega)
          have d4 : wr.cell? ⟨gr, j * 5 + 4, none⟩ = some (.slice (some ⟨r.g, 0, none⟩) r.ws.length r.ws.length) := hcell 4 (by omega)
          have cma : ∀ o, (wr.alloc o).cell? ⟨Y, 1, none⟩ = some (.int .i64 mem) := fun o => row_cell (get_alloc HP.out.hy o) 1
          have hjl' : (j : Int) < (y.regs.length : Int) := by omega
          have hYn : Y ≠ wr.heap.size := by have := lt_of_get HP.out.hy; omega
          have HRJ := hid hrj
          obtain ⟨rest, hspl⟩ := preR_split rws k j y r HY.out hrj
          have HSPL := hid hspl
          obtain ⟨b1, b2, b3, b4, b5, b6, b7⟩ := hb
          have HFB : Hid (fitB (16 + 16 * rws.length + 2 * wi.length) mem (r.r, (k : Int)) = !(decide (32768 < r.r.1 + r.r.2.1) || decide (r.r.2.2.1 < 16 + 16 * rws.length + 2 * wi.length) || decide (mem < r.r.2.2.1 + r.r.2.1))) := rfl
          have HKE : Hid ((16 : Int) * (1 + rws.length) + 2 * wi.length = 16 + 16 * rws.length + 2 * wi.length) := by unfold Hid; omega
          have HIN : Hid ((r.r, (k : Int)) ∈ ownedN (wsOf rws) rws.length) := by unfold Hid; rw [hspl]; simp
          clear hcell ho hreg hrj hrm ea hspl
          go_wp2_with fail
          by_cases h1 : 32768 < r.r.1 + r.r.2.1
          · have h1' : decide (32768 < r.r.1 + r.r.2.1) = true := by simp [h1]
            have HW : Hid (fitB (16 + 16 * rws.length + 2 * wi.length) mem (r.r, (k : Int)) = false) := by unfold Hid; rw [HFB.out, h1']; simp
            go_quiet (fail)
            go_wp2_with fail
            go_ret
            exact ⟨ret_bool (laid_no_fit _ _ _ _ HIN.out HW.out), (HFq.out.alloc _).drewN _⟩
          · have h1' : decide (32768 < r.r.1 + r.r.2.1) = false := by simp; omega
            by_cases h2 : r.r.2.2.1 < 16 * (1 + rws.length) + 2 * wi.length
            · have h2' : decide (r.r.2.2.1 < 16 * (1 + rws.length) + 2 * wi.length) = true := by simp [h2]
              have HW : Hid (fitB (16 + 16 * rws.length + 2 * wi.length) mem (r.r, (k : Int)) = false) := by unfold Hid; rw [HFB.out, ← HKE.out, h2']; simp
              go_quiet ((go_at_call 78; exact Calls.quiet_of (rkernel_any _ Y _ _ _ _ _ _ _ _ _ (HP.out.fr (((Fr.refl _ _).alloc _).drewN _)) hrl hrli)))
              go_wp2_with fail
              go_ret
              exact ⟨ret_bool (laid_no_fit _ _ _ _ HIN.out HW.out), (HFq.out.alloc _).drewN _⟩
            · have h2' : decide (r.r.2.2.1 < 16 * (1 + rws.length) + 2 * wi.length) = false := by simp; omega
              by_cases h4 : mem < r.r.2.2.1 + r.r.2.1
              · have h4' : decide (mem < r.r.2.2.1 + r.r.2.1) = true := by simp [h4]
                have HW : Hid (fitB (16 + 16 * rws.length + 2 * wi.length) mem (r.r, (k : Int)) = false) := by unfold Hid; rw [HFB.out, h4']; simp
                go_quiet ((go_at_call 78; exact Calls.quiet_of (rkernel_any _ Y _ _ _ _ _ _ _ _ _ (HP.out.fr (((Fr.refl _ _).alloc _).drewN _)) hrl hrli)))
                go_wp2_with fail
                go_ret
                exact ⟨ret_bool (laid_no_fit _ _ _ _ HIN.out HW.out), (HFq.out.alloc _).drewN _⟩
              · have h4' : decide (mem < r.r.2.2.1 + r.r.2.1) = false := by simp; omega
                have HW : Hid (fitB (16 + 16 * rws.length + 2 * wi.length) mem (r.r, (k : Int)) = true) := by unfold Hid; rw [HFB.out, ← HKE.out, h1', h2', h4']; simp
                go_quiet ((go_at_call 78; exact Calls.quiet_of (rkernel_any _ Y _ _ _ _ _ _ _ _ _ (HP.out.fr (((Fr.refl _ _).alloc _).drewN _)) hrl hrli)))
                go_wp2_with fail
                have HL0 : Hid (LIn w w.heap.size S N (preR rws k j y) k r.r 0 ((wr.alloc (.cells #[.int .i64 r.r.1, .int .i64 r.r.2.1, .int .i64 r.r.2.2.1, .int .i64 r.r.2.2.2, .slice (some ⟨r.g, 0, none⟩) r.ws.length r.ws.length] 160)).drewN nq)) :=
                  (LIn.zero HT.out HS.out HFq.out).fr (((Fr.refl _ _).alloc _).drewN _)
                have HR0 : Hid (((wr.alloc (.cells #[.int .i64 r.r.1, .int .i64 r.r.2.1, .int .i64 r.r.2.2.1, .int .i64 r.r.2.2.2, .slice (some ⟨r.g, 0, none⟩) r.ws.length r.ws.length] 160)).drewN nq).heap[wr.heap.size]? = some (.cells #[.int .i64 r.r.1, .int .i64 r.r.2.1, .int .i64 r.r.2.2.1, .int .i64 r.r.2.2.2, .slice (some ⟨r.g, 0, none⟩) r.ws.length r.ws.length] 160 (0, 0))) := heap_alloc_new wr _
                have hne1 : wr.heap.size ≠ S := by omega
                have hne2 : wr.heap.size ≠ w.heap.size := by omega
                generalize hRR : wr.heap.size = R at *
                clear hRR HT HS c2' hvr' d0 d1 d2 d3 d4 cma HP HFq h1' h2' h4' hYn
                go_loopw [8] (fun i wq => ∃ c : Nat, (c : Int) ≤ r.r.2.1 ∧ i = .int .i64 c ∧ LIn w w.heap.size S N (preR rws k j y) k r.r c wq ∧ wq.heap[R]? = some (.cells #[.int .i64 r.r.1, .int .i64 r.r.2.1, .int .i64 r.r.2.2.1, .int .i64 r.r.2.2.2, .slice (some ⟨r.g, 0, none⟩) r.ws.length r.ws.length] 160 (0, 0))) (fun i _ => r.r.2.1.toNat - (intOf i).toNat)
                case atStart => exact ⟨0, by omega, rfl, HL0.out, HR0.out⟩
                case round =>
                  obtain ⟨c, hc, rfl, hL, hRb⟩ := hrel
                  clear HL0 HR0
                  have cR0 : wr.cell? ⟨R, 0, none⟩ = some (.int .i64 r.r.1) := row_cell hRb 0
                  have cR1 : wr.cell? ⟨R, 1, none⟩ = some (.int .i64 r.r.2.1) := row_cell hRb 1
                  have cR2 : wr.cell? ⟨R, 2, none⟩ = some (.int .i64 r.r.2.2.1) := row_cell hRb 2
                  have HL := hid hL
                  have HRB := hid hRb
                  by_cases hcl : (c : Int) < r.r.2.1
                  · obtain ⟨p, hp⟩ := Int.eq_ofNat_of_zero_le (show 0 ≤ r.r.1 + (c : Int) by omega)
                    obtain ⟨q, hq⟩ := Int.eq_ofNat_of_zero_le (show 0 ≤ r.r.2.2.1 + (c : Int) by omega)
                    have hpN : (p : Int) < (N : Int) := by have := HN.out; omega
                    have hqN : (q : Int) < (N : Int) := by have := HN.out; omega
                    have cS := hL.cellS p hp.symm (by omega)
                    have cT := hL.cellT q hq.symm (by omega)
                    have fS := row_frozen hL.s p
                    have fT := row_frozen hL.t q
                    have hTS : w.heap.size ≠ S := by omega
                    have hST : S ≠ w.heap.size := by omega
                    clear hL hRb
                    by_cases hs : sB (preR rws k j y) k p = true
                    · have HNA : Hid (¬ (ownedN (wsOf rws) rws.length).Pairwise ApP) := by unfold Hid; rw [HSPL.out]; exact not_apart_s _ _ (r.r, (k : Int)) p (by simp only; omega) (by simp only; omega) hs
                      rw [hs] at cS
                      go_wp2_with fail
                      go_ret
                      exact ⟨ret_bool (laid_no_apart _ _ _ HNA.out), HL.out.f⟩
                    · have hs' : sB (preR rws k j y) k p = false := by simpa using hs
                      rw [hs'] at cS
                      by_cases ht : tB (preR rws k j y) q = true
                      · have HNA : Hid (¬ (ownedN (wsOf rws) rws.length).Pairwise ApP) := by unfold Hid; rw [HSPL.out]; exact not_apart_t _ _ (r.r, (k : Int)) q (by simp only; omega) (by simp only; omega) ht
                        rw [ht] at cT
                        go_wp2_with fail
                        go_ret
                        exact ⟨ret_bool (laid_no_apart _ _ _ HNA.out), HL.out.f⟩
                      · have ht' : tB (preR rws k j y) q = false := by simpa using ht
                        rw [ht'] at cT
                        have HST := hid (HL.out.step hTS (Nat.le_refl _) (Nat.le_of_lt hszw) p q hp.symm hq.symm hs' ht')
                        have HRB2 := hid (set_other (set_other HRB.out (p := ⟨S, p, none⟩) hne1 (.bool true)) (p := ⟨w.heap.size, q, none⟩) hne2 (.bool true))
                        clear hs ht
                        go_wp2_with fail
                        go_roundw
                        case rel => exact ⟨c + 1, by omega, by go_num, HST.out, HRB2.out⟩
                        case measure => simp [intOf]; omega
                  · have hce : (c : Int) = r.r.2.1 := by omega
                    clear hL hRb
                    go_wp2_with fail
                    go_roundw
                    case rel =>
                      refine ⟨j + 1, by omega, by go_num, ?_⟩
                      rw [preR_succ rws k j y r HRJ.out]
                      refine ⟨(HL.out.full hce).1, (HL.out.full hce).2, ?_, ?_, HL.out.f⟩
                      · intro b hb
                        rcases List.mem_append.1 hb with hb | hb
                        · exact HFIT2.out b hb
                        · rw [List.mem_singleton.1 hb]; exact HW.out
                      · refine apart_snoc _ _ HAP2.out ?_ hrp ?_ ?_
                        · exact preR_mem rws k j y HY.out (fun r => 1 ≤ r.2.1 ∧ 0 ≤ r.1 ∧ 0 ≤ r.2.2.1) (fun y hy r hr => ⟨HPOS.out y hy r hr, (HR.out.r y hy r hr).1, (HR.out.r y hy r hr).2.2.2.2.1⟩)
                        · intro p h1 h2
                          exact HL.out.h1 p h1 (by simp only at h2; omega)
                        · intro p h1 h2
                          exact HL.out.h2 p h1 (by simp only at h2; omega)
                    case measure => simp [intOf]; omega
        · obtain rfl : j = y.regs.length := by omega
          clear hreg
          go_wp2_with fail
          go_roundw
          case rel =>
            refine ⟨k + 1, by omega, by go_num, ?_⟩
            rw [← preR_full rws k y HY.out]
            exact ⟨HT.out, HFIT2.out, HAP2.out, HFq.out⟩
          case measure => simp [intOf]; omega
    · obtain rfl : k = rws.length := by omega
      clear hP
      go_wp2_with fail
      go_ret
      refine ⟨ret_bool ?_, HFr.out⟩
      unfold laidB
      rw [(apartN_iff _).2 HAP.out, List.all_eq_true.2 HFIT.out]
      rfl

end Go.Proofs.YthmcheoehcmglaaGreat
