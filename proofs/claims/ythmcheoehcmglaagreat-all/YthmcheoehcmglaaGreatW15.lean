/- wards.start: the machine that a plan tells of. -/
import Derived.Test.YthmcheoehcmglaaGreatW15b
namespace Go.Proofs.YthmcheoehcmglaaGreat
open Go.RowKit
set_option linter.unusedVariables false
attribute [local go_sem ↓] Go.wp_at_zero Go.wp_at_succ

set_option maxRecDepth 100000 in
set_option maxHeartbeats 4000000 in
theorem start_any (w : World) (im : Img) (base : Nat) (vW vI vO : Value) (hV : PlanVal w base im vW vI vO) (hfit : im.Fits) (xs : List (WardV × Value × Value)) (hxs : xs.map (·.1) = im.ws)
    (hown : w.ownsRow base 148 4 vW xs.length (xs.flatMap wardCells))
    (hx : ∀ x ∈ xs, w.ownsRow base 151 4 x.2.1 x.1.regs.length (x.1.regs.flatMap regCells) ∧ w.ownsRow base 33 1 x.2.2 x.1.prog.length (x.1.prog.map (Value.int .u32))) :
    Calls Tryz.prog 51 #[.agg #[.int .i64 im.gap, .int .i64 im.mem, vW, vI, vO]] w fun e w' =>
      ∃ X M D vQ gK cK vD, e = .returned (.pointer (some ⟨X, 0, none⟩)) ∧ KerDv w im vI X M im.mem.toNat D (memN im im.ws.length) xs im.ow.length vQ gK cK vD w' := by
  obtain ⟨a1, q1, rfl⟩ := hV.ws.shape
  obtain ⟨a2, q2, rfl⟩ := owns_shape hV.wi
  obtain ⟨a3, q3, rfl⟩ := owns_shape hV.ow
  have HV := hid hV
  have HFIT := hid hfit
  have HXS := hid hxs
  have HOWN := hid hown
  have HX := hid hx
  have hm0 : 0 ≤ im.mem := hfit.ok.m0
  have hm1 : im.mem ≤ 1024 := hfit.ok.m1
  obtain ⟨n, hn⟩ := Int.eq_ofNat_of_zero_le hm0
  have hn1 : n ≤ 1024 := by omega
  have HNM := hid hn
  have hl4 := hfit.ok.l
  have hlo := hfit.ok.lo
  clear hV hfit hxs hown hx hm0 hm1 hn
  have hmk1 := mk_mem n hn1
  have hmk2 := mk_devs im.ow.length hlo
  rw [HNM.out]
  go_enter Tryz.func51, Tryz.ntmps51
  go_wp2_with fail
  have HP : Hid ((w.alloc (.cells #[.int .i64 im.gap, .int .i64 n, .slice a1 im.ws.length q1, .slice a2 im.wi.length q2, .slice a3 im.ow.length q3] 112)).heap[w.heap.size]? = some (.cells #[.int .i64 im.gap, .int .i64 n, .slice a1 im.ws.length q1, .slice a2 im.wi.length q2, .slice a3 im.ow.length q3] 112 (0, 0))) := heap_new w _
  have HF0 : Hid (Fr (fun _ => False) w (w.alloc (.cells #[.int .i64 im.gap, .int .i64 n, .slice a1 im.ws.length q1, .slice a2 im.wi.length q2, .slice a3 im.ow.length q3] 112))) := (Fr.refl _ w).alloc _
  have hsz0 : w.heap.size + 1 ≤ (w.alloc (.cells #[.int .i64 im.gap, .int .i64 n, .slice a1 im.ws.length q1, .slice a2 im.wi.length q2, .slice a3 im.ow.length q3] 112)).heap.size := by simp
  have HSZ0 := hid hsz0
  generalize w.alloc (.cells #[.int .i64 im.gap, .int .i64 n, .slice a1 im.ws.length q1, .slice a2 im.wi.length q2, .slice a3 im.ow.length q3] 112) = wa at *
  have c0 : wa.cell? ⟨w.heap.size, 0, none⟩ = some (.int .i64 im.gap) := row_cell HP.out 0
  have c1 : wa.cell? ⟨w.heap.size, 1, none⟩ = some (.int .i64 n) := row_cell HP.out 1
  have c2 : wa.cell? ⟨w.heap.size, 2, none⟩ = some (.slice a1 im.ws.length q1) := row_cell HP.out 2
  have c3 : wa.cell? ⟨w.heap.size, 3, none⟩ = some (.slice a2 im.wi.length q2) := row_cell HP.out 3
  have c4 : wa.cell? ⟨w.heap.size, 4, none⟩ = some (.slice a3 im.ow.length q3) := row_cell HP.out 4
  have d : ∀ (o : Obj) (j : Nat), (wa.alloc o).cell? ⟨w.heap.size, j, none⟩ = wa.cell? ⟨w.heap.size, j, none⟩ := fun o j => (row_cell (get_alloc HP.out o) j).trans (row_cell HP.out j).symm
  have d0 := fun o => (d o 0).trans c0
  have d1 := fun o => (d o 1).trans c1
  have d3 := fun o => (d o 3).trans c3
  have d4 := fun o => (d o 4).trans c4
  have e0 : ∀ (o o' : Obj) (j : Nat), ((wa.alloc o).alloc o').cell? ⟨w.heap.size, j, none⟩ = wa.cell? ⟨w.heap.size, j, none⟩ := fun o o' j => (row_cell (get_alloc (get_alloc HP.out o) o') j).trans (row_cell HP.out j).symm
  have e1 := fun o o' => (e0 o o' 0).trans c0
  have e3 := fun o o' => (e0 o o' 3).trans c3
  clear hsz0 d e0
  go_cut [3] from 9 (fun v3 wx => ∃ X M D, v3 = .pointer (some ⟨X, 0, none⟩) ∧ KerIn w im (.slice a2 im.wi.length q2) X M n D (memN im 0) xs 0 0 (.slice none 0 0) (.slice none 0 0) wx ∧ wx.heap[w.heap.size]? = some (.cells #[.int .i64 im.gap, .int .i64 n, .slice a1 im.ws.length q1, .slice a2 im.wi.length q2, .slice a3 im.ow.length q3] 112 (0, 0)))
  case first =>
    go_region
    all_goals
      go_wp2_with fail
      go_meet
    case rel => exact ⟨_, _, _, rfl, KerIn.init1 HF0.out HNM.out xs, get_alloc (get_alloc (get_alloc HP.out _) _) _⟩
    case rel => exact ⟨_, _, _, rfl, KerIn.init2 HF0.out HNM.out xs, get_alloc (get_alloc (get_alloc HP.out _) _) _⟩
  case rest =>
    obtain ⟨X, M, D, rfl, hK, hp⟩ := hcut
    have HK0 := hid hK
    have cw : wc.cell? ⟨w.heap.size, 2, none⟩ = some (.slice a1 im.ws.length q1) := row_cell hp 2
    obtain ⟨prow, hprow⟩ : ∃ prow : Array Value, prow = #[.int .i64 im.gap, .int .i64 n, .slice a1 im.ws.length q1, .slice a2 im.wi.length q2, .slice a3 im.ow.length q3] := ⟨_, rfl⟩
    rw [← hprow] at hp
    have HPC : Hid (PlanCell w wc prow) := hp
    have HPR := hid hprow
    clear hprow
    clear hK hp c0 c1 c2 c3 c4 d0 d1 d3 d4 e1 e3 hmk1 hmk2 HP HF0 HSZ0
    have hxl : xs.length = im.ws.length := by rw [← HXS.out]; simp
    have HXL := hid hxl
    clear hxl
    go_wp2_with fail
    go_loopw [26] (fun i wr => ∃ k : Nat, k ≤ im.ws.length ∧ i = .int .i64 k ∧ (∃ vQ vK, KerIn w im (.slice a2 im.wi.length q2) X M n D (memN im k) xs k k vQ vK wr) ∧ PlanCell w wr prow) (fun i _ => im.ws.length - (intOf i).toNat)
    case atStart => exact ⟨0, Nat.zero_le _, rfl, ⟨_, _, HK0.out⟩, HPC.out⟩
    case round =>
      obtain ⟨k, hk, rfl, ⟨vQ, vK, hK⟩, hPC⟩ := hrel
      clear HK0 cw HPC
      by_cases hlt : k < im.ws.length
      · have hkx : k < xs.length := by rw [HXL.out]; exact hlt
        have ho := hK.fr.ownsF _ HOWN.out
        obtain ⟨gv, cp, hv, -, hgl⟩ := ho.form (by omega)
        simp only [Value.slice.injEq] at hv
        obtain ⟨rfl, -, rfl⟩ := hv
        rw [← HXL.out] at ho
        have hcell : ∀ c', c' < 4 → wr.cell? ⟨gv, k * 4 + c', none⟩ = (wardCells xs[k])[c']? := by
          intro c' hc'
          rw [ho.cellAt (k * 4 + c') (by omega), flat_get wardCells 4 (fun _ => rfl) xs k c' hkx hc']
        have hxk := HX.out xs[k] (List.getElem_mem hkx)
        have ck0 : wr.cell? ⟨gv, k * 4, none⟩ = some (.int .i64 xs[k].1.q) := hcell 0 (by omega)
        have ck1 : wr.cell? ⟨gv, k * 4 + 1, none⟩ = some (.int .u32 xs[k].1.bg) := hcell 1 (by omega)
        obtain ⟨ar, cr, har⟩ := owns_shape hxk.1
        obtain ⟨ap, cq, hap⟩ := owns_shape hxk.2
        have ck2 : wr.cell? ⟨gv, k * 4 + 2, none⟩ = some (.slice ar xs[k].1.regs.length cr) := by rw [← har]; exact hcell 2 (by omega)
        have ck3 : wr.cell? ⟨gv, k * 4 + 3, none⟩ = some (.slice ap xs[k].1.prog.length cq) := by rw [← hap]; exact hcell 3 (by omega)
        have hlt' : (k : Int) < (im.ws.length : Int) := by omega
        have HKK := hid hK
        have HXK := hid hxk
        have HHK := hid hkx
        have HAR := hid har
        have HAP := hid hap
        have HPC1 := hid hPC
        clear hcell ho hK hxk har hap hPC
        go_wp2_with fail
        clear ck0 ck1 ck2 ck3
        have HKA := hid (HKK.out.on ((Fr.refl _ wr).alloc (.cells #[.int .i64 xs[k].1.q, .int .u32 xs[k].1.bg, .slice ar xs[k].1.regs.length cr, .slice ap xs[k].1.prog.length cq] 148)))
        have gL := heap_new wr (.cells #[.int .i64 xs[k].1.q, .int .u32 xs[k].1.bg, .slice ar xs[k].1.regs.length cr, .slice ap xs[k].1.prog.length cq] 148)
        have HPC2 : Hid (PlanCell w (wr.alloc (.cells #[.int .i64 xs[k].1.q, .int .u32 xs[k].1.bg, .slice ar xs[k].1.regs.length cr, .slice ap xs[k].1.prog.length cq] 148)) prow) := get_alloc HPC1.out _
        generalize wr.alloc (.cells #[.int .i64 xs[k].1.q, .int .u32 xs[k].1.bg, .slice ar xs[k].1.regs.length cr, .slice ap xs[k].1.prog.length cq] 148) = wb at *
        generalize wr.heap.size = L at *
        have hr1 := HFIT.out.reg im.ws[k] (List.getElem_mem hlt)
        have hwk : im.ws[k] = xs[k].1 := by
          have : im.ws[k]? = some xs[k].1 := by rw [← HXS.out, List.getElem?_map, List.getElem?_eq_getElem hkx]; rfl
          rw [List.getElem?_eq_getElem hlt] at this
          exact Option.some.inj this
        rw [hwk] at hr1
        clear HKK HPC1
        generalize hxe : xs[k] = xk at *
        obtain ⟨xw, vr, vp⟩ := xk
        simp only at HAR HAP hr1 HXK gL hwk
        have HR1 := hid hr1
        have HWK := hid hwk
        have HXE : Hid (xs[k]? = some (xw, vr, vp)) := by unfold Hid; rw [List.getElem?_eq_getElem hkx]; exact congrArg some hxe
        have HGL := hid gL
        have cL0 : wb.cell? ⟨L, 0, none⟩ = some (.int .i64 xw.q) := row_cell gL 0
        have cX3 : wb.cell? ⟨X, 3, none⟩ = some vQ := row_cell HKA.out.hx 3
        have cL0' : wb.drew.cell? ⟨L, 0, none⟩ = some (.int .i64 xw.q) := row_cell gL 0
        have cX3' : ∀ o, (wb.alloc o).drew.cell? ⟨X, 3, none⟩ = some vQ := fun o => row_cell (get_alloc HKA.out.hx o) 3
        have hk3 : k + 1 ≤ 1073741824 := by omega
        have HQ1 : Hid (∀ o, (wb.alloc o).drew.ownsRow w.heap.size 3 1 vQ k ((xs.take k).map qCell)) := fun o => HKA.out.hq.alloc o
        have HB1 : Hid (∀ o, (wb.alloc o).drew.heap[wb.heap.size]? = some o) := fun o => heap_alloc_new wb o
        have HS1 : Hid (∀ o, w.heap.size ≤ (wb.alloc o).drew.heap.size) := fun o => le_alloc HKA.out.fr.size o
        have HG3 : Hid (∀ o w3, Fr (fun i => vQ.ownBlock = some i) (wb.alloc o).drew w3 → w3.heap[X]? = some (.cells #[.slice (some ⟨M, 0, none⟩) n n, .int .i64 0, .int .i64 im.gap, vQ, vK, .slice a2 im.wi.length q2, .slice (some ⟨D, 0, none⟩) im.ow.length im.ow.length] 101 (0, 0))) := fun o w3 hf => hf.undrew.getT (HKA.out.hq.alloc o) (get_alloc HKA.out.hx o) (by decide)
        have HE5 : Hid (∀ o w3 gg cap, w3.ownsRow w.heap.size 3 1 (.slice (some ⟨gg, 0, none⟩) (k + 1) cap) (k + 1) ((xs.take k).map qCell ++ (#[.int .i64 xw.q] : Array Value).toList) → Fr (fun i => vQ.ownBlock = some i) (wb.alloc o).drew w3 → ∃ vQ', KerIn w im (.slice a2 im.wi.length q2) X M n D (memN im k) xs (k + 1) k vQ' vK (w3.setCell ⟨X, 3, none⟩ (.slice (some ⟨gg, 0, none⟩) (k + 1) cap)) ∧ (w3.setCell ⟨X, 3, none⟩ (.slice (some ⟨gg, 0, none⟩) (k + 1) cap)).heap[L]? = some (.cells #[.int .i64 xw.q, .int .u32 xw.bg, .slice ar xw.regs.length cr, .slice ap xw.prog.length cq] 148 (0, 0)) ∧ PlanCell w (w3.setCell ⟨X, 3, none⟩ (.slice (some ⟨gg, 0, none⟩) (k + 1) cap)) prow) := by
          intro o w3 gg cap hown3 hf3
          have hKa := HKA.out.on ((Fr.refl _ wb).alloc o)
          have hf4 := hf3.undrew
          have gl3 := hf4.getT hKa.hq (get_alloc HGL.out o) (by decide)
          have gp3 := hf4.getT hKa.hq (get_alloc HPC2.out o) (by decide)
          have gx3 := hf4.getT hKa.hq hKa.hx (by decide)
          exact ⟨_, KerIn.appQ hKa (xw, vr, vp) HXE.out hown3 hf4, set_other gl3 (ne_of_ty gl3 gx3 (by decide)) _, set_other gp3 (ne_of_ty gp3 gx3 (by decide)) _⟩
        clear gL hkx hxe hr1 hwk
        go_cut [] from 27 to 83 (fun wx => ∃ vQ', KerIn w im (.slice a2 im.wi.length q2) X M n D (memN im k) xs (k + 1) k vQ' vK wx ∧ wx.heap[L]? = some (.cells #[.int .i64 xw.q, .int .u32 xw.bg, .slice ar xw.regs.length cr, .slice ap xw.prog.length cq] 148 (0, 0)) ∧ PlanCell w wx prow)
        case first =>
          go_region_law
            (first
              | (refine step_app slInt (by rfl) _ _ (by rfl) w.heap.size vQ k _ (by rfl) (HQ1.out _) wb.heap.size #[.int .i64 xw.q] _ (by rfl) (HB1.out _) rfl (by simp [Value.oneCell']) hk3 (by decide) (HS1.out _) ?_; intro gg cap w3 hown3 hf3 hat; have gX3 := HG3.out _ _ hf3; have cX33 : w3.cell? ⟨X, 3, none⟩ = some vQ := row_cell gX3 3; have fX3 := row_frozen gX3 3))
          all_goals
            have HR := hid (HE5.out _ _ _ _ hown3 hf3)
            clear hown3 hf3 hat gX3 cX33 fX3
            go_wp2_with fail
            go_meet
          all_goals exact HR.out
        case rest =>
          clear HE5 HG3 HS1 HB1 HQ1 cX3' cL0' cX3 cL0 HKA HGL HPC2
          obtain ⟨vQ', hK', gL', hP'⟩ := hcut
          have HKB := hid hK'
          have HGL := hid gL'
          have HPB := hid hP'
          have cL1 : wc.cell? ⟨L, 1, none⟩ = some (.int .u32 xw.bg) := row_cell gL' 1
          have cL2 : wc.cell? ⟨L, 2, none⟩ = some (.slice ar xw.regs.length cr) := row_cell gL' 2
          have cX4 : wc.cell? ⟨X, 4, none⟩ = some vK := row_cell hK'.hx 4
          have HFA2 : Hid (∀ w2, Fr (fun _ => False) wc.drew w2 → KerIn w im (.slice a2 im.wi.length q2) X M n D (memN im k) xs (k + 1) k vQ' vK w2 ∧ w2.heap[L]? = some (.cells #[.int .i64 xw.q, .int .u32 xw.bg, .slice ar xw.regs.length cr, .slice ap xw.prog.length cq] 148 (0, 0)) ∧ PlanCell w w2 prow) := fun w2 hf => ⟨HKB.out.on hf.undrew, hf.undrew.get HGL.out id, hf.undrew.get HPB.out id⟩
          have FIN : ∀ (w2 w3 : World) (gg cap : Nat) (o : Obj), Fr (fun _ => False) wc.drew w2 → w3.ownsRow w.heap.size 94 15 (.slice (some ⟨gg, 0, none⟩) (k + 1) cap) (k + 1) ((xs.take k).flatMap kwNew ++ (kwNew (xw, .slice ar xw.regs.length cr, vp)).toArray.toList) → Fr (fun i => vK.ownBlock = some i) (w2.alloc o) w3 →
              ∃ v', KerIn w im (.slice a2 im.wi.length q2) X M n D (memN im k) xs (k + 1) (k + 1) vQ' v' (w3.setCell ⟨X, 4, none⟩ (.slice (some ⟨gg, 0, none⟩) (k + 1) cap)) ∧ (w3.setCell ⟨X, 4, none⟩ (.slice (some ⟨gg, 0, none⟩) (k + 1) cap)).heap[L]? = some (.cells #[.int .i64 xw.q, .int .u32 xw.bg, .slice ar xw.regs.length cr, .slice ap xw.prog.length cq] 148 (0, 0)) ∧ PlanCell w (w3.setCell ⟨X, 4, none⟩ (.slice (some ⟨gg, 0, none⟩) (k + 1) cap)) prow := by
            intro w2 w3 gg cap o hf2 hown3 hf3
            obtain ⟨hK2, gL2, gP2⟩ := HFA2.out w2 hf2
            have hKa := hK2.on ((Fr.refl _ w2).alloc o)
            have gl3 := hf3.getT hKa.hk (get_alloc gL2 o) (by decide)
            have gp3 := hf3.getT hKa.hk (get_alloc gP2 o) (by decide)
            have gx3 := hf3.getT hKa.hk hKa.hx (by decide)
            rw [← HAR.out] at hown3
            exact ⟨_, KerIn.app hKa (xw, vr, vp) HXE.out hown3 hf3, set_other gl3 (ne_of_ty gl3 gx3 (by decide)) _, set_other gp3 (ne_of_ty gp3 gx3 (by decide)) _⟩
          have HFIN := hid FIN
          clear FIN hK' gL' hP'
          go_wp2_with fail
          go_cut [] from 27 to 83 (fun wx => ∃ v', KerIn w im (.slice a2 im.wi.length q2) X M n D (memN im k) xs (k + 1) (k + 1) vQ' v' wx ∧ wx.heap[L]? = some (.cells #[.int .i64 xw.q, .int .u32 xw.bg, .slice ar xw.regs.length cr, .slice ap xw.prog.length cq] 148 (0, 0)) ∧ PlanCell w wx prow)
          case first =>
            go_region_law
              (first
                | (refine step_call Tryz.func73 (by kernel_rfl) (by kernel_rfl) (by rfl) (by rfl) [.int .u32 xw.bg] (by rfl) ((begin_any xw.bg _).mono ?_); rintro e w2 ⟨rfl, hf2⟩; refine ⟨_, rfl, ?_⟩; have hK2 := (HFA2.out w2 hf2).1; have gL2 := (HFA2.out w2 hf2).2.1; have cL12 : w2.cell? ⟨L, 1, none⟩ = some (.int .u32 xw.bg) := row_cell gL2 1; have cL22 : w2.cell? ⟨L, 2, none⟩ = some (.slice ar xw.regs.length cr) := row_cell gL2 2; have cX22 : w2.cell? ⟨X, 4, none⟩ = some vK := row_cell hK2.hx 4; have cX2a : ∀ o, (w2.alloc o).cell? ⟨X, 4, none⟩ = some vK := fun o => row_cell (get_alloc hK2.hx o) 4)
                | (refine step_app slKw (by rfl) _ _ (by rfl) w.heap.size vK k _ (by rfl) (hK2.hk.alloc _) w2.heap.size (kwNew (xw, .slice ar xw.regs.length cr, vp)).toArray _ (by rfl) (heap_alloc_new w2 _) rfl (kwNew_one xw ar xw.regs.length cr vp) hk3 (by decide) (le_alloc hK2.fr.size _) ?_; intro gg cap w3 hown3 hf3 hat; have gX3 := hf3.getT (hK2.hk.alloc _) (get_alloc hK2.hx _) (by decide); have cX3 : w3.cell? ⟨X, 4, none⟩ = some vK := row_cell gX3 4; have fX3 := row_frozen gX3 4))
            all_goals
              have HR := hid (HFIN.out _ _ _ _ _ hf2 hown3 hf3)
              clear hown3 hf3 hat gX3 cX3 fX3 hK2 gL2 cL12 cL22 cX22 cX2a hf2
              go_wp2_with fail
              go_meet
            all_goals exact HR.out
          case rest =>
            obtain ⟨v', hK', gL', hP'⟩ := hcut
            clear HFIN HFA2 cL1 cL2 cX4 HKB HGL HPB
            have hkx : k < xs.length := HHK.out
            have hr1 := HR1.out
            have hwk := HWK.out
            obtain ⟨gK, cpK, hvK, hgK1, hgK2⟩ := hK'.hk.form (by omega)
            subst hvK
            have cX2 : wc.cell? ⟨X, 4, none⟩ = some (.slice (some ⟨gK, 0, none⟩) (k + 1) cpK) := row_cell hK'.hx 4
            have HK1 := hid hK'
            have HG1 := hid gL'
            have HP1 := hid hP'
            have hkk : (k : Int) < ((k + 1 : Nat) : Int) := by omega
            have hkk' : k < k + 1 := by omega
            have hkk2 : (k : Int) < (k : Int) + 1 := by omega
            have hkk0 : (0 : Int) ≤ (k : Int) := by omega
            have hmem : (memN im k).length = n := by have := memN_len im HFIT.out k (by omega); rw [this, HNM.out]; rfl
            have HMEM := hid hmem
            have hkern := HFIT.out.kern
            have hkn : 32 + 16 * k ≤ n := by have := HNM.out; omega
            clear hK' gL' hmem hkern hP'
            go_wp2_with fail
            have hst : ∀ (wz : World), Fr (fun _ => False) wc wz → ∀ j u, (stCells (st0 xw.bg))[j]? = some u → wz.cell? ⟨gK, k * 15 + j, none⟩ = some u := by
              intro wz hf j u hu
              have h1 := (hf.ownsF _ HK1.out.hk)
              have hj : j < 13 := by
                have := (List.getElem?_eq_some_iff.1 hu).1
                simpa [stCells, st0] using this
              have hl : (xs.take (k + 1)).length = k + 1 := by simp; omega
              rw [h1.cellAt (k * 15 + j) (by omega), flat_get kwNew 15 kwNew_len (xs.take (k + 1)) k j (by omega) (by omega)]
              have he : (xs.take (k + 1))[k]'(by omega) = (xw, vr, vp) := by
                obtain ⟨h1, h2⟩ := List.getElem?_eq_some_iff.1 HXE.out
                simp [h2]
              rw [he]
              unfold kwNew
              rw [List.getElem?_append_left (by simp [stCells, st0]; omega)]
              exact hu
            have HST := hid hst
            have hok : (st0 xw.bg).Ok := by simp [StV.Ok, st0]
            have HSOK := hid hok
            have hgM : gK ≠ M := by
              intro e
              have h1 := owns_ne HK1.out.hk HK1.out.hm (by decide)
              exact h1 (by simp [Value.ownBlock, e])
            have hoff : 16 + 16 * k + 16 ≤ (memN im k).length := by rw [HMEM.out]; omega
            have hml : (memN im k).length ≤ 1024 := by rw [HMEM.out]; exact hn1
            have hcp : 16 ≤ n - (16 + 16 * k) := by omega
            have hxx : wc.cell? ⟨X, 0, none⟩ = some (.slice (some ⟨M, 0, none⟩) n n) := row_cell HK1.out.hx 0
            have hLM : L ≠ M := ne_of_ty HG1.out HK1.out.hm (by decide)
            have HPM : Hid (w.heap.size ≠ M) := ne_of_ty HP1.out HK1.out.hm (by decide)
            clear hst hok
            go_region_held3 (fun w' => w'.cell? ⟨X, 4, none⟩ = some (.slice (some ⟨gK, 0, none⟩) (k + 1) cpK))
              (go_keep)
              (first
                | (go_at_call 67; refine (area_any X M n k _ ?_ hkn hn1).mono ?_; exact hxx; rintro e w5 ⟨rfl, rfl⟩)
                | (go_at_call 74; refine (save_any gK (k * 15) M (16 + 16 * k) (n - (16 + 16 * k)) (st0 xw.bg) (memN im k) _ HSOK.out hgM ?_ ?_ hoff hml hcp).mono ?_; exact HST.out _ ((Fr.refl _ wc).drew); exact HK1.out.hm; rintro e w6 ⟨rfl, hm6, hf6⟩; have hK6 := KerIn.wr HK1.out hm6 hf6.undrew; have cX26 : w6.cell? ⟨X, 4, none⟩ = some (.slice (some ⟨gK, 0, none⟩) (k + 1) cpK) := row_cell hK6.hx 4; have gL6 := hf6.get1 HG1.out hLM; have gP6 : PlanCell w w6 prow := hf6.get1 HP1.out HPM.out))
            obtain ⟨bb, hbb⟩ := Int.eq_ofNat_of_zero_le hr1.2.1
            have hreg := HXK.out.1
            have hprg := HXK.out.2
            rw [HAR.out] at hreg
            rw [HAP.out] at hprg
            obtain ⟨gr, cr', hvr, -, hgr2⟩ := hreg.form (by omega)
            simp only [Value.slice.injEq] at hvr
            obtain ⟨rfl, -, rfl⟩ := hvr
            have hgrM : gr ≠ M := by have := HK1.out.m1; omega
            have cR : w6.cell? ⟨gr, 2, none⟩ = some (.int .i64 (bb : Int)) := by
              have h1 := hK6.fr.ownsF _ hreg
              rw [h1.cellAt 2 (by omega), flat_base _ hr1.1, hbb]
            have cX0 : w6.cell? ⟨X, 0, none⟩ = some (.slice (some ⟨M, 0, none⟩) n n) := row_cell hK6.hx 0
            have cL2 : w6.cell? ⟨L, 2, none⟩ = some (.slice (some ⟨gr, 0, none⟩) xw.regs.length cr) := row_cell gL6 2
            have cL3 : w6.cell? ⟨L, 3, none⟩ = some (.slice ap xw.prog.length cq) := row_cell gL6 3
            have hL0 : (0 : Int) < (xw.regs.length : Int) := by omega
            have hL0' : 0 < xw.regs.length := by omega
            have hmm := HNM.out
            have hb1 : (bb : Int) < (n : Int) := by omega
            have hb1' : bb < n := by omega
            have hb1e : (bb : Int) ≤ (n : Int) := by omega
            have hb1e' : bb ≤ n := by omega
            have hnb : ¬ n = bb := by omega
            have hpl : bb + xw.prog.length ≤ n := by omega
            have hmem6 : (splice (memN im k) (16 + 16 * k) (stWords (st0 xw.bg))).length = n := by
              rw [length_splice _ _ _ (by simp [stWords, st0]; omega), HMEM.out]
            have hn7 : (wordCells xw.prog).length = Nat.min xw.prog.length (n - bb) := by rw [show Nat.min xw.prog.length (n - bb) = xw.prog.length from Nat.min_eq_left (by omega)]; simp [wordCells]
            have hfit7 : bb + (wordCells xw.prog).length ≤ (wordCells (splice (memN im k) (16 + 16 * k) (stWords (st0 xw.bg)))).length := by simp [wordCells, hmem6]; omega
            have hone7 : ∀ v ∈ wordCells xw.prog, v.oneCell' = true := ints_oneCell .u32 xw.prog
            have hpos7 : ∀ wz, Fr (fun _ => False) w6 wz → 0 < (wordCells xw.prog).length → ∃ ad, ap = some ad ∧ ∀ j v, (wordCells xw.prog)[j]? = some v → wz.cell? (ad.add j) = some v := by
              intro wz hf hp
              obtain ⟨gp, cp', hvp, -, hgp2⟩ := hprg.form (by simpa [wordCells] using hp)
              simp only [Value.slice.injEq] at hvp
              refine ⟨⟨gp, 0, none⟩, hvp.1, ?_⟩
              have h1 := (hK6.on hf).fr.ownsF _ hprg
              intro j v hj
              exact h1.cells (by rw [hvp.1]; rfl) j v hj
            have HP7 := hid hpos7
            have HK6 := hid hK6
            have HGL6 := hid gL6
            have HGP6 := hid gP6
            have HEND : Hid (∀ w7 : World, w7.heap[M]? = some (.cells (splice (wordCells (splice (memN im k) (16 + 16 * k) (stWords (st0 xw.bg)))) bb (wordCells xw.prog)).toArray 33 (0, 0)) → Fr (fun i => i = M) w6 w7 → KerIn w im (.slice a2 im.wi.length q2) X M n D (memN im (k + 1)) xs (k + 1) (k + 1) vQ' (.slice (some ⟨gK, 0, none⟩) (k + 1) cpK) w7) := by
              intro w7 hm7 hf7
              refine KerIn.wr HK6.out ?_ hf7
              have e1 : memN im (k + 1) = splice (splice (memN im k) (16 + 16 * k) (stWords (st0 xw.bg))) bb xw.prog := by
                have hwk' : im.ws[k]? = some xw := by rw [List.getElem?_eq_getElem hlt, hwk]
                simp only [memN, hwk', hbb]
                rfl
              rw [e1, hm7]
              unfold wordCells
              rw [splice_map]
            have hXM : X ≠ M := ne_of_ty HK6.out.hx HK6.out.hm (by decide)
            clear hpos7 hK6 gL6 gP6 hreg hprg hr1 hf6 hm6 cX26 hmem6 hbb hmm hcp hml hoff hxx hwk
            go_wp2_with fail
            go_region_held3 (fun w' => w'.cell? ⟨X, 0, none⟩ = some (.slice (some ⟨M, 0, none⟩) n n) ∧ w'.cell? ⟨L, 2, none⟩ = some (.slice (some ⟨gr, 0, none⟩) xw.regs.length cr) ∧ w'.cell? ⟨L, 3, none⟩ = some (.slice ap xw.prog.length cq) ∧ w'.cell? ⟨gr, 2, none⟩ = some (.int .i64 (bb : Int)))
              (go_keep)
              ((refine step_copyF (by rfl) _ _ _ _ (by rfl) 33 Tryz.underlying35 (by kernel_rfl) M bb (n - bb) (n - bb) ap xw.prog.length cq (by rfl) (by rfl) (wordCells (splice (memN im k) (16 + 16 * k) (stWords (st0 xw.bg)))) 33 HK6.out.hm (wordCells xw.prog) hn7 (HP7.out _ ((Fr.refl _ w6).drew)) hfit7 hone7 ?_; intro w7 hm7 hf7; have hK7 := HEND.out w7 hm7 hf7.undrew; have dX0 : w7.cell? ⟨X, 0, none⟩ = some (.slice (some ⟨M, 0, none⟩) n n) := row_cell hK7.hx 0; have gL7 := hf7.get1 HGL6.out hLM; have gP7 : PlanCell w w7 prow := hf7.get1 HGP6.out HPM.out; have dL2 : w7.cell? ⟨L, 2, none⟩ = some (.slice (some ⟨gr, 0, none⟩) xw.regs.length cr) := row_cell gL7 2; have dL3 : w7.cell? ⟨L, 3, none⟩ = some (.slice ap xw.prog.length cq) := row_cell gL7 3; have dR := (World.cell?_of_block (hf7.block gr (World.block_lt_of_cell? w6 _ cR) hgrM)).trans cR))
            have HK7 := hid hK7
            have HP7b := hid gP7
            clear hK7 dX0 gL7 dL2 dL3 dR hm7 hf7 gP7
            go_wp2_with fail
            go_roundw
            case rel => exact ⟨k + 1, by omega, by go_num, ⟨_, _, HK7.out⟩, HP7b.out⟩
            case measure => simp [intOf]; omega
      · obtain rfl : k = im.ws.length := by omega
        have hK2 : KerIn w im (.slice a2 im.wi.length q2) X M n D (memN im im.ws.length) xs xs.length xs.length vQ vK wr := by rw [HXL.out]; exact hK
        obtain ⟨gK, cK, rfl, hD⟩ := KerDv.zero hK2 (by rw [HXL.out]; exact HFIT.out.w1)
        have cv : wr.cell? ⟨w.heap.size, 4, none⟩ = some (.slice a3 im.ow.length q3) := by rw [row_cell hPC, HPR.out]; rfl
        have HD := hid hD
        clear hK hK2 hD hPC
        go_wp2_with fail
        clear cv
        go_loopw [87] (fun i wr => ∃ j : Nat, j ≤ im.ow.length ∧ i = .int .i64 j ∧ ∃ vD, KerDv w im (.slice a2 im.wi.length q2) X M n D (memN im im.ws.length) xs j vQ gK cK vD wr) (fun i _ => im.ow.length - (intOf i).toNat)
        case atStart => exact ⟨0, Nat.zero_le _, rfl, _, HD.out⟩
        case round =>
          obtain ⟨j, hj, rfl, vD, hD⟩ := hrel
          by_cases hlt : j < im.ow.length
          · have hoj : im.ow[j]? = some im.ow[j] := List.getElem?_eq_getElem hlt
            have hob := HFIT.out.own im.ow[j] (List.getElem_mem hlt)
            have hgd : im.ow.getD j 0 = im.ow[j] := by simp [hlt]
            have hov := HV.out.ow
            obtain ⟨go, co, hvo, -, hgo⟩ := hov.form (by omega)
            simp only [Value.slice.injEq] at hvo
            obtain ⟨rfl, -, rfl⟩ := hvo
            have ho2 := hD.fr.ownsF _ hov
            have co : wr.cell? ⟨go, j, none⟩ = some (.int .i64 im.ow[j]) := by
              have h1 := ho2.cellAt j (by omega)
              rw [h1, List.getElem?_map, hoj]
              rfl
            obtain ⟨ko, hko⟩ := Int.eq_ofNat_of_zero_le hob.1
            rw [hko] at hob hgd co
            have hkl : ko < xs.length := by rw [HXL.out]; omega
            obtain ⟨cur, hc, hcv⟩ := hD.hk
            have hxk : xs[ko]? = some xs[ko] := List.getElem?_eq_getElem hkl
            have c14 : cur[ko * 15 + 14]? = some (vD.getD ko nilV) := hcv ko _ hxk 14 _ (by simp [kwD, stCells, st0])
            have ck : wr.cell? ⟨gK, ko * 15 + 14, none⟩ = some (vD.getD ko nilV) := (row_cell hc _).trans c14
            have cX4 : wr.cell? ⟨X, 4, none⟩ = some (.slice (some ⟨gK, 0, none⟩) xs.length cK) := row_cell hD.hx 4
            have hki : (ko : Int) < (xs.length : Int) := by omega
            have hji : (j : Int) < (im.ow.length : Int) := by omega
            have HDD := hid hD
            have HCV := hid hc
            have HGD := hid hgd
            have hlen : (devsOf im.ow ko j).length + 1 ≤ 1073741824 := by have := devsOf_le im.ow ko j; omega
            have cka : ∀ o, (wr.alloc o).cell? ⟨gK, ko * 15 + 14, none⟩ = some (vD.getD ko nilV) := fun o => (row_cell (get_alloc hc o) _).trans c14
            clear hD hc hcv hoj hgd hov ho2 hgo c14 hob
            go_wp2_with (refine wpList_app slInt (by rfl) _ _ (by rfl) w.heap.size (vD.getD ko nilV) _ _ (by rfl) ((HDD.out.dv ko hkl).alloc _) wr.heap.size #[.int .i64 (j : Int)] _ (by rfl) (heap_alloc_new wr _) rfl (by simp [Value.oneCell']) hlen (by decide) (le_alloc HDD.out.fr.size _) ?_; intro gg cap w3 hown3 hf3 hat; have gk3 := hf3.getT ((HDD.out.dv ko hkl).alloc _) (get_alloc HCV.out _) (by decide); have ck3 : w3.cell? ⟨gK, ko * 15 + 14, none⟩ = wr.cell? ⟨gK, ko * 15 + 14, none⟩ := (row_cell gk3 _).trans (row_cell HCV.out _).symm; rw [ck] at ck3; have fk3 := row_frozen gk3 (ko * 15 + 14); have HN := hid (KerDv.step (HDD.out.on ((Fr.refl _ wr).alloc _)) ko hkl HGD.out gg cap rfl hown3 hf3 hat); clear hown3 hf3 hat gk3)
            go_roundw
            case rel => exact ⟨j + 1, by omega, by go_num, _, HN.out⟩
            case measure => simp [intOf]; omega
          · obtain rfl : j = im.ow.length := by omega
            go_wp2_with fail
            go_ret
            exact ⟨X, M, D, vQ, gK, cK, vD, rfl, by rw [Int.toNat_natCast]; exact hD⟩

end Go.Proofs.YthmcheoehcmglaaGreat
