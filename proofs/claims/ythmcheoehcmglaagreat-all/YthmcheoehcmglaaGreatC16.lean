/- A cycle of the machine, walked. -/
import Derived.Test.YthmcheoehcmglaaGreatC15
namespace Go.Proofs.YthmcheoehcmglaaGreat
open Go.RowKit
set_option linter.unusedVariables false
attribute [local go_sem ↓] Go.wp_at_zero Go.wp_at_succ

/-- The blocks that a cycle may write. -/
def KA (x : KX) (vL : List Value) (i : Nat) : Prop := i = x.X ∨ i = x.M ∨ i = x.gK ∨ i = x.gD ∨ ∃ v ∈ vL, v.ownBlock = some i

def KerM (x : KX) (s : KM) (vL : List Value) (w : World) : Prop := KerF x s.ck s.mem s.sts s.devs vL w

theorem KerF.ltA {x : KX} {ck : Int} {mem : List Int} {sts : List StV} {devs : List DevV} {vL : List Value} {w : World} (h : KerF x ck mem sts devs vL w) {i : Nat} (hi : KA x vL i) : i < w.heap.size := by
  rcases hi with rfl | rfl | rfl | rfl | ⟨v, hv, e⟩
  · exact lt_of_get h.r.hx
  · exact lt_of_get h.r.hm
  · exact h.st.elim fun L hL => lt_of_get hL.1
  · exact lt_of_get h.d.hd
  · obtain ⟨cs, hcs⟩ := h.d.own hv e
    exact lt_of_get hcs

/-- A ward's cycle, at the machine. -/
theorem wcycle_any (x : KX) (ck : Int) (hck : ck ≤ 9223372036854775807) (mem : List Int) (sts : List StV) (devs : List DevV) (vL : List Value) (w : World) (h : KerF x ck mem sts devs vL w) (hL : LogOk devs) (k : Nat) (hk : k < x.regs.length) (s : StV) (hs : sts[k]? = some s) :
    Calls Tryz.prog 63 #[.pointer (some ⟨x.gK, k * 15, none⟩), .iface 139 (turnVal x k)] w fun e w' => e = .returned (.tuple #[]) ∧ ∃ vL', KerF x ck (cycleM (opsK x k ck) s (mem, devs)).2.1 (sts.set k (cycleM (opsK x k ck) s (mem, devs)).1) (cycleM (opsK x k ck) s (mem, devs)).2.2 vL' w' ∧ LogsIn vL vL' w.heap.size ∧ Fr (KA x vL) w w' := by
  have hwl := h.r.wl
  have hsB := h.sb s (List.mem_of_getElem? hs)
  obtain ⟨L, hA, hS⟩ := h.stAt k s hs
  have ok := outOk x ck hck h.vdl vL w.heap.size k hk (by omega)
  have hR : RK x ck vL w.heap.size (mem, devs) w := ⟨h.r, h.d, hL, Nat.le_refl _⟩
  have hgk := h.d.notT hA.h (by decide) (by decide)
  have hgM : x.gK ≠ x.M := by
    intro e
    have h1 := hA.h
    rw [e, h.r.hm] at h1
    simp only [Option.some.injEq, Obj.cells.injEq] at h1
    exact absurd h1.2.1 (by decide)
  have hb : ¬ KWd x vL x.gK := by
    rintro (e | e | ⟨v, hv, e⟩)
    · exact hgM e
    · exact hgk.1 e
    · exact hgk.2 v hv e
  refine (cycle_st ok w (mem, devs) hR x.gK (k * 15) 94 L s hA hb hsB).mono ?_
  have hB' := cycleM_B ok (mem, devs) w hR s hsB
  generalize cycleM (opsK x k ck) s (mem, devs) = c at *
  rintro e w' ⟨rfl, w1, ⟨hR1, vL', hD1, hl1⟩, hf1, hf2, hA2⟩
  have hL1 := hf1.get hA.h hb
  have hks : k < sts.length := (List.getElem?_eq_some_iff.1 hs).1
  have h1 : KerF x ck c.2.1 sts c.2.2 vL' w1 := ⟨hR1, ⟨L, hL1, hS⟩, h.sl, h.sb, hD1, h.vdl, h.n64, h.q, h.ql⟩
  refine ⟨rfl, vL', h1.ws k hks c.1 hB' L hL1 hS hA2.h hf2, hl1, ?_⟩
  refine (hf1.mono ?_).step hf2 (fun i hi => .inl (.inr (.inr (.inl hi))))
  rintro i (e | e | e)
  · exact .inr (.inl e)
  · exact .inr (.inr (.inr (.inl e)))
  · exact .inr (.inr (.inr (.inr e)))

theorem KerF.ck {x : KX} {ck ck' : Int} {mem : List Int} {sts : List StV} {devs : List DevV} {vL : List Value} {w w' : World} (h : KerF x ck mem sts devs vL w) (c0 : 0 ≤ ck') (hx : w'.heap[x.X]? = some (.cells (kerRow x ck') 101 (0, 0))) (hf : Fr (fun i => i = x.X) w w') : KerF x ck' mem sts devs vL w' := by
  have hX := h.r.hx
  have hM := h.d.notT hX (by decide) (by decide)
  obtain ⟨L, hL, hS⟩ := h.st
  have ne : ∀ {i : Nat} {cs : Array Value} {t : TypeId}, w.heap[i]? = some (.cells cs t (0, 0)) → t ≠ 101 → i ≠ x.X := by
    intro i cs t h1 h2 e
    rw [e, hX] at h1
    simp only [Option.some.injEq, Obj.cells.injEq] at h1
    exact h2 h1.2.1.symm
  have hcell : ∀ j, w'.cell? ⟨x.gK, j, none⟩ = w.cell? ⟨x.gK, j, none⟩ := fun j => World.cell?_of_block (hf.block x.gK (lt_of_get hL) (ne hL (by decide)))
  have hr := h.r
  refine ⟨⟨hx, hf.get hr.hm (ne hr.hm (by decide)), hr.hn, hr.n1, hr.mb, ⟨_, hf.get hL (ne hL (by decide))⟩, hr.kern, hr.wn, hr.wl, ?_, hr.fit, hf.owns1T hX hr.wi (by decide), hr.wi8, c0, hf.owns1T hX hr.hq (by decide), hr.dl, ?_, hr.db, hr.dn8⟩, ⟨L, hf.get hL (ne hL (by decide)), hS⟩, h.sl, h.sb, h.d.fr hf (fun e => hM.1 e.symm) (fun v hv b hbb e => hM.2 v hv (by rw [hbb, e])), h.vdl, h.n64, h.q, h.ql⟩
  · intro k rs hk
    obtain ⟨v, hv, hc, ho⟩ := hr.rg k rs hk
    exact ⟨v, hv, (hcell _).trans hc, hf.owns1T hX ho (by decide)⟩
  · intro k ds hk
    obtain ⟨v, hv, hc, ho⟩ := hr.dg k ds hk
    exact ⟨v, hv, (hcell _).trans hc, hf.owns1T hX ho (by decide)⟩

theorem slot_cells (gap q : Int) (k : Nat) (r : Int) : ∃ a b c, slotV gap q k r = #[.int .i64 k, .bool a, .bool b, .bool c] := by
  unfold slotV
  split
  · exact ⟨_, _, _, rfl⟩
  · exact ⟨_, _, _, rfl⟩

theorem four_set {w : World} {b : Nat} {a0 a1 a2 a3 : Value} {t : TypeId} (h : w.heap[b]? = some (.cells #[a0, a1, a2, a3] t (0, 0))) (v0 v1 v2 v3 : Value) : ((((w.setCell ⟨b, 0, none⟩ v0).setCell ⟨b, 1, none⟩ v1).setCell ⟨b, 2, none⟩ v2).setCell ⟨b, 3, none⟩ v3).heap[b]? = some (.cells #[v0, v1, v2, v3] t (0, 0)) := by
  rw [row_set (row_set (row_set (row_set h 0 v0) 1 v1) 2 v2) 3 v3]
  rfl

theorem areaOk_change {x : KX} {ck : Int} {mem : List Int} {sts : List StV} {devs : List DevV} {vL : List Value} {w : World} (h : KerF x ck mem sts devs vL w) (hA : AreaOk x mem) (k : Nat) (hk : k < x.regs.length) (b : Bool) :
    StB (loadSt (if b then endM x k mem sts else (mem, sts)).1 (16 + 16 * ((k + 1) % x.regs.length))) := by
  have hk' : (k + 1) % x.regs.length < x.regs.length := Nat.mod_lt _ (by omega)
  cases b with
  | false => exact hA _ hk'
  | true =>
    have hks : k < sts.length := by rw [h.sl]; exact hk
    have hs : sts[k]? = some sts[k] := List.getElem?_eq_getElem hks
    have hB := h.sb _ (List.getElem_mem hks)
    have hl : 16 + 16 * x.regs.length ≤ mem.length := by rw [h.r.hn]; have := h.r.kern; omega
    show StB (loadSt (endM x k mem sts).1 _)
    rw [endM_load x k mem sts _ hs hB.l hk hl _ hk']
    split
    · exact hB.y false
    · exact hA _ hk'
theorem actK_ck (x : KX) (s : KM) : (actK x s).ck = s.ck := by
  unfold actK
  simp only
  split <;> rfl

/-- What a cycle leaves behind it. -/
def CyPost (x : KX) (vL : List Value) (s' : KM) (w : World) (e : Ending) (w' : World) : Prop := e = .returned (.tuple #[]) ∧ ∃ vL', KerM x s' vL' w' ∧ LogsIn vL vL' w.heap.size ∧ Fr (KA x vL) w w'

set_option maxRecDepth 100000 in
set_option maxHeartbeats 4000000 in
theorem cycle_any (x : KX) (s : KM) (vL : List Value) (w : World) (h : KerM x s vL w) (hck : s.ck < 9223372036854775807) (hL : LogOk s.devs) (hAr : AreaOk x s.mem) :
    Calls Tryz.prog 44 #[.pointer (some ⟨x.X, 0, none⟩)] w fun e w' => CyPost x vL (cycleK x s) w e w' := by
  unfold KerM at h
  have hr := h.r
  obtain ⟨aQ, cQ, hvQ⟩ := owns_shape hr.hq
  have hql := h.q.l1
  obtain ⟨gQ, cq2, hvQ2, -, -⟩ := hr.hq.form (by omega)
  rw [hvQ] at hvQ2
  simp only [Value.slice.injEq] at hvQ2
  obtain ⟨rfl, -, rfl⟩ := hvQ2
  have hoQ := hr.hq
  rw [hvQ] at hoQ
  have HAT := hid (fun (w1 : World) (hf : Fr (fun _ => False) w w1) => at_any w1 x.gap s.ck x.qs gQ cQ h.q (hf.ownsF _ hoQ) hr.c0)
  have cT2 : w.drew.cell? ⟨x.X, 2, none⟩ = some (.int .i64 x.gap) := row_cell hr.hx 2
  have cT3 : w.drew.cell? ⟨x.X, 3, none⟩ = some (.slice (some ⟨gQ, 0, none⟩) x.qs.length cQ) := (row_cell hr.hx 3).trans (by rw [← hvQ]; rfl)
  have cC : w.drew.cell? ⟨x.X, 1, none⟩ = some (.int .i64 s.ck) := row_cell hr.hx 1
  have HH := hid h
  have HAR := hid hAr
  clear h hr hoQ hAr
  go_enter Tryz.func44, Tryz.ntmps44
  go_wp2_with fail
  have cT2' : ∀ o, (w.alloc o).drew.cell? ⟨x.X, 2, none⟩ = some (.int .i64 x.gap) := fun o => row_cell (get_alloc HH.out.r.hx o) 2
  have cT3' : ∀ o, (w.alloc o).drew.cell? ⟨x.X, 3, none⟩ = some (.slice (some ⟨gQ, 0, none⟩) x.qs.length cQ) := fun o => (row_cell (get_alloc HH.out.r.hx o) 3).trans (by rw [← hvQ]; rfl)
  have cC' : ∀ o, (w.alloc o).drew.cell? ⟨x.X, 1, none⟩ = some (.int .i64 s.ck) := fun o => row_cell (get_alloc HH.out.r.hx o) 1
  have HVQ := hid hvQ
  clear hvQ
  go_cut [2] from 3 (fun v2 wx => ∃ B k, v2 = .pointer (some ⟨B, 0, none⟩) ∧ w.heap.size ≤ B ∧ k < x.qs.length ∧ accN x.gap x.qs k ≤ s.ck % accN x.gap x.qs x.qs.length ∧ s.ck % accN x.gap x.qs x.qs.length < accN x.gap x.qs (k + 1) ∧ wx.heap[B]? = some (.cells (slotV x.gap (x.qs.getD k 0) k (s.ck % accN x.gap x.qs x.qs.length - accN x.gap x.qs k)) 134 (0, 0)) ∧ Fr (fun _ => False) w wx)
  case first =>
    go_region_law
      (first
        | (refine step_call Tryz.func61 (by kernel_rfl) (by kernel_rfl) (by rfl) (by rfl) [.agg #[.int .i64 x.gap, .slice (some ⟨gQ, 0, none⟩) x.qs.length cQ], .int .i64 s.ck] (by rfl) ((HAT.out _ ?_).mono ?_); exact (Fr.refl _ w).drew; rintro e w1 ⟨k, hk, ha1, ha2, rfl, hf1⟩; refine ⟨_, rfl, ?_⟩; obtain ⟨ba, bb, bc, hsl⟩ := slot_cells x.gap (x.qs.getD k 0) k (s.ck % accN x.gap x.qs x.qs.length - accN x.gap x.qs k); rw [hsl]; have HSL := hid hsl; clear hsl)
        | (refine step_call Tryz.func61 (by kernel_rfl) (by kernel_rfl) (by rfl) (by rfl) [.agg #[.int .i64 x.gap, .slice (some ⟨gQ, 0, none⟩) x.qs.length cQ], .int .i64 s.ck] (by rfl) ((HAT.out _ ?_).mono ?_); exact ((Fr.refl _ w).alloc _).drew; rintro e w1 ⟨k, hk, ha1, ha2, rfl, hf1⟩; refine ⟨_, rfl, ?_⟩; have gb := hf1.get (show _ from heap_alloc_new w _) id; have d0 := row_cell gb; have f0 := row_frozen gb; obtain ⟨ba, bb, bc, hsl⟩ := slot_cells x.gap (x.qs.getD k 0) k (s.ck % accN x.gap x.qs x.qs.length - accN x.gap x.qs k); rw [hsl]; have HSL := hid hsl; clear hsl))
    all_goals
      go_wp2_with fail
      go_meet
      first
      | (have gg := gb; refine ⟨w.heap.size, k, rfl, Nat.le_refl _, hk, ha1, ha2, ?_, ?_⟩; rw [HSL.out]; exact four_set gb _ _ _ _; refine Fr.setCell (Fr.setCell (Fr.setCell (Fr.setCell ?_ (.inr (Nat.le_refl _)) _) (.inr (Nat.le_refl _)) _) (.inr (Nat.le_refl _)) _) (.inr (Nat.le_refl _)) _; exact ((Fr.refl _ w).alloc _).drew.step hf1 (fun _ h => .inl h))
      | (refine ⟨w1.heap.size, k, rfl, hf1.size, hk, ha1, ha2, ?_, (Fr.undrew (hf1.alloc _))⟩; rw [HSL.out]; exact heap_alloc_new w1 _)
  case rest =>
    obtain ⟨B, k, rfl, hBw, hk, ha1, ha2, hB, hfc⟩ := hcut
    have hsk : slotK x s.ck = (k, s.ck % accN x.gap x.qs x.qs.length - accN x.gap x.qs k) := slotR_eq HH.out.q k _ hk ha1 ha2
    have hkr : k < x.regs.length := by rw [← HH.out.ql]; exact hk
    have HKC := hid (HH.out.frF hfc)
    have HFC := hid hfc
    have hwl := HH.out.r.wl
    have hkri : (k : Int) < (x.regs.length : Int) := by omega
    have HBW := hid hBw
    clear cT2 cT3 cC cT2' cT3' cC' HAT hfc hBw
    by_cases hrq : s.ck % accN x.gap x.qs x.qs.length - accN x.gap x.qs k < x.qs.getD k 0
    case' pos =>
      have hact : actK x s = { s with mem := (cycleM (opsK x k s.ck) (s.sts.getD k zeroSt) (s.mem, s.devs)).2.1, devs := (cycleM (opsK x k s.ck) (s.sts.getD k zeroSt) (s.mem, s.devs)).2.2, sts := s.sts.set k (cycleM (opsK x k s.ck) (s.sts.getD k zeroSt) (s.mem, s.devs)).1 } := by
        unfold actK
        rw [hsk]
        simp only
        rw [if_pos hrq]
      rw [show slotV x.gap (x.qs.getD k 0) k (s.ck % accN x.gap x.qs x.qs.length - accN x.gap x.qs k) = #[.int .i64 k, .bool false, .bool false, .bool false] by unfold slotV; rw [if_pos hrq]] at hB
      have hks : k < s.sts.length := by rw [HH.out.sl]; exact hkr
      have hst : s.sts[k]? = some (s.sts.getD k zeroSt) := by rw [List.getD_eq_getElem?_getD, List.getElem?_eq_getElem hks]; rfl
      have HCY := hid (fun (w1 : World) (h1 : KerF x s.ck s.mem s.sts s.devs vL w1) => wcycle_any x s.ck (by omega) s.mem s.sts s.devs vL w1 h1 hL k hkr _ hst)
      unfold turnVal at HCY
      have c1 : wc.cell? ⟨B, 1, none⟩ = some (.bool false) := row_cell hB 1
      have c0 : wc.drew.cell? ⟨B, 0, none⟩ = some (.int .i64 k) := row_cell hB 0
      have cW : wc.drew.cell? ⟨x.X, 4, none⟩ = some (.slice (some ⟨x.gK, 0, none⟩) x.regs.length x.cK) := row_cell HKC.out.r.hx _
      have HACT := hid hact
      clear hact hst hks hrq hsk hk ha1 ha2 hB
      go_wp2_with fail
      go_cut [] from 3 (fun wx => ∃ vL', KerM x (actK x s) vL' wx ∧ LogsIn vL vL' w.heap.size ∧ Fr (KA x vL) w wx)
      case' first =>
        go_region_law
          (first
            | (refine step_call Tryz.func63 (by kernel_rfl) (by kernel_rfl) (by rfl) (by rfl) [.pointer (some ⟨x.gK, k * 15, none⟩), .iface 139 (.agg #[.pointer (some ⟨x.X, 0, none⟩), .int .i64 k])] (by rfl) ((HCY.out _ ?_).mono ?_); exact HKC.out.frF (Fr.refl _ wc).drew; rintro e w3 ⟨rfl, vL', h3, hl3, hf3⟩; refine ⟨_, rfl, ?_⟩))
        all_goals
          have H3 : Hid (KerM x (actK x s) vL' w3) := by unfold Hid KerM; rw [HACT.out]; exact h3
          have HF3 : Hid (Fr (KA x vL) w w3) := (HFC.out.drew.toS (S := KA x vL)).step hf3 (fun i hi => .inl hi)
          have HLI : Hid (LogsIn vL vL' w.heap.size) := fun v hv b hb => (hl3 v hv b hb).elim .inl (fun h => .inr (Nat.le_trans HFC.out.size h))
          clear h3 hl3 hf3 c1 c0 cW
          go_wp2_with fail
          go_meet
          exact ⟨vL', H3.out, HLI.out, HF3.out⟩
      case' rest =>
        obtain ⟨vL', h3, hl3, hf3⟩ := hcut
        clear HCY HACT c1 c0 cW HKC HFC HBW
        generalize wc = w3 at *
        have H3 := hid h3
        have HLI := hid hl3
        have HF3 := hid hf3
        clear h3 hl3 hf3
        go_upto_region 4 with fail
    case' neg =>
      have hact : actK x s = { s with mem := (changeM x k (s.ck % accN x.gap x.qs x.qs.length - accN x.gap x.qs k - x.qs.getD k 0 == 0) (s.ck % accN x.gap x.qs x.qs.length - accN x.gap x.qs k - x.qs.getD k 0 == x.gap - 1) s.mem s.sts).1, sts := (changeM x k (s.ck % accN x.gap x.qs x.qs.length - accN x.gap x.qs k - x.qs.getD k 0 == 0) (s.ck % accN x.gap x.qs x.qs.length - accN x.gap x.qs k - x.qs.getD k 0 == x.gap - 1) s.mem s.sts).2 } := by
        unfold actK
        rw [hsk]
        simp only
        rw [if_neg hrq]
      rw [show slotV x.gap (x.qs.getD k 0) k (s.ck % accN x.gap x.qs x.qs.length - accN x.gap x.qs k) = #[.int .i64 k, .bool true, .bool (s.ck % accN x.gap x.qs x.qs.length - accN x.gap x.qs k - x.qs.getD k 0 == 0), .bool (s.ck % accN x.gap x.qs x.qs.length - accN x.gap x.qs k - x.qs.getD k 0 == x.gap - 1)] by unfold slotV; rw [if_neg hrq]] at hB
      generalize (s.ck % accN x.gap x.qs x.qs.length - accN x.gap x.qs k - x.qs.getD k 0 == 0) = b1 at *
      generalize (s.ck % accN x.gap x.qs x.qs.length - accN x.gap x.qs k - x.qs.getD k 0 == x.gap - 1) = b2 at *
      have hBB : StB (loadSt (if b1 then endM x k s.mem s.sts else (s.mem, s.sts)).1 (16 + 16 * ((k + 1) % x.regs.length))) := areaOk_change HH.out HAR.out k hkr b1
      have HCY := hid (fun (w1 : World) (h1 : KerF x s.ck s.mem s.sts s.devs vL w1) => change_any x s.ck s.mem s.sts s.devs vL w1 h1 k hkr b1 b2 hBB)
      have c1 : wc.cell? ⟨B, 1, none⟩ = some (.bool true) := row_cell hB 1
      have c0 : wc.cell? ⟨B, 0, none⟩ = some (.int .i64 k) := row_cell hB 0
      have c2 : wc.cell? ⟨B, 2, none⟩ = some (.bool b1) := row_cell hB 2
      have c3 : wc.cell? ⟨B, 3, none⟩ = some (.bool b2) := row_cell hB 3
      have HACT := hid hact
      clear hact hrq hsk hk ha1 ha2 hB hBB
      go_wp2_with fail
      refine (HCY.out _ HKC.out).mono ?_
      rintro e w3 ⟨rfl, h3, hf3⟩
      obtain ⟨vL', hvv⟩ : ∃ vL', vL' = vL := ⟨vL, rfl⟩
      have H3 : Hid (KerM x (actK x s) vL' w3) := by unfold Hid KerM; rw [HACT.out, hvv]; exact h3
      have HF3 : Hid (Fr (KA x vL) w w3) := (HFC.out.toS (S := KA x vL)).step hf3 (fun i hi => hi.elim (fun e => .inl (.inr (.inl e))) (fun e => .inl (.inr (.inr (.inl e)))))
      have HLI : Hid (LogsIn vL vL' w.heap.size) := by rw [hvv]; exact LogsIn.refl _ _
      clear h3 hf3 c1 c0 c2 c3 hvv HCY HACT HKC HFC HBW
      go_upto_region 4 with fail
    all_goals
      have hck1 : (actK x s).ck = s.ck := actK_ck x s
      have hcy : cycleK x s = ⟨s.ck + 1, (actK x s).mem.set 1 ((s.ck + 1) % 4294967296), (actK x s).sts, (actK x s).devs⟩ := by unfold cycleK tickK; rw [hck1]
      have HCYC := hid hcy
      obtain ⟨m3, hm3⟩ : ∃ m3, m3 = actK x s := ⟨_, rfl⟩
      rw [← hm3] at H3 hck1 HCYC
      have h3 := H3.out
      unfold KerM at h3
      rw [hck1] at h3
      have cC : w3.cell? ⟨x.X, 1, none⟩ = some (.int .i64 s.ck) := row_cell h3.r.hx 1
      have fC : w3.frozen? ⟨x.X, 1, none⟩ = false := row_frozen h3.r.hx 1
      have hc0 := h3.r.c0
      have h4 := h3.ck (ck' := s.ck + 1) (by omega) (row_set h3.r.hx 1 (.int .i64 (s.ck + 1))) (Fr.one w3 x.X 1 _)
      have h64 := h3.n64
      have HF4 : Hid (Fr (KA x vL) w (w3.setCell ⟨x.X, 1, none⟩ (.int .i64 (s.ck + 1)))) := HF3.out.setCell (p := ⟨x.X, 1, none⟩) (.inl (.inl rfl)) _
      clear hcy hm3 h3 H3 HF3
      go_wp2_with fail
      have cC4 : (w3.setCell ⟨x.X, 1, none⟩ (.int .i64 (s.ck + 1))).drew.cell? ⟨x.X, 1, none⟩ = some (.int .i64 (s.ck + 1)) := row_cell h4.r.hx 1
      have cM4 : (w3.setCell ⟨x.X, 1, none⟩ (.int .i64 (s.ck + 1))).drew.cell? ⟨x.X, 0, none⟩ = some (.slice (some ⟨x.M, 0, none⟩) x.n x.n) := row_cell h4.r.hx _
      have c14 : (w3.setCell ⟨x.X, 1, none⟩ (.int .i64 (s.ck + 1))).drew.cell? ⟨x.M, 1, none⟩ = some (.int .u32 (m3.mem.getD 1 0)) := h4.r.word 1 (by omega)
      have f14 : (w3.setCell ⟨x.X, 1, none⟩ (.int .i64 (s.ck + 1))).drew.frozen? ⟨x.M, 1, none⟩ = false := row_frozen h4.r.hm 1
      have hn1 : (1 : Int) < (x.n : Int) := by omega
      have H5 := hid (h4.set1 1 ((s.ck + 1) % 4294967296) (by omega) (by omega))
      generalize w3.setCell ⟨x.X, 1, none⟩ (.int .i64 (s.ck + 1)) = w4 at *
      clear h4 cC fC
      go_region
    all_goals
      go_wp2_with fail
      go_end0
      refine ⟨rfl, vL', ?_, HLI.out, (HF4.out.setCell (p := ⟨x.M, 1, none⟩) (.inl (.inr (.inl rfl))) _).drew⟩
      unfold KerM
      rw [HCYC.out]
      exact H5.out.frF (Fr.refl _ _).drew

end Go.Proofs.YthmcheoehcmglaaGreat
