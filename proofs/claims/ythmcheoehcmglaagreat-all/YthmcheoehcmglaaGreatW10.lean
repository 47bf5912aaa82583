/- Do the regions fit, do they lie apart? -/
import Derived.Test.YthmcheoehcmglaaGreatW9
namespace Go.Proofs.YthmcheoehcmglaaGreat
open Go.RowKit
set_option linter.unusedVariables false
attribute [local go_sem ↓] Go.wp_at_zero Go.wp_at_succ

/-- A region by itself: its addresses, its words. -/
def fitB (K mem : Int) (r : (Int × Int × Int × Int) × Int) : Bool := !(decide (32768 < r.1.1 + r.1.2.1) || decide (r.1.2.2.1 < K) || decide (mem < r.1.2.2.1 + r.1.2.1))

theorem ownedN_ok (ws : List WardV) (h : ∀ x ∈ ws, ∀ r ∈ x.regs, 0 ≤ r.1 ∧ r.1 ≤ 65535 ∧ 0 ≤ r.2.1 ∧ r.2.1 ≤ 65535 ∧ 0 ≤ r.2.2.1 ∧ r.2.2.1 ≤ 65535) : ∀ k, ∀ r ∈ ownedN ws k, OwnedOk r := by
  intro k
  induction k with
  | zero => intro r hr; simp [ownedN] at hr
  | succ k ih =>
    intro r hr
    simp only [ownedN, List.mem_append] at hr
    rcases hr with hr | hr
    · exact ih r hr
    · cases hk : ws[k]? with
      | none => simp [hk] at hr
      | some x =>
        simp only [hk, Option.map_some, Option.getD_some, List.mem_map] at hr
        obtain ⟨q, hq, rfl⟩ := hr
        exact h x (List.mem_of_getElem? hk) q hq

set_option maxRecDepth 100000 in
set_option maxHeartbeats 2000000 in
theorem regionsFit_any (G base : Nat) (w : World) {gap mem : Int} {ws : List WardV} {wi : List (Int × Int)} {ow : List Int} {vW vI vO : Value} (h : PlanAt w G base gap mem ws wi ow vW vI vO) (hl : ws.length ≤ 4) (hli : wi.length ≤ 8) (h3 : ∀ x ∈ ws, x.regs.length ≤ 3)
    (hok : ∀ x ∈ ws, ∀ r ∈ x.regs, 0 ≤ r.1 ∧ r.1 ≤ 65535 ∧ 0 ≤ r.2.1 ∧ r.2.1 ≤ 65535 ∧ 0 ≤ r.2.2.1 ∧ r.2.2.1 ≤ 65535) :
    Calls Tryz.prog 69 #[.pointer (some ⟨G, 0, none⟩)] w fun e w' => e = .returned (.bool ((ownedN ws ws.length).all (fitB (16 + 16 * ws.length + 2 * wi.length) mem))) ∧ Fr (fun _ => False) w w' := by
  have HOK := hid (ownedN_ok ws hok ws.length)
  have HNL := hid (ownedN_len ws 3 h3 ws.length)
  obtain ⟨ao, c, rfl⟩ := h.ws.shape
  obtain ⟨ai, ci, rfl⟩ := owns_shape h.wi
  have c2 : w.cell? ⟨G, 2, none⟩ = some (.slice ao ws.length c) := row_cell h.g 2
  have c3 : w.cell? ⟨G, 3, none⟩ = some (.slice ai wi.length ci) := row_cell h.g 3
  have HH := hid h
  have H3 := hid h3
  clear h h3 hok
  go_enter Tryz.func69, Tryz.ntmps69
  go_wp2_with fail
  go_quiet ((go_at_call 98; exact Calls.quiet_of_same (kernel_num _ _ _ (by omega) (by omega) (by omega) (by omega))))
  go_wp2_with fail
  refine (regions_any G base _ (HH.out.fr ((Fr.refl _ w).drewN _)) hl H3.out).mono ?_
  rintro e w1 ⟨v, rfl, hown, hF1⟩
  have hF : Fr (fun _ => False) w w1 := ((Fr.refl _ w).drewN _).step hF1 (fun _ h => .inl h)
  have hown' := owns_base hown (Nat.zero_le _)
  clear hF1 hown c2 c3
  obtain ⟨al, cl, rfl⟩ := owns_shape hown'
  have HOWN := hid hown'
  clear hown'
  generalize hL : ownedN ws ws.length = L at *
  have hLl : L.length ≤ 12 := by have := HNL.out; omega
  have HL := hid hL
  clear hL HNL
  go_wp2_with fail
  go_loopw [20] (fun i wr => ∃ k : Nat, k ≤ L.length ∧ i = .int .i64 k ∧ (L.take k).all (fitB (16 + 16 * ws.length + 2 * wi.length) mem) = true ∧ Fr (fun _ => False) w1 wr) (fun i _ => L.length - (intOf i).toNat)
  case atStart => exact ⟨0, Nat.zero_le _, rfl, by simp, Fr.refl _ _⟩
  case round =>
    obtain ⟨k, hk, rfl, hall, hFr⟩ := hrel
    have HA := hid hall
    clear hall
    by_cases hlt : k < L.length
    · have ho := hFr.ownsF _ HOWN.out
      obtain ⟨gv, cp, hv, -, -⟩ := ho.form (by omega)
      simp only [Value.slice.injEq] at hv
      obtain ⟨rfl, -, rfl⟩ := hv
      have hcell : ∀ c', c' < 5 → wr.cell? ⟨gv, k * 5 + c', none⟩ = (ownCells L[k])[c']? := by
        intro c' hc'
        rw [ho.cellAt (k * 5 + c') (by omega), flat_get ownCells 5 (fun _ => rfl) L k c' hlt hc']
      have d0 : wr.cell? ⟨gv, k * 5, none⟩ = some (.int .i64 L[k].1.1) := hcell 0 (by omega)
      have d1 : wr.cell? ⟨gv, k * 5 + 1, none⟩ = some (.int .i64 L[k].1.2.1) := hcell 1 (by omega)
      have d2 : wr.cell? ⟨gv, k * 5 + 2, none⟩ = some (.int .i64 L[k].1.2.2.1) := hcell 2 (by omega)
      have d3 : wr.cell? ⟨gv, k * 5 + 3, none⟩ = some (.int .i64 L[k].1.2.2.2) := hcell 3 (by omega)
      have d4 : wr.cell? ⟨gv, k * 5 + 4, none⟩ = some (.int .i64 L[k].2) := hcell 4 (by omega)
      have cm : wr.cell? ⟨G, 1, none⟩ = some (.int .i64 mem) := row_cell (HH.out.fr (hF.step hFr (fun _ h => .inl h))).g 1
      have hGl : G < wr.heap.size := lt_of_get (HH.out.fr (hF.step hFr (fun _ h => .inl h))).g
      have hGn : G ≠ wr.heap.size := by omega
      have cma : ∀ o, (wr.alloc o).cell? ⟨G, 1, none⟩ = some (.int .i64 mem) := fun o => row_cell (get_alloc (HH.out.fr (hF.step hFr (fun _ h => .inl h))).g o) 1
      obtain ⟨o1, o2, o3, o4, o5, o6⟩ := HOK.out L[k] (List.getElem_mem hlt)
      have HAT := hid (all_take (fitB (16 + 16 * ws.length + 2 * wi.length) mem) L k hlt)
      have HNO := hid (any_false (fitB (16 + 16 * ws.length + 2 * wi.length) mem) L k hlt)
      have HF : Hid (fitB (16 + 16 * ws.length + 2 * wi.length) mem L[k] = !(decide (32768 < L[k].1.1 + L[k].1.2.1) || decide (L[k].1.2.2.1 < 16 + 16 * ws.length + 2 * wi.length) || decide (mem < L[k].1.2.2.1 + L[k].1.2.1))) := rfl
      generalize hrk : L[k] = rk at *
      clear hcell ho hrk
      go_wp2_with fail
      by_cases h1 : 32768 < rk.1.1 + rk.1.2.1
      · have h1' : decide (32768 < rk.1.1 + rk.1.2.1) = true := by simp [h1]
        have HW : Hid (fitB (16 + 16 * ws.length + 2 * wi.length) mem rk = false) := by unfold Hid; rw [HF.out, h1']; simp
        go_quiet (fail)
        go_wp2_with fail
        go_ret
        exact ⟨ret_bool (by rw [HL.out]; exact HNO.out HW.out), ((hF.step hFr (fun _ h => .inl h)).alloc _).drewN _⟩
      · have h1' : decide (32768 < rk.1.1 + rk.1.2.1) = false := by simp; omega
        by_cases h2 : rk.1.2.2.1 < 16 + 16 * ws.length + 2 * wi.length
        · have h2' : decide (rk.1.2.2.1 < 16 + 16 * ws.length + 2 * wi.length) = true := by simp [h2]
          have HW : Hid (fitB (16 + 16 * ws.length + 2 * wi.length) mem rk = false) := by unfold Hid; rw [HF.out, h2']; simp
          go_quiet (fail)
          go_wp2_with fail
          go_ret
          exact ⟨ret_bool (by rw [HL.out]; exact HNO.out HW.out), ((hF.step hFr (fun _ h => .inl h)).alloc _).drewN _⟩
        · have h2' : decide (rk.1.2.2.1 < 16 + 16 * ws.length + 2 * wi.length) = false := by simp; omega
          by_cases h4 : mem < rk.1.2.2.1 + rk.1.2.1
          · have h4' : decide (mem < rk.1.2.2.1 + rk.1.2.1) = true := by simp [h4]
            have HW : Hid (fitB (16 + 16 * ws.length + 2 * wi.length) mem rk = false) := by unfold Hid; rw [HF.out, h4']; simp
            go_quiet (fail)
            go_wp2_with fail
            go_ret
            exact ⟨ret_bool (by rw [HL.out]; exact HNO.out HW.out), ((hF.step hFr (fun _ h => .inl h)).alloc _).drewN _⟩
          · have h4' : decide (mem < rk.1.2.2.1 + rk.1.2.1) = false := by simp; omega
            have HW : Hid (fitB (16 + 16 * ws.length + 2 * wi.length) mem rk = true) := by unfold Hid; rw [HF.out, h1', h2', h4']; simp
            go_quiet (fail)
            go_wp2_with fail
            go_roundw
            case rel => exact ⟨k + 1, by omega, by go_num, by rw [HAT.out, HA.out, HW.out]; rfl, (hFr.alloc _).drewN _⟩
            case measure => simp [intOf]; omega
    · obtain rfl : k = L.length := by omega
      go_wp2_with fail
      go_ret
      refine ⟨ret_bool ?_, hF.step hFr (fun _ h => .inl h)⟩
      have := HA.out
      rw [List.take_length] at this
      rw [HL.out]
      exact this.symm

/-- No region of the list shares anything with one ahead of it. -/
def apartN (L : List ((Int × Int × Int × Int) × Int)) (k : Nat) : Bool := (List.range k).all fun i => (L.take i).all fun b => match L[i]? with | some a => !(shAddr a b || shWord a b) | none => true

theorem apartN_succ (L : List ((Int × Int × Int × Int) × Int)) (k : Nat) (hk : k < L.length) : apartN L (k + 1) = (apartN L k && (L.take k).all fun b => !(shAddr L[k] b || shWord L[k] b)) := by
  unfold apartN
  rw [List.range_succ, List.all_append]
  simp [hk]
theorem apartN_false (L : List ((Int × Int × Int × Int) × Int)) (k j : Nat) (hk : k < L.length) (hj : j < k) (h : (shAddr L[k] L[j] || shWord L[k] L[j]) = true) : false = apartN L L.length := by
  symm
  unfold apartN
  rw [List.all_eq_false]
  refine ⟨k, by simp [hk], ?_⟩
  rw [Bool.not_eq_true, List.all_eq_false]
  refine ⟨L[j], ?_, ?_⟩
  · rw [List.mem_take_iff_getElem]
    exact ⟨j, by omega, rfl⟩
  · simp [hk]
    simp at h
    intro h1
    rw [h1] at h
    simpa using h

end Go.Proofs.YthmcheoehcmglaaGreat
