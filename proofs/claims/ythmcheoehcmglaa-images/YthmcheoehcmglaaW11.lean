/- No two regions share anything. -/
import Derived.Test.YthmcheoehcmglaaW10
namespace Go.Proofs.Ythmcheoehcmglaa
open Go.RowKit
set_option linter.unusedVariables false
attribute [local go_sem ↓] Go.wp_at_zero Go.wp_at_succ

theorem owns_cap {w : World} {base e size n g cap : Nat} {xs : List Value} (h : w.ownsRow base e size (.slice (some ⟨g, 0, none⟩) n cap) n xs) : n ≤ cap ∧ cap ≤ 9223372036854775807 := by
  rcases h.2 with ⟨h1, _⟩ | ⟨g', cap', cur, h1, _, _, h2, h3, _⟩
  · simp at h1
  · simp only [Value.slice.injEq] at h1
    unfold maxLen at h3
    omega

set_option maxRecDepth 100000 in
set_option maxHeartbeats 4000000 in
theorem regionsApart_any (G base : Nat) (w : World) {gap mem : Int} {ws : List WardV} {wi : List (Int × Int)} {ow : List Int} {vW vI vO : Value} (h : PlanAt w G base gap mem ws wi ow vW vI vO) (hl : ws.length ≤ 4) (h3 : ∀ x ∈ ws, x.regs.length ≤ 3)
    (hok : ∀ x ∈ ws, ∀ r ∈ x.regs, 0 ≤ r.1 ∧ r.1 ≤ 65535 ∧ 0 ≤ r.2.1 ∧ r.2.1 ≤ 65535 ∧ 0 ≤ r.2.2.1 ∧ r.2.2.1 ≤ 65535) :
    Calls Try.prog 37 #[.pointer (some ⟨G, 0, none⟩)] w fun e w' => e = .returned (.bool (apartN (ownedN ws ws.length) (ownedN ws ws.length).length)) ∧ Fr (fun _ => False) w w' := by
  have HOK := hid (ownedN_ok ws hok ws.length)
  have HNL := hid (ownedN_len ws 3 h3 ws.length)
  have HH := hid h
  have H3 := hid h3
  clear h h3 hok
  go_enter Try.func37, Try.ntmps37
  go_wp2_with fail
  refine (regions_any G base _ HH.out hl H3.out).mono ?_
  rintro e w1 ⟨v, rfl, hown, hF⟩
  have hown' := owns_base hown (Nat.zero_le _)
  clear hown
  obtain ⟨al, cl, rfl⟩ := owns_shape hown'
  have HOWN := hid hown'
  clear hown'
  generalize hL : ownedN ws ws.length = L at *
  have hLl : L.length ≤ 12 := by have := HNL.out; omega
  have HL := hid hL
  clear hL HNL
  go_wp2_with fail
  go_loopw [12] (fun i wr => ∃ k : Nat, k ≤ L.length ∧ i = .int .i64 k ∧ apartN L k = true ∧ Fr (fun _ => False) w1 wr) (fun i _ => L.length - (intOf i).toNat)
  case atStart => exact ⟨0, Nat.zero_le _, rfl, by simp [apartN], Fr.refl _ _⟩
  case round =>
    obtain ⟨k, hk, rfl, hall, hFr⟩ := hrel
    have HA := hid hall
    clear hall
    by_cases hlt : k < L.length
    · have ho := hFr.ownsF _ HOWN.out
      obtain ⟨gv, cp, hv, -, -⟩ := ho.form (by omega)
      simp only [Value.slice.injEq] at hv
      obtain ⟨rfl, -, rfl⟩ := hv
      have hcap := owns_cap ho
      have hcell : ∀ c', c' < 5 → wr.cell? ⟨gv, k * 5 + c', none⟩ = (ownCells L[k])[c']? := by
        intro c' hc'
        rw [ho.cellAt (k * 5 + c') (by omega), flat_get ownCells 5 (fun _ => rfl) L k c' hlt hc']
      have d0 : wr.cell? ⟨gv, k * 5, none⟩ = some (.int .i64 L[k].1.1) := hcell 0 (by omega)
      have d1 : wr.cell? ⟨gv, k * 5 + 1, none⟩ = some (.int .i64 L[k].1.2.1) := hcell 1 (by omega)
      have d2 : wr.cell? ⟨gv, k * 5 + 2, none⟩ = some (.int .i64 L[k].1.2.2.1) := hcell 2 (by omega)
      have d3 : wr.cell? ⟨gv, k * 5 + 3, none⟩ = some (.int .i64 L[k].1.2.2.2) := hcell 3 (by omega)
      have d4 : wr.cell? ⟨gv, k * 5 + 4, none⟩ = some (.int .i64 L[k].2) := hcell 4 (by omega)
      have hcap1 := hcap.1
      have hcap2 := hcap.2
      have hkc : k ≤ cl := by omega
      have hKI : (k : Int) ≤ (cl : Int) := by omega
      have HOA := hid (HOK.out L[k] (List.getElem_mem hlt))
      have HSU := hid (apartN_succ L k hlt)
      have HNO := hid (fun j hj => apartN_false L k j hlt hj)
      generalize hrk : L[k] = rk at *
      clear hcell ho hrk hcap
      go_wp2_with fail
      have HFo : ∀ o, Fr (fun _ => False) w1 (wr.alloc o) := fun o => hFr.alloc o
      have HFo2 := hid HFo
      have HFr := hid hFr
      clear HFo hFr d0 d1 d2 d3 d4
      rename World => wo
      go_loopw [21] (fun i wq => ∃ j : Nat, j ≤ k ∧ i = .int .i64 j ∧ ((L.take j).all fun b => !(shAddr rk b || shWord rk b)) = true ∧ Fr (fun _ => False) (wo.alloc (.cells #[.int .i64 rk.1.1, .int .i64 rk.1.2.1, .int .i64 rk.1.2.2.1, .int .i64 rk.1.2.2.2, .int .i64 rk.2] 149)) wq) (fun i _ => k - (intOf i).toNat)
      case atStart => exact ⟨0, Nat.zero_le _, rfl, by simp, Fr.refl _ _⟩
      case round =>
        obtain ⟨j, hj, rfl, hall, hFq⟩ := hrel
        have HB := hid hall
        clear hall
        have hFw : Fr (fun _ => False) w1 wr := (HFo2.out _).step hFq (fun _ h => .inl h)
        by_cases hjk : j < k
        · have ho := hFw.ownsF _ HOWN.out
          have hjl : j < L.length := by omega
          have hcell : ∀ c', c' < 5 → wr.cell? ⟨gv, j * 5 + c', none⟩ = (ownCells L[j])[c']? := by
            intro c' hc'
            rw [ho.cellAt (j * 5 + c') (by omega), flat_get ownCells 5 (fun _ => rfl) L j c' hjl hc']
          have d0 : wr.cell? ⟨gv, j * 5, none⟩ = some (.int .i64 L[j].1.1) := hcell 0 (by omega)
          have d1 : wr.cell? ⟨gv, j * 5 + 1, none⟩ = some (.int .i64 L[j].1.2.1) := hcell 1 (by omega)
          have d2 : wr.cell? ⟨gv, j * 5 + 2, none⟩ = some (.int .i64 L[j].1.2.2.1) := hcell 2 (by omega)
          have d3 : wr.cell? ⟨gv, j * 5 + 3, none⟩ = some (.int .i64 L[j].1.2.2.2) := hcell 3 (by omega)
          have d4 : wr.cell? ⟨gv, j * 5 + 4, none⟩ = some (.int .i64 L[j].2) := hcell 4 (by omega)
          have HOB := hid (HOK.out L[j] (List.getElem_mem hjl))
          have HAT := hid (all_take (fun b => !(shAddr rk b || shWord rk b)) L j hjl)
          have HNJ := hid (HNO.out j hjk)
          have gA := hFq.get (heap_new wo _) id
          have HGA : ∀ o, ((wr.alloc o).heap[wo.heap.size]?) = _ := fun o => get_alloc gA o
          have cA0 := row_cell (HGA (.cells #[.int .i64 L[j].1.1, .int .i64 L[j].1.2.1, .int .i64 L[j].1.2.2.1, .int .i64 L[j].1.2.2.2, .int .i64 L[j].2] 149))
          generalize hrj : L[j] = rj at *
          clear hcell ho hrj gA
          have HGA2 := hid HGA
          have HFQ := hid hFq
          have HFW := hid hFw
          clear HGA hFq hFw
          go_wp2_with fail
          refine (sharesAddress_any rk rj _ HOA.out HOB.out).mono ?_
          rintro e w2 ⟨rfl, hf2⟩
          have hFw2 := ((HFQ.out.alloc _).step hf2 (fun _ h => .inl h))
          cases h1 : shAddr rk rj
          · have gA2 := hf2.get (HGA2.out _) id
            have gB2 := hf2.get (heap_new wr _) id
            have cA2 := row_cell gA2
            have cB2 := row_cell gB2
            clear gA2 gB2 cA0 d0 d1 d2 d3 d4 hf2
            have HFW2 := hid hFw2
            clear hFw2
            go_wp2_with fail
            refine (sharesWord_any rk rj _ HOA.out HOB.out).mono ?_
            rintro e w3 ⟨rfl, hf3⟩
            have HFW3 := hid (HFW2.out.step hf3 (fun _ h => .inl h))
            clear hf3 cA2 cB2
            cases h2 : shWord rk rj
            · have HE : Hid ((!(shAddr rk rj || shWord rk rj)) = true) := by simp [Hid, h1, h2]
              go_wp2_with fail
              go_roundw
              case rel => exact ⟨j + 1, by omega, by go_num, by rw [HAT.out, HB.out, HE.out]; rfl, HFW3.out⟩
              case measure => simp [intOf]; omega
            · have HE : Hid ((shAddr rk rj || shWord rk rj) = true) := by simp [Hid, h1, h2]
              go_wp2_with fail
              go_ret
              exact ⟨ret_bool (by rw [HL.out]; exact HNJ.out HE.out), hF.step ((HFo2.out _).step HFW3.out (fun _ h => .inl h)) (fun _ h => .inl h)⟩
          · have HE : Hid ((shAddr rk rj || shWord rk rj) = true) := by simp [Hid, h1]
            have HFW2 := hid hFw2
            clear hFw2 hf2 cA0 d0 d1 d2 d3 d4
            go_wp2_with fail
            go_ret
            exact ⟨ret_bool (by rw [HL.out]; exact HNJ.out HE.out), hF.step ((HFo2.out _).step HFW2.out (fun _ h => .inl h)) (fun _ h => .inl h)⟩
        · obtain rfl : j = k := by omega
          have HFW := hid hFw
          clear hFw hFq
          go_wp2_with fail
          go_roundw
          case rel => exact ⟨j + 1, by omega, by go_num, by rw [HSU.out, HA.out, HB.out]; rfl, HFW.out⟩
          case measure => simp [intOf]; omega
    · obtain rfl : k = L.length := by omega
      go_wp2_with fail
      go_ret
      refine ⟨ret_bool ?_, hF.step hFr (fun _ h => .inl h)⟩
      rw [HL.out]
      exact HA.out.symm

end Go.Proofs.Ythmcheoehcmglaa
