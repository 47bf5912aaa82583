/- The list of all regions. -/
import Derived.Test.YthmcheoehcmglaaW8
namespace Go.Proofs.Ythmcheoehcmglaa
open Go.RowKit
set_option linter.unusedVariables false
attribute [local go_sem ↓] Go.wp_at_zero Go.wp_at_succ

/-- The regions of the first k wards, each with its ward's number. -/
def ownedN (ws : List WardV) : Nat → List ((Int × Int × Int × Int) × Int)
  | 0 => []
  | k + 1 => ownedN ws k ++ ((ws[k]?.map (·.regs)).getD []).map (fun r => (r, (k : Int)))

theorem slOwned : SlT Try.prog 146 149 5 40 := SlT.mk' (z := .agg #[.int .i64 0, .int .i64 0, .int .i64 0, .int .i64 0, .int .i64 0]) Try.underlying146 (by kernel_rfl) rfl (by omega)
theorem heap_new2 (w : World) (A B : Obj) : ((w.alloc A).alloc B).heap[w.heap.size + 1]? = some B := heap_alloc2_new w A B
theorem ownCells_one (r : (Int × Int × Int × Int) × Int) : ∀ u ∈ (ownCells r).toArray.toList, u.oneCell' = true := by simp [ownCells, Value.oneCell']

theorem owned_snoc (ws : List WardV) (k j : Nat) (x : WardV) (hx : ws[k]? = some x) (hj : j < x.regs.length) :
    ownedN ws k ++ (x.regs.take (j + 1)).map (fun r => (r, (k : Int))) = (ownedN ws k ++ (x.regs.take j).map (fun r => (r, (k : Int)))) ++ [(x.regs[j], (k : Int))] := by
  rw [List.take_succ_eq_append_getElem hj, List.map_append]
  simp only [List.map_cons, List.map_nil, List.append_assoc]
theorem owned_full (ws : List WardV) (k : Nat) (x : WardV) (hx : ws[k]? = some x) : ownedN ws (k + 1) = ownedN ws k ++ (x.regs.take x.regs.length).map (fun r => (r, (k : Int))) := by
  simp [ownedN, hx]

/-- The bound that the appends want. -/
theorem ownedN_len (ws : List WardV) (m : Nat) (h : ∀ x ∈ ws, x.regs.length ≤ m) : ∀ k, (ownedN ws k).length ≤ k * m := by
  intro k
  induction k with
  | zero => simp [ownedN]
  | succ k ih =>
    simp only [ownedN, List.length_append, List.length_map]
    cases hk : ws[k]? with
    | none => simp; rw [Nat.succ_mul]; omega
    | some x => simp; have := h x (List.mem_of_getElem? hk); rw [Nat.succ_mul]; omega

set_option maxRecDepth 100000 in
set_option maxHeartbeats 2000000 in
theorem regions_any (G base : Nat) (w : World) {gap mem : Int} {ws : List WardV} {wi : List (Int × Int)} {ow : List Int} {vW vI vO : Value} (h : PlanAt w G base gap mem ws wi ow vW vI vO) (hl : ws.length ≤ 4) (h3 : ∀ x ∈ ws, x.regs.length ≤ 3) :
    Calls Try.prog 63 #[.pointer (some ⟨G, 0, none⟩)] w fun e w' => ∃ v, e = .returned v ∧ w'.ownsRow w.heap.size 149 5 v (ownedN ws ws.length).length ((ownedN ws ws.length).flatMap ownCells) ∧ Fr (fun _ => False) w w' := by
  obtain ⟨ao, c, rfl⟩ := h.ws.shape
  have c4 : w.cell? ⟨G, 2, none⟩ = some (.slice ao ws.length c) := row_cell h.g 2
  go_enter Try.func63, Try.ntmps63
  go_wp2_with fail
  go_loopw [3, 13] (fun v i wr => ∃ k : Nat, k ≤ ws.length ∧ i = .int .i64 k ∧ wr.ownsRow w.heap.size 149 5 v (ownedN ws k).length ((ownedN ws k).flatMap ownCells) ∧ Fr (fun _ => False) w wr) (fun _ i _ => ws.length - (intOf i).toNat)
  case atStart => exact ⟨0, Nat.zero_le _, rfl, World.ownsRow_nil _ _ _ _, Fr.refl _ _⟩
  case round =>
    obtain ⟨k, hk, rfl, hown, hF⟩ := hrel
    clear c4
    by_cases hlt : k < ws.length
    · have hP := h.fr hF
      obtain ⟨xs, hxs, ho, hx⟩ := hP.ws
      have hxl : xs.length = ws.length := by rw [← hxs]; simp
      have hkx : k < xs.length := by omega
      obtain ⟨gv, cp, hv, -, hgl⟩ := ho.form (by omega)
      simp only [Value.slice.injEq] at hv
      obtain ⟨rfl, -, rfl⟩ := hv
      rw [← hxl] at ho
      have hcell : ∀ c', c' < 4 → wr.cell? ⟨gv, k * 4 + c', none⟩ = (wardCells xs[k])[c']? := by
        intro c' hc'
        rw [ho.cellAt (k * 4 + c') (by omega), flat_get wardCells 4 (fun _ => rfl) xs k c' hkx hc']
      have ck0 : wr.cell? ⟨gv, k * 4, none⟩ = some (.int .i64 xs[k].1.q) := hcell 0 (by omega)
      have ck1 : wr.cell? ⟨gv, k * 4 + 1, none⟩ = some (.int .u32 xs[k].1.bg) := hcell 1 (by omega)
      have hxk := hx xs[k] (List.getElem_mem hkx)
      obtain ⟨ar, cr, har⟩ := owns_shape hxk.1
      obtain ⟨ap, cq, hap⟩ := owns_shape hxk.2
      have ck2 : wr.cell? ⟨gv, k * 4 + 2, none⟩ = some (.slice ar xs[k].1.regs.length cr) := by rw [← har]; exact hcell 2 (by omega)
      have ck3 : wr.cell? ⟨gv, k * 4 + 3, none⟩ = some (.slice ap xs[k].1.prog.length cq) := by rw [← hap]; exact hcell 3 (by omega)
      have hreg := hxk.1
      rw [har] at hreg
      have hwk : ws[k]? = some xs[k].1 := by rw [← hxs]; simp [hkx]
      have hr3 : xs[k].1.regs.length ≤ 3 := h3 _ (List.mem_of_getElem? hwk)
      generalize xs[k].1 = x at *
      have hnl := ownedN_len ws 3 h3 k
      have HWK := hid hwk
      have HOWN := hid hown
      have HREG := hid hreg
      have H3 := hid h3
      have HH := hid h
      have hlt' : (k : Int) < (ws.length : Int) := by omega
      clear hcell hx hxs hP hxk har hap hwk ho hown hreg h3 h hxl hkx
      go_wp2_with fail
      go_loopw [3, 21] (fun v i wq => ∃ j : Nat, j ≤ x.regs.length ∧ i = .int .i64 j ∧ wq.ownsRow w.heap.size 149 5 v (ownedN ws k ++ (x.regs.take j).map (fun r => (r, (k : Int)))).length ((ownedN ws k ++ (x.regs.take j).map (fun r => (r, (k : Int)))).flatMap ownCells) ∧ Fr (fun _ => False) w wq ∧ wq.ownsRow base 110 4 (.slice ar x.regs.length cr) x.regs.length (x.regs.flatMap regCells)) (fun _ i _ => x.regs.length - (intOf i).toNat)
      case atStart =>
        refine ⟨0, Nat.zero_le _, rfl, ?_, hF.alloc _, HREG.out.alloc _⟩
        simp only [List.take_zero, List.map_nil, List.append_nil]
        exact HOWN.out.alloc _
      case round =>
        obtain ⟨j, hj, rfl, hown, hFq, hreg⟩ := hrel
        by_cases hjl : j < x.regs.length
        · obtain ⟨gr, cp, hv, -, -⟩ := hreg.form (by omega)
          simp only [Value.slice.injEq] at hv
          obtain ⟨rfl, -, rfl⟩ := hv
          have hcell : ∀ c', c' < 4 → wr.cell? ⟨gr, j * 4 + c', none⟩ = (regCells x.regs[j])[c']? := by
            intro c' hc'
            rw [hreg.cellAt (j * 4 + c') (by omega), flat_get regCells 4 (fun _ => rfl) x.regs j c' hjl hc']
          have d0 : wr.cell? ⟨gr, j * 4, none⟩ = some (.int .i64 x.regs[j].1) := hcell 0 (by omega)
          have d1 : wr.cell? ⟨gr, j * 4 + 1, none⟩ = some (.int .i64 x.regs[j].2.1) := hcell 1 (by omega)
          have d2 : wr.cell? ⟨gr, j * 4 + 2, none⟩ = some (.int .i64 x.regs[j].2.2.1) := hcell 2 (by omega)
          have d3 : wr.cell? ⟨gr, j * 4 + 3, none⟩ = some (.int .i64 x.regs[j].2.2.2) := hcell 3 (by omega)
          have hsn := hid (owned_snoc ws k j x HWK.out hjl)
          have hlen : (ownedN ws k ++ (x.regs.take j).map (fun r => (r, (k : Int)))).length + 1 ≤ 1073741824 := by simp; omega
          have HOW := hid hown
          have HRG := hid hreg
          have hFs : w.heap.size ≤ wr.heap.size := hFq.size
          generalize hLj : ownedN ws k ++ (x.regs.take j).map (fun r => (r, (k : Int))) = Lj at *
          generalize hrj : x.regs[j] = rj at *
          clear hcell hreg hown hLj hrj
          go_wp2_with (at_builtin; refine wpList_app slOwned (by rfl) _ _ (by rfl) w.heap.size _ Lj.length _ (by rfl) ((HOW.out.alloc _).alloc _) (wr.heap.size + 1) (ownCells (rj, (k : Int))).toArray _ (by rfl) (heap_new2 wr _ _) rfl (ownCells_one _) hlen (by decide) (le_alloc (le_alloc hFs _) _) ?_; intro gg cap w7 hown7 hf7 hat)
          have hF7 : Fr (fun _ => False) w w7 := ((hFq.alloc _).alloc _).step hf7 (fun i hi => .inr (HOW.out.lt i hi).1)
          have hreg7 := hf7.ownsT ((HOW.out.alloc _).alloc _) ((HRG.out.alloc _).alloc _) (by decide)
          have h7 := hid hown7
          have h8 := hid hF7
          have h9 := hid hreg7
          clear hown7 hF7 hreg7 hf7 hat
          go_wp2_with fail
          go_roundw
          case rel =>
            refine ⟨j + 1, by omega, by go_num, ?_, h8.out, h9.out⟩
            rw [hsn.out]
            have := h7.out
            simpa using this
          case measure => simp [intOf]; omega
        · obtain rfl : j = x.regs.length := by omega
          have HOW := hid hown
          clear hown
          go_wp2_with fail
          go_roundw
          case rel =>
            refine ⟨k + 1, by omega, by go_num, ?_, hFq⟩
            rw [owned_full ws k x HWK.out]
            exact HOW.out
          case measure => simp [intOf]; omega
    · obtain rfl : k = ws.length := by omega
      go_wp2_with fail
      go_ret
      exact ⟨_, rfl, hown, hF⟩

end Go.Proofs.Ythmcheoehcmglaa
