/- The timetable. -/
import Derived.Test.YthmcheoehcmglaaGreatK1
import Derived.Test.YthmcheoehcmglaaGreatR0
namespace Go.Proofs.YthmcheoehcmglaaGreat
open Go.RowKit
set_option linter.unusedVariables false
attribute [local go_sem ↓] Go.wp_at_zero Go.wp_at_succ

theorem heap_alloc_oldT (w : World) (A B : Obj) : ((w.alloc A).alloc B).heap[w.heap.size]? = some A := get_alloc (heap_alloc_new w A) B
/-- How many cycles the first k turns and gaps have. -/
def accN (gap : Int) (qs : List Int) : Nat → Int
  | 0 => 0
  | k + 1 => accN gap qs k + (qs.getD k 0 + gap)

structure QsOk (gap : Int) (qs : List Int) : Prop where
  l1 : 1 ≤ qs.length
  l2 : qs.length ≤ 4
  q : ∀ q ∈ qs, 1 ≤ q ∧ q ≤ 64
  g0 : 1 ≤ gap
  g1 : gap ≤ 16

theorem QsOk.at {gap : Int} {qs : List Int} (h : QsOk gap qs) (k : Nat) (hk : k < qs.length) : 1 ≤ qs.getD k 0 ∧ qs.getD k 0 ≤ 64 := by
  rw [List.getD_eq_getElem?_getD, List.getElem?_eq_getElem hk]
  exact h.q _ (List.getElem_mem hk)
theorem accN_bd {gap : Int} {qs : List Int} (h : QsOk gap qs) : ∀ k, k ≤ qs.length → (2 * k : Int) ≤ accN gap qs k ∧ accN gap qs k ≤ 80 * k := by
  intro k
  induction k with
  | zero => intro _; simp [accN]
  | succ k ih =>
    intro hk
    have h1 := ih (by omega)
    have h2 := h.at k (by omega)
    have := h.g0
    have := h.g1
    simp only [accN]
    omega

theorem ints_at {w : World} {g c : Nat} {qs : List Int} (h : w.ownsRow 0 3 1 (.slice (some ⟨g, 0, none⟩) qs.length c) qs.length (qs.map (Value.int .i64))) (k : Nat) (hk : k < qs.length) : w.cell? ⟨g, k, none⟩ = some (.int .i64 (qs.getD k 0)) := by
  have := h.cellAt k (by omega)
  rw [this, List.getElem?_map, List.getD_eq_getElem?_getD, List.getElem?_eq_getElem hk]
  rfl

set_option maxRecDepth 100000 in
set_option maxHeartbeats 2000000 in
theorem round_any (w : World) (gap : Int) (qs : List Int) (g c : Nat) (h : QsOk gap qs) (ho : w.ownsRow 0 3 1 (.slice (some ⟨g, 0, none⟩) qs.length c) qs.length (qs.map (Value.int .i64))) :
    Calls Tryz.prog 86 #[.agg #[.int .i64 gap, .slice (some ⟨g, 0, none⟩) qs.length c]] w fun e w' => e = .returned (.int .i64 (accN gap qs qs.length)) ∧ Fr (fun _ => False) w w' := by
  have HO := hid ho
  have HQ := hid h
  have hl := h.l2
  have hg0 := h.g0
  have hg1 := h.g1
  clear ho h
  go_enter Tryz.func86, Tryz.ntmps86
  go_wp2_with fail
  have HB : Hid ((w.alloc (.cells #[.int .i64 gap, .slice (some ⟨g, 0, none⟩) qs.length c] 96)).heap[w.heap.size]? = some (.cells #[.int .i64 gap, .slice (some ⟨g, 0, none⟩) qs.length c] 96 (0, 0))) := heap_alloc_new w _
  have HF : Hid (Fr (fun _ => False) w (w.alloc (.cells #[.int .i64 gap, .slice (some ⟨g, 0, none⟩) qs.length c] 96))) := (Fr.refl _ w).alloc _
  generalize w.alloc (.cells #[.int .i64 gap, .slice (some ⟨g, 0, none⟩) qs.length c] 96) = wa at *
  go_loop [3, 9] (fun a b => ∃ k : Nat, k ≤ qs.length ∧ b = .int .i64 k ∧ a = .int .i64 (accN gap qs k)) (fun _ b => qs.length - (intOf b).toNat)
  case atStart => exact ⟨0, Nat.zero_le _, rfl, rfl⟩
  case round =>
    obtain ⟨k, hk, rfl, rfl⟩ := hrel
    have hbd := accN_bd HQ.out k hk
    by_cases hlt : k < qs.length
    · have hlti : (k : Int) < (qs.length : Int) := by omega
      have hq := HQ.out.at k hlt
      have ck : wa.cell? ⟨g, k, none⟩ = some (.int .i64 (qs.getD k 0)) := ints_at (HF.out.owns HO.out (fun _ _ h => h)) k hlt
      have cg : wa.cell? ⟨w.heap.size, 0, none⟩ = some (.int .i64 gap) := row_cell HB.out 0
      have HA : Hid (accN gap qs (k + 1) = accN gap qs k + (qs.getD k 0 + gap)) := rfl
      generalize qs.getD k 0 = q at *
      generalize accN gap qs k = a at *
      go_wp2_with fail
      go_round
      case rel => exact ⟨k + 1, by omega, by go_num, by rw [HA.out]⟩
      case measure => simp [intOf]; omega
    · obtain rfl : k = qs.length := by omega
      have hlti : ¬ ((qs.length : Int) < (qs.length : Int)) := by omega
      go_wp2_with fail
      go_ret
      exact ⟨rfl, HF.out⟩

theorem slot_one (k : Int) (a b c : Bool) : (#[.int .i64 k, .bool a, .bool b, .bool c] : Array Value).all (·.oneCell') = true := by
  show ([.int .i64 k, .bool a, .bool b, .bool c] : List Value).toArray.all (·.oneCell') = true
  rw [List.all_toArray]
  rfl
/-- Where a cycle stands: r cycles of the k-th turn and gap are over. -/
def slotV (gap q : Int) (k : Nat) (r : Int) : Array Value := if r < q then #[.int .i64 k, .bool false, .bool false, .bool false] else #[.int .i64 k, .bool true, .bool (r - q == 0), .bool (r - q == gap - 1)]

set_option maxRecDepth 100000 in
set_option maxHeartbeats 2000000 in
theorem at_any (w : World) (gap ck : Int) (qs : List Int) (g c : Nat) (h : QsOk gap qs) (ho : w.ownsRow 0 3 1 (.slice (some ⟨g, 0, none⟩) qs.length c) qs.length (qs.map (Value.int .i64))) (k0 : 0 ≤ ck) :
    Calls Tryz.prog 61 #[.agg #[.int .i64 gap, .slice (some ⟨g, 0, none⟩) qs.length c], .int .i64 ck] w fun e w' => ∃ k, k < qs.length ∧ accN gap qs k ≤ ck % accN gap qs qs.length ∧ ck % accN gap qs qs.length < accN gap qs (k + 1) ∧
      e = .returned (.agg (slotV gap (qs.getD k 0) k (ck % accN gap qs qs.length - accN gap qs k))) ∧ Fr (fun _ => False) w w' := by
  have HO := hid ho
  have HQ := hid h
  have hl := h.l2
  have hl1 := h.l1
  have hg0 := h.g0
  have hg1 := h.g1
  have hR := accN_bd h qs.length (Nat.le_refl _)
  have HRO := hid (fun w1 h1 => round_any w1 gap qs g c h h1)
  have hrm : ck.tmod (accN gap qs qs.length) = ck % accN gap qs qs.length := Int.tmod_eq_emod_of_nonneg k0
  have hr0 : 0 ≤ ck % accN gap qs qs.length := Int.emod_nonneg _ (by omega)
  have hr1 : ck % accN gap qs qs.length < accN gap qs qs.length := Int.emod_lt_of_pos _ (by omega)
  have HR1 := hid hr1
  have HRM := hid hrm
  have hnz : ¬ accN gap qs qs.length = 0 := by omega
  obtain ⟨rnd, hrnd⟩ : ∃ r, accN gap qs qs.length = r := ⟨_, rfl⟩
  have HRN := hid hrnd
  rw [hrnd] at hrm hr0 hr1 HR1 HRM hnz hR HRO ⊢
  obtain ⟨rest, hrest⟩ : ∃ r, ck % rnd = r := ⟨_, rfl⟩
  rw [hrest] at hrm hr0 hr1 HR1 HRM ⊢
  clear ho h hrnd hrest
  go_enter Tryz.func61, Tryz.ntmps61
  go_wp2_with fail
  refine (HRO.out _ ?_).mono ?_
  · exact (((Fr.refl _ w).alloc _).alloc _).owns HO.out (fun _ _ h => h)
  rintro e w1 ⟨rfl, hf1⟩
  have HB := hid (hf1.get (heap_alloc_oldT w _ _) id)
  have HS := hid (hf1.get (heap_alloc2_new w _ _) id)
  have HF := hid ((((Fr.refl _ w).alloc _).alloc _).step hf1 (fun _ h => .inl h))
  clear hf1
  go_wp2_with fail
  go_loopw [5, 6] (fun a b wr => ∃ k : Nat, k < qs.length ∧ b = .int .i64 k ∧ a = .int .i64 (rest - accN gap qs k) ∧ accN gap qs k ≤ rest ∧ wr.heap[w.heap.size]? = some (.cells #[.int .i64 gap, .slice (some ⟨g, 0, none⟩) qs.length c] 96 (0, 0)) ∧ wr.heap[w.heap.size + 1]? = some (.cells #[.int .i64 0, .bool false, .bool false, .bool false] 134 (0, 0)) ∧ Fr (fun _ => False) w wr) (fun _ b _ => qs.length - (intOf b).toNat)
  case atStart => exact ⟨0, by omega, rfl, by simp [accN], by simpa [accN] using hr0, HB.out, HS.out, HF.out⟩
  case round =>
    obtain ⟨k, hk, rfl, rfl, hle, hb, hsl, hf⟩ := hrel
    have hbd := accN_bd HQ.out k (by omega)
    have hbd2 := accN_bd HQ.out (k + 1) (by omega)
    have hq := HQ.out.at k hk
    have hki : (k : Int) < (qs.length : Int) := by omega
    have hk0 : (0 : Int) ≤ (k : Int) := by omega
    have HBB := hid hb
    have HSL := hid hsl
    have HFF := hid hf
    have ck : wr.cell? ⟨g, k, none⟩ = some (.int .i64 (qs.getD k 0)) := ints_at (hf.owns HO.out (fun _ _ h => h)) k hk
    have cg : wr.cell? ⟨w.heap.size, 0, none⟩ = some (.int .i64 gap) := row_cell hb 0
    have cq : wr.cell? ⟨w.heap.size, 1, none⟩ = some (.slice (some ⟨g, 0, none⟩) qs.length c) := row_cell hb 1
    have HA : Hid (accN gap qs (k + 1) = accN gap qs k + (qs.getD k 0 + gap)) := rfl
    have HK1 : Hid (accN gap qs (k + 1) ≤ rest → k + 1 < qs.length) := by
      intro hh
      by_cases e : k + 1 = qs.length
      · exfalso
        rw [e, HRN.out] at hh
        have := HR1.out
        omega
      · omega
    have hbig : rest ≤ 400 := by omega
    clear HB HS HF hb hsl hf
    generalize hqe : qs.getD k 0 = q at *
    have HQE := hid hqe
    clear hqe
    generalize ha : accN gap qs k = a at *
    rw [HA.out] at hbd2
    clear hrm HRM
    by_cases hge : q + gap ≤ rest - a
    · go_wp2_with fail
      go_quiet (fail)
      go_wp2_with fail
      go_quiet (fail)
      go_wp2_with fail
      have hk1 := HK1.out (by rw [HA.out]; omega)
      refine ⟨⟨k + 1, hk1, by go_num, by rw [HA.out]; go_num, by rw [HA.out]; omega, HBB.out, HSL.out, HFF.out.drewN _⟩, ?_⟩
      simp [intOf]
      omega
    · have HRL : Hid (rest < accN gap qs (k + 1)) := by unfold Hid; rw [HA.out]; omega
      by_cases hlt : rest - a < q
      · have HSV : Hid (slotV gap q k (rest - a) = #[.int .i64 k, .bool false, .bool false, .bool false]) := by unfold Hid slotV; rw [if_pos hlt]
        go_wp2_with fail
        go_quiet (fail)
        go_wp2_with (first
          | (refine wpList_storeRow ?_ 134 (.tmp 4) (.tmp 41) ?_ (w.heap.size + 1) 134 _ #[.int .i64 k, .bool false, .bool false, .bool false] ?_ ?_ HSL.out ?_ ?_ (slot_one _ _ _ _) ?_; rfl; rfl; rfl; rfl; kernel_rfl; rfl; intro w4 g4 hf4; have HG4 := hid g4; have HF4 := hid hf4; clear g4 hf4))
        refine bodyPost_ret (v := .agg #[.int .i64 k, .bool false, .bool false, .bool false]) ?_ rfl ⟨k, hk, by rw [ha]; exact hle, HRL.out, by rw [ha, HQE.out, HSV.out], (HFF.out.drewN _).step HF4.out (fun i hi => .inr (by omega))⟩
        have hi : (Tryz.prog.info? 134).map (·.size) = some 4 := by kernel_rfl
        simp [results, Tryz.results61, Act.put, asAddr, run_loadVar_row w4 (w.heap.size + 1) _ 134 _ (0, 0) _ HG4.out Tryz.underlying134 rfl hi]
      · have HSV : Hid (slotV gap q k (rest - a) = #[.int .i64 k, .bool true, .bool (rest - a - q == 0), .bool (rest - a - q == gap - 1)]) := by unfold Hid slotV; rw [if_neg hlt]
        go_wp2_with fail
        go_quiet (fail)
        go_wp2_with (first
          | (refine wpList_storeRow ?_ 134 (.tmp 4) (.tmp 57) ?_ (w.heap.size + 1) 134 _ #[.int .i64 k, .bool true, .bool (rest - a - q == 0), .bool (rest - a - q == gap - 1)] ?_ ?_ HSL.out ?_ ?_ (slot_one _ _ _ _) ?_; rfl; rfl; rfl; rfl; kernel_rfl; rfl; intro w4 g4 hf4; have HG4 := hid g4; have HF4 := hid hf4; clear g4 hf4))
        refine bodyPost_ret (v := .agg #[.int .i64 k, .bool true, .bool (rest - a - q == 0), .bool (rest - a - q == gap - 1)]) ?_ rfl ⟨k, hk, by rw [ha]; exact hle, HRL.out, by rw [ha, HQE.out, HSV.out], (HFF.out.drewN _).step HF4.out (fun i hi => .inr (by omega))⟩
        have hi : (Tryz.prog.info? 134).map (·.size) = some 4 := by kernel_rfl
        simp [results, Tryz.results61, Act.put, asAddr, run_loadVar_row w4 (w.heap.size + 1) _ 134 _ (0, 0) _ HG4.out Tryz.underlying134 rfl hi]

end Go.Proofs.YthmcheoehcmglaaGreat
