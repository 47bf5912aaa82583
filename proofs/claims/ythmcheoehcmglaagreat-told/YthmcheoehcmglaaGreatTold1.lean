/- wardskeep.Told, walked. -/
import Derived.Test.YthmcheoehcmglaaGreatJ3
namespace Go.Proofs.YthmcheoehcmglaaGreat
open Go.RowKit
set_option linter.unusedVariables false
attribute [local go_sem ↓] Go.wp_at_zero Go.wp_at_succ

theorem code_k (c a b n r : Int) (w : World) (h : 0 ≤ c ∧ c < 256 ∧ 0 ≤ a ∧ a < 16 ∧ 0 ≤ b ∧ b < 16 ∧ 0 ≤ n ∧ n < 65536) (hr : c * 16777216 + a * 1048576 + b * 65536 + n = r) :
    Calls Tryz.prog 18 #[.int .i64 c, .int .i64 a, .int .i64 b, .int .i64 n] w fun e w' => e = .returned (.int .i64 r) ∧ w' = w := by
  rw [← hr]
  exact code_any c a b n w h.1 h.2.1 h.2.2.1 h.2.2.2.1 h.2.2.2.2.1 h.2.2.2.2.2.1 h.2.2.2.2.2.2.1 h.2.2.2.2.2.2.2

/-- Three wards in a slice. -/
theorem wds_three {w : World} {B : Nat} {q0 q1 q2 : Int} {v0 v1 v2 : Value} {l0 l1 l2 : List Int} (hB : w.heap[B]? = some (.cells #[.int .i64 q0, v0, .int .i64 q1, v1, .int .i64 q2, v2] 41 (0, 0))) (h0 : IntsAt w v0 l0) (h1 : IntsAt w v1 l1) (h2 : IntsAt w v2 l2) (hq0 : I64 q0) (hq1 : I64 q1) (hq2 : I64 q2) (hl0 : ∀ x ∈ l0, I64 x) (hl1 : ∀ x ∈ l1, I64 x) (hl2 : ∀ x ∈ l2, I64 x) : WdsAt w B 0 3 3 [(q0, l0), (q1, l1), (q2, l2)] := by
  refine ⟨rfl, ?_, ?_⟩
  · intro k q ws hk
    match k, hk with
    | 0, hk =>
      simp only [List.getElem?_cons_zero, Option.some.injEq, Prod.mk.injEq] at hk
      obtain ⟨rfl, rfl⟩ := hk
      exact ⟨row_cell hB 0, v0, row_cell hB 1, h0⟩
    | 1, hk =>
      simp only [List.getElem?_cons_succ, List.getElem?_cons_zero, Option.some.injEq, Prod.mk.injEq] at hk
      obtain ⟨rfl, rfl⟩ := hk
      exact ⟨row_cell hB 2, v1, row_cell hB 3, h1⟩
    | 2, hk =>
      simp only [List.getElem?_cons_succ, List.getElem?_cons_zero, Option.some.injEq, Prod.mk.injEq] at hk
      obtain ⟨rfl, rfl⟩ := hk
      exact ⟨row_cell hB 4, v2, row_cell hB 5, h2⟩
  · intro q ws hm
    simp only [List.mem_cons, Prod.mk.injEq, List.not_mem_nil, or_false] at hm
    rcases hm with ⟨rfl, rfl⟩ | ⟨rfl, rfl⟩ | ⟨rfl, rfl⟩
    · exact ⟨hq0, hl0⟩
    · exact ⟨hq1, hl1⟩
    · exact ⟨hq2, hl2⟩

theorem toldA_i64 (v : Int) : ∀ z ∈ toldA v, I64 z := by
  intro z hz
  simp only [toldA, wordI, List.cons_append, List.nil_append, List.mem_cons, List.not_mem_nil, or_false] at hz
  unfold I64
  rcases hz with rfl | rfl | rfl | rfl <;> omega
theorem toldB_i64 : ∀ z ∈ toldB, I64 z := by
  intro z hz
  simp only [toldB, List.mem_cons, List.not_mem_nil, or_false] at hz
  unfold I64
  omega
theorem toldC_i64 : ∀ z ∈ toldC, I64 z := by
  intro z hz
  simp only [toldC, List.mem_cons, List.not_mem_nil, or_false] at hz
  unfold I64
  omega

theorem Going.cell {x : KX} {N : NM} {w wr : World} (h : Going x N w wr) (X : Nat) (hX : x.X = X) (i : Nat) (c : Int × Int) (hc : N.wi[i]? = some c) (p : Nat) (hp : cellAt x i = p) (hn : p < x.n) : Calls Tryz.prog 29 #[.pointer (some ⟨X, 0, none⟩), .int .i64 p] wr fun e w' => e = .returned (.tuple #[.int .u32 c.1, .int .i64 0]) ∧ w' = wr := by
  obtain ⟨s, h1, h2⟩ := h.word X hX p hn
  have := h1.hi.cl i c hc
  rw [hp] at this
  rw [this.1] at h2
  exact h2

/-- The quanta, after i of them. -/
structure ToldQ (w0 : World) (B i : Nat) (wr : World) : Prop where
  q : ∃ q0 q1 q2, I64 q0 ∧ I64 q1 ∧ I64 q2 ∧ wr.heap[B]? = some (.cells #[.int .i64 q0, .int .i64 q1, .int .i64 q2] 3 (0, 0))
  f : Fr (fun _ => False) w0 wr

theorem ToldQ.set {w0 wr : World} {B i : Nat} (h : ToldQ w0 B i wr) (hB : w0.heap.size ≤ B) (j : Nat) (hj : j < 3) (q : Int) (hq : I64 q) : ToldQ w0 B (i + 1) (wr.setCell ⟨B, j, none⟩ (.int .i64 q)) := by
  obtain ⟨q0, q1, q2, h0, h1, h2, hc⟩ := h.q
  refine ⟨?_, h.f.setCell (.inr hB) _⟩
  have hs := row_set hc j (.int .i64 q)
  match j, hj, hs with
  | 0, _, hs => exact ⟨q, q1, q2, hq, h1, h2, hs⟩
  | 1, _, hs => exact ⟨q0, q, q2, h0, hq, h2, hs⟩
  | 2, _, hs => exact ⟨q0, q1, q, h0, h1, hq, hs⟩

set_option maxRecDepth 100000 in
set_option maxHeartbeats 4000000 in
theorem told_any (w : World) (gap v : Int) (hg : I64 gap) (hv : I64 v) (vq : Value) (qs : List Int) (hqs : IntsAt w vq qs) (hqi : ∀ x ∈ qs, I64 x) :
    Calls Tryz.prog 8 #[.int .i64 gap, vq, .int .i64 v] w fun e w' => e = .returned (.bool true) ∧ Fr (fun _ => False) w w' := by
  obtain ⟨aq, cq, rfl, hqc, hqm, hrd⟩ := hqs
  have HRD := hid hrd
  have HQI := hid hqi
  have HW2 := hid (fun w1 => kword_any w1 2 v (by omega) (by omega) hv)
  have HTA : Hid (toldA v = [16777216 + 2 * 1048576 + v / 65536 % 65536, 33554432 + 2 * 1048576 + v % 65536, 301989891, 301989888]) := rfl
  generalize 16777216 + 2 * 1048576 + v / 65536 % 65536 = A1 at *
  generalize 33554432 + 2 * 1048576 + v % 65536 = A2 at *
  clear hrd hqi
  go_enter Tryz.func8, Tryz.ntmps8
  go_wp2_with fail
  have HQ0 : Hid (ToldQ w w.heap.size 0 (w.alloc (.cells #[.int .i64 1, .int .i64 1, .int .i64 1] 3))) := ⟨⟨1, 1, 1, by unfold I64; omega, by unfold I64; omega, by unfold I64; omega, heap_alloc_new w _⟩, (Fr.refl _ w).alloc _⟩
  obtain ⟨B, hB⟩ : ∃ B, w.heap.size = B := ⟨_, rfl⟩
  have HB := hid hB
  rw [hB] at HQ0 ⊢
  clear hB
  go_loopw [8] (fun i wr => ∃ k : Nat, k ≤ 3 ∧ i = .int .i64 k ∧ ToldQ w B k wr) (fun i _ => 3 - (intOf i).toNat)
  case atStart => exact ⟨0, Nat.zero_le _, rfl, HQ0.out⟩
  case round =>
    obtain ⟨i, hi, rfl, hQ⟩ := hrel
    clear HQ0
    have HQ := hid hQ
    clear hQ
    by_cases hlt : i < 3 ∧ i < qs.length
    · have h1 : (i : Int) < 3 := by omega
      have h2 : (i : Int) < (qs.length : Int) := by omega
      obtain ⟨z, hz⟩ : ∃ z, qs[i]? = some z := ⟨_, List.getElem?_eq_getElem hlt.2⟩
      obtain ⟨gb, o, hae, hcell⟩ := HRD.out (by omega)
      subst hae
      have cz : wr.cell? ⟨gb, o + i, none⟩ = some (.int .i64 z) := cell_fr (hcell i z hz) HQ.out.f
      have hz64 := HQI.out z (List.mem_of_getElem? hz)
      have HN := hid (HQ.out.set (by rw [HB.out]; exact Nat.le_refl _) i hlt.1 z hz64)
      obtain ⟨q0, q1, q2, _, _, _, hc⟩ := HQ.out.q
      obtain ⟨u, hu⟩ : ∃ u, (#[Value.int .i64 q0, .int .i64 q1, .int .i64 q2])[i]? = some u := ⟨_, Array.getElem?_eq_getElem hlt.1⟩
      have cB : wr.cell? ⟨B, i, none⟩ = some u := (row_cell hc i).trans hu
      have fB := row_frozen hc i
      clear hcell hz hc hu hlt
      go_wp2_with fail
      go_roundw
      case rel => exact ⟨i + 1, by omega, by go_num, HN.out⟩
      case measure => simp [intOf]; omega
    · have hend : ((decide ((i : Int) < 3)) && decide ((i : Int) < (qs.length : Int))) = false := by
        simp only [Bool.and_eq_false_imp, decide_eq_true_eq, decide_eq_false_iff_not]
        omega
      have HF1 := hid HQ.out.f
      obtain ⟨q0, q1, q2, hq0, hq1, hq2, hc⟩ := HQ.out.q
      have HC := hid hc
      have HQS : Hid (I64 q0 ∧ I64 q1 ∧ I64 q2) := ⟨hq0, hq1, hq2⟩
      clear hc hq0 hq1 hq2 HQ
      have c0 : ∀ w1, Fr (fun _ => False) wr w1 → w1.heap[B]? = some (.cells #[.int .i64 q0, .int .i64 q1, .int .i64 q2] 3 (0, 0)) := fun w1 h1 => h1.get HC.out id
      have HC0 := hid c0
      clear c0 HC
      by_cases h3 : (i : Int) < 3
      case' pos =>
        have h4 : ¬ (i : Int) < (qs.length : Int) := by omega
        clear hend hlt
        go_upto_region 6 with fail
      case' neg =>
        clear hend hlt
        go_upto_region 6 with fail
      all_goals
        clear h3
        go_wp2_with fail
        refine (HW2.out _).mono ?_
        rintro e w2 ⟨rfl, rfl⟩
        go_wp2_with fail
        refine (code_k 18 0 0 3 301989891 _ (by omega) (by omega)).mono ?_
        rintro e w3 ⟨rfl, rfl⟩
        go_wp2_with fail
        refine (code_k 18 0 0 0 301989888 _ (by omega) (by omega)).mono ?_
        rintro e w4 ⟨rfl, rfl⟩
        have HBA : Hid ((wr.alloc (.cells #[.int .i64 A1, .int .i64 A2] 3)).heap[wr.heap.size]? = some (.cells #[.int .i64 A1, .int .i64 A2] 3 (0, 0))) := heap_alloc_new wr _
        have HF2 : Hid (Fr (fun _ => False) wr (wr.alloc (.cells #[.int .i64 A1, .int .i64 A2] 3))) := (Fr.refl _ wr).alloc _
        generalize wr.alloc (.cells #[.int .i64 A1, .int .i64 A2] 3) = wb at *
        have HO1 : Hid (wb.ownsRow wr.heap.size 3 1 (.slice (some ⟨wr.heap.size, 0, none⟩) 2 2) 2 [.int .i64 A1, .int .i64 A2]) := owns_lit (Nat.le_refl _) HBA.out rfl (by unfold maxLen; omega)
        go_wp2_with (first
          | (refine wpList_appM slInt (by rfl) _ _ (by rfl) wr.heap.size (.slice (some ⟨wr.heap.size, 0, none⟩) 2 2) 2 _ (by rfl) (HO1.out.alloc _) wb.heap.size 2 #[.int .i64 301989891, .int .i64 301989888] _ (by rfl) (heap_alloc_new wb _) rfl (by omega) (by simp [Value.oneCell']) (by omega) (by decide) (le_alloc HF2.out.size _) ?_; intro g4 c4 w4 hown4 hf4 hat4; have HO4 := hid hown4; have HF4 := hid ((HF2.out.alloc _).step hf4 (fun i hi => .inr (HO1.out.lt i hi).1)); clear hown4 hf4 hat4))
        clear HO1 HBA HF2
        refine (code_k 18 0 0 4 301989892 _ (by omega) (by omega)).mono ?_
        rintro e w5 ⟨rfl, hw5⟩
        obtain rfl := hw5.symm
        go_wp2_with fail
        refine (code_k 1 3 0 0 19922944 _ (by omega) (by omega)).mono ?_
        rintro e w5 ⟨rfl, hw5⟩
        obtain rfl := hw5.symm
        go_wp2_with fail
        refine (code_k 4 3 0 0 70254592 _ (by omega) (by omega)).mono ?_
        rintro e w5 ⟨rfl, hw5⟩
        obtain rfl := hw5.symm
        go_wp2_with fail
        refine (code_k 16 3 0 5 271581189 _ (by omega) (by omega)).mono ?_
        rintro e w5 ⟨rfl, hw5⟩
        obtain rfl := hw5.symm
        go_wp2_with fail
        refine (code_k 15 0 0 0 251658240 _ (by omega) (by omega)).mono ?_
        rintro e w5 ⟨rfl, hw5⟩
        obtain rfl := hw5.symm
        go_wp2_with fail
        refine (code_k 14 2 7 40 237436968 _ (by omega) (by omega)).mono ?_
        rintro e w5 ⟨rfl, hw5⟩
        obtain rfl := hw5.symm
        go_wp2_with fail
        refine (code_k 18 0 0 4 301989892 _ (by omega) (by omega)).mono ?_
        rintro e w5 ⟨rfl, hw5⟩
        obtain rfl := hw5.symm
        go_wp2_with fail
        refine (code_k 18 0 0 0 301989888 _ (by omega) (by omega)).mono ?_
        rintro e w5 ⟨rfl, hw5⟩
        obtain rfl := hw5.symm
        go_wp2_with fail
        have HF5 : Hid (Fr (fun _ => False) wr (w4.alloc (.cells #[.int .i64 301989892, .int .i64 19922944, .int .i64 70254592, .int .i64 271581189, .int .i64 251658240, .int .i64 237436968, .int .i64 301989892, .int .i64 301989888] 3))) := HF4.out.alloc _
        have HO5 := hid (HO4.out.alloc (.cells #[.int .i64 301989892, .int .i64 19922944, .int .i64 70254592, .int .i64 271581189, .int .i64 251658240, .int .i64 237436968, .int .i64 301989892, .int .i64 301989888] 3))
        have HB5 := hid (heap_alloc_new w4 (.cells #[.int .i64 301989892, .int .i64 19922944, .int .i64 70254592, .int .i64 271581189, .int .i64 251658240, .int .i64 237436968, .int .i64 301989892, .int .i64 301989888] 3))
        generalize w4.alloc (.cells #[.int .i64 301989892, .int .i64 19922944, .int .i64 70254592, .int .i64 271581189, .int .i64 251658240, .int .i64 237436968, .int .i64 301989892, .int .i64 301989888] 3) = w6 at *
        generalize w4.heap.size = S5 at *
        clear HO4 HF4
        refine (code_k 18 0 0 5 301989893 _ (by omega) (by omega)).mono ?_
        rintro e w5 ⟨rfl, hw5⟩
        obtain rfl := hw5.symm
        go_wp2_with fail
        refine (code_k 18 0 0 0 301989888 _ (by omega) (by omega)).mono ?_
        rintro e w5 ⟨rfl, hw5⟩
        obtain rfl := hw5.symm
        go_upto_region 9 with fail
        have HF7 : Hid (Fr (fun _ => False) wr (w6.alloc (.cells #[.int .i64 301989893, .int .i64 301989888] 3))) := HF5.out.alloc _
        have HO7 := hid (HO5.out.alloc (.cells #[.int .i64 301989893, .int .i64 301989888] 3))
        have HB7 := hid (get_alloc HB5.out (.cells #[.int .i64 301989893, .int .i64 301989888] 3))
        have HC7 := hid (heap_alloc_new w6 (.cells #[.int .i64 301989893, .int .i64 301989888] 3))
        generalize w6.alloc (.cells #[.int .i64 301989893, .int .i64 301989888] 3) = w7 at *
        generalize w6.heap.size = S6 at *
        clear HO5 HF5 HB5
        have hB7 := HC0.out w7 HF7.out
        have b0 : w7.drew.cell? ⟨B, 0, none⟩ = some (.int .i64 q0) := row_cell hB7 0
        have b1 : w7.drew.cell? ⟨B, 1, none⟩ = some (.int .i64 q1) := row_cell hB7 1
        have b2 : w7.drew.cell? ⟨B, 2, none⟩ = some (.int .i64 q2) := row_cell hB7 2
        clear hB7 HC0
        go_wp2_with fail
        go_region
        go_wp2_with fail
        have hb9 : ((w7.alloc (.cells #[.int .i64 q0, .slice (some ⟨g4, 0, none⟩) 4 c4, .int .i64 q1, .slice (some ⟨S5, 0, none⟩) 8 8, .int .i64 q2, .slice (some ⟨S6, 0, none⟩) 2 2] 41)).alloc (.cells #[.int .i64 0, .int .i64 1] 64)).drew.heap[w7.heap.size]? = some (.cells #[.int .i64 q0, .slice (some ⟨g4, 0, none⟩) 4 c4, .int .i64 q1, .slice (some ⟨S5, 0, none⟩) 8 8, .int .i64 q2, .slice (some ⟨S6, 0, none⟩) 2 2] 41 (0, 0)) := get_alloc (heap_alloc_new w7 _) _
        have hb10 : ((w7.alloc (.cells #[.int .i64 q0, .slice (some ⟨g4, 0, none⟩) 4 c4, .int .i64 q1, .slice (some ⟨S5, 0, none⟩) 8 8, .int .i64 q2, .slice (some ⟨S6, 0, none⟩) 2 2] 41)).alloc (.cells #[.int .i64 0, .int .i64 1] 64)).drew.heap[w7.heap.size + 1]? = some (.cells #[.int .i64 0, .int .i64 1] 64 (0, 0)) := heap_alloc2_new w7 _ _
        have hf9 : Fr (fun _ => False) w7 ((w7.alloc (.cells #[.int .i64 q0, .slice (some ⟨g4, 0, none⟩) 4 c4, .int .i64 q1, .slice (some ⟨S5, 0, none⟩) 8 8, .int .i64 q2, .slice (some ⟨S6, 0, none⟩) 2 2] 41)).alloc (.cells #[.int .i64 0, .int .i64 1] 64)).drew := (((Fr.refl _ w7).alloc _).alloc _).drew
        generalize ((w7.alloc (.cells #[.int .i64 q0, .slice (some ⟨g4, 0, none⟩) 4 c4, .int .i64 q1, .slice (some ⟨S5, 0, none⟩) 8 8, .int .i64 q2, .slice (some ⟨S6, 0, none⟩) 2 2] 41)).alloc (.cells #[.int .i64 0, .int .i64 1] 64)).drew = w9 at *
        have HWD : Hid (WdsAt w9 w7.heap.size 0 3 3 (toldL q0 q1 q2 v)) := by
          have i0 : IntsAt w9 (.slice (some ⟨g4, 0, none⟩) 4 c4) (toldA v) := by
            rw [HTA.out]
            exact ints_of_owns (hf9.ownsF _ HO7.out)
          have i1 : IntsAt w9 (.slice (some ⟨S5, 0, none⟩) 8 8) toldB := ints_of_owns (base := 0) (owns_lit (cs := #[.int .i64 301989892, .int .i64 19922944, .int .i64 70254592, .int .i64 271581189, .int .i64 251658240, .int .i64 237436968, .int .i64 301989892, .int .i64 301989888]) (Nat.zero_le _) (hf9.get HB7.out id) rfl (by unfold maxLen; omega))
          have i2 : IntsAt w9 (.slice (some ⟨S6, 0, none⟩) 2 2) toldC := ints_of_owns (base := 0) (owns_lit (cs := #[.int .i64 301989893, .int .i64 301989888]) (Nat.zero_le _) (hf9.get HC7.out id) rfl (by unfold maxLen; omega))
          exact wds_three hb9 i0 i1 i2 HQS.out.1 HQS.out.2.1 HQS.out.2.2 (toldA_i64 v) toldB_i64 toldC_i64
        have HF9 := hid (HF7.out.step hf9 (fun _ h => .inl h))
        have HCF : Hid (w9.cell? ⟨w7.heap.size + 1, 0, none⟩ = some (.int .i64 0)) := row_cell hb10 0
        have HCU : Hid (w9.cell? ⟨w7.heap.size + 1, 1, none⟩ = some (.int .i64 1)) := row_cell hb10 1
        clear hb9 hb10 hf9 HO7 HB7 HC7 HF7 HTA HQS HW2
        generalize w7.heap.size = S9 at *
        refine (image_w1 w9 gap hg S9 0 3 3 (toldL q0 q1 q2 v) HWD.out (by omega) (by omega) (S9 + 1) 1 0 1 HCF.out HCU.out (by unfold I64; omega) (by unfold I64; omega)).mono ?_
        rintro e w10 ⟨rfl, hf10⟩
        have HF10 := hid (HF1.out.step (HF9.out.step hf10 (fun _ h => .inl h)) (fun _ h => .inl h))
        have HBT := hid (fun w3 => keepBootW w3 gap (toldL q0 q1 q2 v))
        clear hf10 HWD HCF HCU HF9 HF1
        go_wp2_with fail
        refine (HBT.out _).mono ?_
        rintro e w11 ⟨x, vL, rfl, hl3, hx3, hf3, hk3⟩
        have hG0 : Going x (bootN (keepImgW gap (toldL q0 q1 q2 v) 3)) w10 w11 := ⟨⟨_, vL, hl3, hk3⟩, hf3⟩
        have hrl : x.regs.length = 3 := keepW_rlen _ _ _ x hx3
        have hxn : x.n = 1024 := hx3.n
        have HOUT := hid (told_out gap q0 q1 q2 v x hx3 hl3.x)
        have HR1 : Hid (x.regs.getD 1 [] = rsK (18 + 16 * ((3 : Nat) : Int) + 64 * ((1 : Nat) : Int))) := keepW_regs gap _ 3 x hx3 1 (by omega)
        obtain ⟨X, hXX⟩ : ∃ X, x.X = X := ⟨_, rfl⟩
        rw [hXX]
        have HXX := hid hXX
        have hrN : runN 8000 = 8000 := rfl
        have HR := hid (hG0.run 8000 0 (by intro d hd; simp only [bootN, List.mem_replicate] at hd; rw [hd.2]; simp) (by have : (runN 8000).toNat = 8000 := rfl; omega) (by have : (runN 8000).toNat = 8000 := rfl; simp only [bootN]; omega) X hXX)
        rw [hrN] at HR
        replace HR : Hid (Calls Tryz.prog 21 #[.pointer (some ⟨X, 0, none⟩), .int .i64 8000] w11 fun e w' => e = .returned (.int .i64 8000) ∧ Going x (iterN x 8000 (bootN (keepImgW gap (toldL q0 q1 q2 v) 3))) w10 w') := HR
        generalize iterN x 8000 (bootN (keepImgW gap (toldL q0 q1 q2 v) 3)) = N at *
        clear hl3 hx3 hf3 hk3 HBT hG0 hXX hrN
        have HV0 := hid (fun (w1 : World) (h1 : Going x N w10 w1) => h1.view X HXX.out 0 (by omega))
        have HV1 := hid (fun (w1 : World) (h1 : Going x N w10 w1) => h1.view X HXX.out 1 (by omega))
        have HV2 := hid (fun (w1 : World) (h1 : Going x N w10 w1) => h1.view X HXX.out 2 (by omega))
        rw [HOUT.out.n0] at HV0
        rw [HOUT.out.n1] at HV1
        rw [HOUT.out.n2] at HV2
        have HPE := hid (fun (w1 : World) (h1 : Going x N w10 w1) => h1.peek X HXX.out 1 (by omega) 40 (by omega) (by omega))
        have hread : readN (x.regs.getD 1 []) 0 (N.wn.getD 1 zeroWN).ws 40 = some (v % 4294967296) := by
          rw [HR1.out, HOUT.out.w1]
          unfold rsK
          rw [readK _ 0 (by omega) _ _ (by omega), if_pos (by omega), show (40 : Int).toNat = 40 from rfl, getD_set_eq, if_pos ⟨rfl, by rw [keepW_len]; omega⟩]
        rw [hread] at HPE
        have HWO := hid (fun (w1 : World) (h1 : Going x N w10 w1) => h1.cell X HXX.out 0 (0, v % 4294967296) (by rw [HOUT.out.wi]; rfl) 64 (by unfold cellAt; omega) (by omega))
        generalize hVV : v % 4294967296 = V at *
        have HVV := hid hVV
        clear hread HOUT HR1 hVV
        replace HV0 : Hid (∀ w1, Going x N w10 w1 → Calls Tryz.prog 23 #[.pointer (some ⟨X, 0, none⟩), .int .i64 0] w1 fun e w' => e = .returned (.tuple #[.agg #[.int .u32 0, .int .u32 0, .int .u32 V, .int .u32 0, .int .u32 0, .int .u32 0, .int .u32 0, .int .u32 0, .int .u32 4, .int .i64 1, .int .i64 0, .int .i64 0, .bool false], .int .i64 0]) ∧ Fr (fun _ => False) w1 w') := HV0
        replace HV1 : Hid (∀ w1, Going x N w10 w1 → Calls Tryz.prog 23 #[.pointer (some ⟨X, 0, none⟩), .int .i64 1] w1 fun e w' => e = .returned (.tuple #[.agg #[.int .u32 1, .int .u32 0, .int .u32 V, .int .u32 0, .int .u32 0, .int .u32 0, .int .u32 0, .int .u32 0, .int .u32 8, .int .i64 1, .int .i64 0, .int .i64 0, .bool false], .int .i64 0]) ∧ Fr (fun _ => False) w1 w') := HV1
        replace HV2 : Hid (∀ w1, Going x N w10 w1 → Calls Tryz.prog 23 #[.pointer (some ⟨X, 0, none⟩), .int .i64 2] w1 fun e w' => e = .returned (.tuple #[.agg #[.int .u32 0, .int .u32 0, .int .u32 0, .int .u32 0, .int .u32 0, .int .u32 0, .int .u32 0, .int .u32 0, .int .u32 0, .int .i64 2, .int .i64 5, .int .i64 0, .bool false], .int .i64 0]) ∧ Fr (fun _ => False) w1 w') := HV2
        replace HPE : Hid (∀ w1, Going x N w10 w1 → Calls Tryz.prog 22 #[.pointer (some ⟨X, 0, none⟩), .int .i64 1, .int .u32 40] w1 fun e w' => e = .returned (.tuple #[.int .u32 V, .int .i64 0]) ∧ Fr (fun _ => False) w1 w') := HPE
        replace HWO : Hid (∀ w1, Going x N w10 w1 → Calls Tryz.prog 29 #[.pointer (some ⟨X, 0, none⟩), .int .i64 64] w1 fun e w' => e = .returned (.tuple #[.int .u32 0, .int .i64 0]) ∧ w' = w1) := HWO
        go_wp2_with fail
        refine HR.out.mono ?_
        rintro e w12 ⟨rfl, hG⟩
        have HG12 := hid hG
        clear hG HR
        go_wp2_with fail
        refine (HV0.out _ HG12.out).mono ?_
        rintro e w13 ⟨rfl, hf13⟩
        have HG14 := hid ((HG12.out.fr hf13).fr ((Fr.refl _ w13).alloc (.cells #[.int .u32 0, .int .u32 0, .int .u32 V, .int .u32 0, .int .u32 0, .int .u32 0, .int .u32 0, .int .u32 0, .int .u32 4, .int .i64 1, .int .i64 0, .int .i64 0, .bool false] 48)))
        have HB14 := hid (heap_alloc_new w13 (.cells #[.int .u32 0, .int .u32 0, .int .u32 V, .int .u32 0, .int .u32 0, .int .u32 0, .int .u32 0, .int .u32 0, .int .u32 4, .int .i64 1, .int .i64 0, .int .i64 0, .bool false] 48))
        clear hf13 HV0 HG12
        go_wp2_with fail
        generalize w13.alloc (.cells #[.int .u32 0, .int .u32 0, .int .u32 V, .int .u32 0, .int .u32 0, .int .u32 0, .int .u32 0, .int .u32 0, .int .u32 4, .int .i64 1, .int .i64 0, .int .i64 0, .bool false] 48) = w14 at *
        generalize w13.heap.size = B0 at *
        refine (HV1.out _ HG14.out).mono ?_
        rintro e w15 ⟨rfl, hf15⟩
        have HG16 := hid ((HG14.out.fr hf15).fr ((Fr.refl _ w15).alloc (.cells #[.int .u32 1, .int .u32 0, .int .u32 V, .int .u32 0, .int .u32 0, .int .u32 0, .int .u32 0, .int .u32 0, .int .u32 8, .int .i64 1, .int .i64 0, .int .i64 0, .bool false] 48)))
        have HB16 := hid (get_alloc (hf15.get HB14.out id) (.cells #[.int .u32 1, .int .u32 0, .int .u32 V, .int .u32 0, .int .u32 0, .int .u32 0, .int .u32 0, .int .u32 0, .int .u32 8, .int .i64 1, .int .i64 0, .int .i64 0, .bool false] 48))
        have HC16 := hid (heap_alloc_new w15 (.cells #[.int .u32 1, .int .u32 0, .int .u32 V, .int .u32 0, .int .u32 0, .int .u32 0, .int .u32 0, .int .u32 0, .int .u32 8, .int .i64 1, .int .i64 0, .int .i64 0, .bool false] 48))
        clear hf15 HV1 HG14 HB14
        go_wp2_with fail
        generalize w15.alloc (.cells #[.int .u32 1, .int .u32 0, .int .u32 V, .int .u32 0, .int .u32 0, .int .u32 0, .int .u32 0, .int .u32 0, .int .u32 8, .int .i64 1, .int .i64 0, .int .i64 0, .bool false] 48) = w16 at *
        generalize w15.heap.size = B1 at *
        refine (HV2.out _ HG16.out).mono ?_
        rintro e w17 ⟨rfl, hf17⟩
        have HG18 := hid ((HG16.out.fr hf17).fr ((Fr.refl _ w17).alloc (.cells #[.int .u32 0, .int .u32 0, .int .u32 0, .int .u32 0, .int .u32 0, .int .u32 0, .int .u32 0, .int .u32 0, .int .u32 0, .int .i64 2, .int .i64 5, .int .i64 0, .bool false] 48)))
        have HB18 := hid (get_alloc (hf17.get HB16.out id) (.cells #[.int .u32 0, .int .u32 0, .int .u32 0, .int .u32 0, .int .u32 0, .int .u32 0, .int .u32 0, .int .u32 0, .int .u32 0, .int .i64 2, .int .i64 5, .int .i64 0, .bool false] 48))
        have HC18 := hid (get_alloc (hf17.get HC16.out id) (.cells #[.int .u32 0, .int .u32 0, .int .u32 0, .int .u32 0, .int .u32 0, .int .u32 0, .int .u32 0, .int .u32 0, .int .u32 0, .int .i64 2, .int .i64 5, .int .i64 0, .bool false] 48))
        have HD18 := hid (heap_alloc_new w17 (.cells #[.int .u32 0, .int .u32 0, .int .u32 0, .int .u32 0, .int .u32 0, .int .u32 0, .int .u32 0, .int .u32 0, .int .u32 0, .int .i64 2, .int .i64 5, .int .i64 0, .bool false] 48))
        clear hf17 HV2 HG16 HB16 HC16
        go_wp2_with fail
        generalize w17.alloc (.cells #[.int .u32 0, .int .u32 0, .int .u32 0, .int .u32 0, .int .u32 0, .int .u32 0, .int .u32 0, .int .u32 0, .int .u32 0, .int .i64 2, .int .i64 5, .int .i64 0, .bool false] 48) = w18 at *
        generalize w17.heap.size = B2 at *
        refine (HPE.out _ HG18.out).mono ?_
        rintro e w19 ⟨rfl, hf19⟩
        have HG19 := hid (HG18.out.fr hf19)
        have hb19 := hf19.get HB18.out id
        have hc19 := hf19.get HC18.out id
        have hd19 := hf19.get HD18.out id
        have d1 := row_cell hb19 9
        have d2 := row_cell hb19 0
        have d3 := row_cell hc19 9
        have d4 := row_cell hc19 0
        have d5 := row_cell hd19 9
        have d6 := row_cell hd19 10
        clear hf19 HPE HG18 HB18 HC18 HD18 hb19 hc19 hd19
        go_wp2_with fail
        refine (HWO.out _ HG19.out).mono ?_
        rintro e w20 ⟨rfl, hw20⟩
        obtain rfl := hw20.symm
        have HFR := hid (HF10.out.step HG19.out.f (fun _ h => .inl h))
        clear HG19 HWO
        have hVV := HVV.out
        go_wp2_with fail
        go_ret
        exact ⟨rfl, HFR.out⟩

end Go.Proofs.YthmcheoehcmglaaGreat
