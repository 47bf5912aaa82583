/- Runs: an image without its devices. -/
import Derived.Test.YthmcheoehcmglaaGreatG11
import Derived.Test.YthmcheoehcmglaaGreatR12
import Derived.Test.YthmcheoehcmglaaGreatG12
import Derived.Test.YthmcheoehcmglaaGreatQ2
import Derived.SizedLaws
namespace Go.Proofs.YthmcheoehcmglaaGreat
open Go.RowKit
set_option linter.unusedVariables false
attribute [local go_sem ↓] Go.wp_at_zero Go.wp_at_succ

/-- What is an image holds six bytes and its devices' owners; the sixth tells their number. -/
theorem ow_of (l : List UInt8) (m : Img) (h : rimg l = (m, true)) : 6 + m.ow.length ≤ l.length ∧ numL l 5 1 = m.ow.length := by
  have h2 : (rimg l).2 = true := by rw [h]
  have hH : HeadI l := by
    apply Classical.byContradiction
    intro hn
    rw [rimg_head l hn] at h2
    cases h2
  have hb : (wardsN (numL l 0 1).toNat (l.drop 6) false).2.2 = false := by
    cases e : (wardsN (numL l 0 1).toNat (l.drop 6) false).2.2 with
    | false => rfl
    | true =>
      rw [rimg_wards l hH _ (Nat.le_refl _) e] at h2
      cases h2
  obtain ⟨d, -, hd, he⟩ := wardsN_at (l.drop 6) _ hb
  rw [List.drop_drop] at he
  have n4 : 0 ≤ numL l 4 1 := hH.w1
  have n5 : 0 ≤ numL l 5 1 := hH.d1
  obtain ⟨nw, hnw⟩ := Int.eq_ofNat_of_zero_le n4
  obtain ⟨nd, hnd⟩ := Int.eq_ofNat_of_zero_le n5
  have hl6 : 6 ≤ l.length := hH.1
  rw [List.length_drop] at hd
  have ht := rimg_tail l hH (6 + d) nw nd hnw hnd (by omega) (Prod.ext he hb)
  by_cases hc : 6 + d + 2 * nw + nd = l.length
  · have e1 := (ht.1 hc).symm.trans h
    have e2 : m.ow = (List.range nd).map (fun j => numL l (6 + d + 2 * nw + j) 1) := by
      have := congrArg (fun x : Img × Bool => x.1.ow) e1
      exact this.symm
    have e3 : m.ow.length = nd := by rw [e2]; simp
    exact ⟨by omega, by rw [hnd, e3]⟩
  · rw [ht.2 hc] at h2
    cases h2

/-- What is an image there has no device. -/
def NoOw (t : ByteArray) : Prop := ∀ m ok, rimg t.data.toList = (m, ok) → mkErr m ok = 0 → m.ow = []

set_option maxRecDepth 100000 in
set_option maxHeartbeats 1000000 in
theorem without_any (s : ByteArray) (hs : s.size ≤ maxLen) (w : World) :
    Calls Tryz.prog 24 #[.string s] w fun e w' => (∃ t, e = .returned (.string t) ∧ t.size ≤ maxLen ∧ NoOw t) ∧ Fr (fun _ => False) w w' := by
  have hs2 : s.size ≤ 9223372036854775807 := by unfold maxLen at hs; omega
  have hsl : s.data.toList.length = s.size := by simp
  have HNO : Hid (∀ (t : ByteArray) (k : Nat), numL t.data.toList 5 1 = (k : Int) → (k = 0 ∨ t.size < 6 + k) → NoOw t) := by
    intro t k hk hor m ok h1 h2
    obtain rfl := (mk_inv m ok h2).1
    have h3 := ow_of _ m h1
    have htl : t.data.toList.length = t.size := by simp
    rw [htl, hk] at h3
    apply List.eq_nil_of_length_eq_zero
    omega
  have HSH : Hid (s.size < 6 → NoOw s) := by
    intro h6 m ok h1 h2
    obtain rfl := (mk_inv m ok h2).1
    have h3 := ow_of _ m h1
    rw [hsl] at h3
    omega
  clear hs
  by_cases h6 : s.size < 6
  · have h6i : (s.size : Int) < 6 := by omega
    go_enter Tryz.func24, Tryz.ntmps24
    go_wp2_with fail
    go_ret
    exact ⟨⟨s, rfl, by unfold maxLen; omega, HSH.out h6⟩, Fr.refl _ _⟩
  · have h6i : ¬ (s.size : Int) < 6 := by omega
    have h5 : 5 < s.size := by omega
    have h5i : (5 : Int) < (s.size : Int) := by omega
    obtain ⟨b5, hb5⟩ : ∃ b, (s[5]'h5).toNat = b := ⟨_, rfl⟩
    have HNB : Hid (numL s.data.toList 5 1 = (b5 : Int)) := by
      unfold Hid
      rw [← hb5]
      exact numL_byte _ _ _ (by rw [List.getElem?_eq_getElem (by rw [hsl]; exact h5)]; simp; rfl)
    have hb : b5 < 256 := by rw [← hb5]; exact (s[5]'h5).toNat_lt
    have hv1 : IntKind.i64.wrap (b5 : Int) = (b5 : Int) := by rw [IntKind.wrap_i64]; omega
    by_cases hn : s.size - b5 < 6
    · have hni : (s.size : Int) - (b5 : Int) < 6 := by omega
      go_enter Tryz.func24, Tryz.ntmps24
      go_wp2_with fail
      go_ret
      exact ⟨⟨s, rfl, by unfold maxLen; omega, HNO.out s b5 HNB.out (.inr (by omega))⟩, Fr.refl _ _⟩
    · have hni : ¬ (s.size : Int) - (b5 : Int) < 6 := by omega
      obtain ⟨n, hnE⟩ : ∃ n, s.size - b5 = n := ⟨_, rfl⟩
      have hnI : (s.size : Int) - (b5 : Int) = (n : Int) := by omega
      have hn6 : 6 ≤ n := by omega
      have hns : n ≤ s.size := by omega
      rw [hnI] at hni
      go_enter Tryz.func24, Tryz.ntmps24
      go_upto_region 6 with fail
      clear hnI hv1 hb5 h5i h6i hnE
      have HZ : Hid (numL (s.extract 0 5 ++ { data := #[0] } ++ s.extract 6 n).data.toList 5 1 = ((0 : Nat) : Int)) := by
        refine numL_byte _ _ 0 ?_
        have e1 : (s.extract 0 5 ++ { data := #[0] } ++ s.extract 6 n).data.toList = (s.data.toList.take 5) ++ [0] ++ (s.extract 6 n).data.toList := by simp
        rw [e1, List.append_assoc, List.getElem?_append_right (by simp; omega), List.length_take, hsl, Nat.min_eq_left (by omega)]
        rfl
      have HSZ : Hid ((s.extract 0 5 ++ { data := #[0] } ++ s.extract 6 n).size ≤ maxLen) := by
        show _ ≤ _
        unfold maxLen
        rw [ByteArray.size_append, ByteArray.size_append, ByteArray.size_extract, ByteArray.size_extract]
        show _ + 1 + _ ≤ _
        omega
      go_region
      all_goals
        go_wp2_with fail
        go_ret
        exact ⟨⟨_, rfl, HSZ.out, HNO.out _ 0 HZ.out (.inl rfl)⟩, (Fr.refl _ w).drew⟩

end Go.Proofs.YthmcheoehcmglaaGreat
/- The statement Runs. -/
namespace Go.Proofs.YthmcheoehcmglaaGreat
open Go.RowKit
set_option linter.unusedVariables false
attribute [local go_sem ↓] Go.wp_at_zero Go.wp_at_succ

set_option maxRecDepth 100000 in
set_option maxHeartbeats 1000000 in
theorem runs_any (s : ByteArray) (hs : s.size ≤ maxLen) (w : World) (a2 : Option Addr) (c2 : Nat) (sc : List Stp) (h2 : StepsAt w a2 sc) (hl2 : sc.length ≤ 80000000000000) :
    Calls Tryz.prog 5 #[.string s, .slice a2 sc.length c2] w fun e w' => e = .returned (.bool true) ∧ Fr (fun _ => False) w w' := by
  have H2 := hid h2
  have HW := hid (without_any s hs w)
  obtain ⟨n, hn⟩ : ∃ n, sc.length = n := ⟨_, rfl⟩
  have HN := hid hn
  rw [hn] at hl2 ⊢
  clear h2 hn
  go_enter Tryz.func5, Tryz.ntmps5
  go_wp2_with fail
  refine HW.out.mono ?_
  rintro e w1 ⟨⟨t, rfl, htl, hno⟩, hf1⟩
  have hf2 := hf1.alloc (.cells #[.string t] 9)
  have HF2 := hid hf2
  have HST : Hid (StrsAt (w1.alloc (.cells #[.string t] 9)) (some ⟨w1.heap.size, 0, none⟩) [t]) := by
    intro _
    refine ⟨w1.heap.size, 0, rfl, ?_⟩
    intro i s' hi
    match i, hi with
    | 0, hi =>
      simp at hi
      subst hi
      exact row_cell (heap_alloc_new w1 _) 0
    | i + 1, hi => simp at hi
  have HP := hid (plays_242 bootC_false (w1.alloc (.cells #[.string t] 9)) (some ⟨w1.heap.size, 0, none⟩) a2 1 c2 [t] sc HST.out (H2.out.fr hf2) (by intro s' hs'; rw [List.mem_singleton.1 hs']; exact htl) (by simp) (by rw [HN.out]; exact hl2) (.inl (by simp)) (.inr (by intro s' hs'; rw [List.mem_singleton.1 hs']; exact hno)))
  rw [HN.out] at HP
  clear hf2 hno htl HST hf1 HW
  go_wp2_with fail
  refine HP.out.mono ?_
  rintro e w3 ⟨rfl, hf3⟩
  have HF3 := hid (HF2.out.step hf3 (fun _ h => .inl h))
  clear hf3 HP
  go_wp2_with fail
  go_ret
  exact ⟨rfl, HF3.out⟩

end Go.Proofs.YthmcheoehcmglaaGreat
/- Rows: a script, opened. -/
namespace Go.Proofs.YthmcheoehcmglaaGreat
open Go.ChangeShapes Go.WideShapes Go.ChangeAt Go.RowKit Go.Deep
set_option linter.unusedVariables false

theorem len4 {α : Type} (l : List α) (h : l.length = 4) : ∃ a b c d, l = [a, b, c, d] := by
  match l, h with
  | [a, b, c, d], _ => exact ⟨a, b, c, d, rfl⟩

set_option maxRecDepth 100000 in
theorem steps_open {H : Type} {enc : TypeId × Value → H} {W : World} {fuel : Nat} {v : Value} {x : DataW H × List MemPlace} (h : DataW.trod enc Tryz.prog W 0 (fun _ => true) true fuel 25 [v] = some x) :
    ∃ (a : Option Addr) (c : Nat) (sc : List Stp), v = .slice a sc.length c ∧ StepsAt W a sc ∧ (sc = [] ∨ ∃ el sp, x.1 = .slice el sp ∧ sc.length ≤ el.length) := by
  rcases open_slice Tryz.underlying25 h with ⟨h1, -⟩ | ⟨a, len, cap, m, n, D, Pl, h1, hb, hlc, hcm, hm, hx, hel⟩
  · simp only [List.cons.injEq, and_true] at h1
    subst h1
    exact ⟨none, 0, [], rfl, ⟨by simp, by simp⟩, .inl rfl⟩
  · simp only [List.cons.injEq, and_true] at h1
    subst h1
    simp only [if_true] at hm
    have ce : Tryz.prog.cellsOf 28 = 4 := by kernel_rfl
    have each : ∀ i, i < len → ∃ p : Stp, StpOk p ∧ ∀ j u, (stpCells p)[j]? = some u → W.cell? (a.add (i * 4 + j)) = some u := by
      intro i hi
      obtain ⟨cs', h2, h3⟩ := hel i (by omega)
      rw [ce] at h2
      obtain ⟨_, hlen, hcell⟩ := World.cells?_some h2
      obtain ⟨xs, k, hk, hxy, _, hxl, hf⟩ := DataW.trod_struct Tryz.underlying28 h3
      have hxl4 : xs.length = 4 := hxl
      obtain ⟨y0, y1, y2, y3, rfl⟩ := len4 xs hxl4
      obtain ⟨v0, v1, v2, v3, rfl⟩ := len4 cs' hlen
      have e0 := hcell 0 (by omega)
      have e1 := hcell 1 (by omega)
      have e2 := hcell 2 (by omega)
      have e3 := hcell 3 (by omega)
      rw [add_add] at e0 e1 e2 e3
      have g0 := hf 0 _ rfl
      have g1 := hf 1 _ rfl
      have g2 := hf 2 _ rfl
      have g3 := hf 3 _ rfl
      have ci : Tryz.prog.cellsOf 3 = 1 := by kernel_rfl
      simp [ci] at g0 g1 g2 g3
      obtain ⟨z0, q0, -, w0⟩ := DataW.trod_int Tryz.underlying3 g0
      obtain ⟨z1, q1, -, w1⟩ := DataW.trod_int Tryz.underlying3 g1
      obtain ⟨z2, q2, -, w2⟩ := DataW.trod_int Tryz.underlying3 g2
      obtain ⟨z3, q3, -, w3⟩ := DataW.trod_int Tryz.underlying3 g3
      simp only [List.cons.injEq, and_true] at q0 q1 q2 q3
      subst q0 q1 q2 q3
      refine ⟨⟨z0, z1, z2, z3⟩, ⟨i64_of_wf w0, i64_of_wf w1, i64_of_wf w2, i64_of_wf w3⟩, ?_⟩
      intro j u hu
      match j, hu with
      | 0, hu => simp [stpCells] at hu; subst hu; simpa using e0
      | 1, hu => simp [stpCells] at hu; subst hu; simpa using e1
      | 2, hu => simp [stpCells] at hu; subst hu; simpa using e2
      | 3, hu => simp [stpCells] at hu; subst hu; simpa using e3
      | j + 4, hu => simp [stpCells] at hu
    have hin : Inhabited Stp := ⟨⟨0, 0, 0, 0⟩⟩
    obtain ⟨f, hf⟩ := choose_lt each
    have hll : ((List.range len).map f).length = len := by simp
    refine ⟨some a, cap, (List.range len).map f, by rw [hll], ⟨?_, ?_⟩, .inr ⟨_, _, by rw [hx], by simp⟩⟩
    · intro h1
      rw [hll] at h1
      have hc0 := (hf 0 (by omega)).2 0 _ rfl
      obtain ⟨b, off, spot⟩ := a
      have hspot : spot = none := by simpa [Addr.add] using World.cell?_spot hc0
      subst hspot
      refine ⟨b, off, rfl, ?_⟩
      intro k ws hk j u hu
      rw [List.getElem?_map] at hk
      simp only [Option.map_eq_some_iff] at hk
      obtain ⟨i, hi, hfi⟩ := hk
      obtain ⟨hil, hie⟩ := List.getElem?_eq_some_iff.1 hi
      simp only [List.length_range] at hil
      simp only [List.getElem_range] at hie
      subst hie
      rw [← hfi] at hu
      have h2 := (hf k hil).2 j u hu
      rw [add_plain] at h2
      rw [Nat.add_assoc]
      exact h2
    · intro p hp
      simp only [List.mem_map, List.mem_range] at hp
      obtain ⟨i, hi, rfl⟩ := hp
      exact (hf i hi).1

end Go.Proofs.YthmcheoehcmglaaGreat
