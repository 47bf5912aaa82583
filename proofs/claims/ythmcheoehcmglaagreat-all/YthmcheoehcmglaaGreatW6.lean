/- plan.read. -/
import Derived.Test.YthmcheoehcmglaaGreatW5
namespace Go.Proofs.YthmcheoehcmglaaGreat
open Go.RowKit
set_option linter.unusedVariables false
attribute [local go_sem ↓] Go.wp_at_zero Go.wp_at_succ

theorem wardCells_one (x : WardV × Value × Value) (h1 : x.2.1.oneCell' = true) (h2 : x.2.2.oneCell' = true) : ∀ u ∈ (wardCells x).toArray.toList, u.oneCell' = true := by
  intro u hu
  simp [wardCells] at hu
  rcases hu with rfl | rfl | rfl | rfl
  · rfl
  · rfl
  · exact h1
  · exact h2
theorem wireCells_one (x : Int × Int) : ∀ u ∈ (wireCells x).toArray.toList, u.oneCell' = true := by simp [wireCells, Value.oneCell']
theorem owns_one {w : World} {base e size n : Nat} {v : Value} {xs : List Value} (h : w.ownsRow base e size v n xs) : v.oneCell' = true := by
  obtain ⟨ao, c, rfl⟩ := owns_shape h
  rfl

theorem fr_five (wr : World) (b : Nat) (v0 v1 v2 v3 v4 : Value) : Fr (fun i => i = b) wr (((((wr.setCell ⟨b, 0, none⟩ v0).setCell ⟨b, 1, none⟩ v1).setCell ⟨b, 2, none⟩ v2).setCell ⟨b, 3, none⟩ v3).setCell ⟨b, 4, none⟩ v4).drew :=
  ((((((Fr.refl (fun i => i = b) wr).setCell (p := ⟨b, 0, none⟩) (Or.inl rfl) v0).setCell (p := ⟨b, 1, none⟩) (Or.inl rfl) v1).setCell (p := ⟨b, 2, none⟩) (Or.inl rfl) v2).setCell (p := ⟨b, 3, none⟩) (Or.inl rfl) v3).setCell (p := ⟨b, 4, none⟩) (Or.inl rfl) v4).drew
theorem toList_loop (b : ByteArray) : ∀ (n i : Nat) (r : List UInt8), b.size - i = n → ByteArray.toList.loop b i r = r.reverse ++ b.data.toList.drop i := by
  intro n
  induction n with
  | zero =>
    intro i r h
    rw [ByteArray.toList.loop.eq_def, if_neg (by omega), List.drop_eq_nil_of_le (by rw [len_data]; omega)]
    simp
  | succ n ih =>
    intro i r h
    rw [ByteArray.toList.loop.eq_def, if_pos (by omega), ih (i + 1) _ (by omega)]
    have hi : i < b.data.toList.length := by rw [len_data]; omega
    rw [List.drop_eq_getElem_cons hi]
    simp
    have hi' : i < b.data.size := by simpa using hi
    show b.data[i]! = _
    rw [getElem!_pos b.data i hi']
theorem toList_data (b : ByteArray) : b.toList = b.data.toList := by
  unfold ByteArray.toList
  rw [toList_loop b _ 0 [] rfl]
  simp

set_option maxRecDepth 100000 in
set_option maxHeartbeats 4000000 in
theorem read_core (s : ByteArray) (hs : s.size ≤ maxLen) (w : World) (x1 x3 x5 x7 x9 : Int × List UInt8 × Bool) (x2 x4 x6 x8 x10 : Int × Bool)
    (E1 : Hid (rdn 1 s.data.toList false = x1)) (E2 : Hid (wth 1 4 x1.1 x1.2.2 = x2)) (E3 : Hid (rdn 1 x1.2.1 x2.2 = x3)) (E4 : Hid (wth 1 16 x3.1 x3.2.2 = x4)) (E5 : Hid (rdn 2 x3.2.1 x4.2 = x5)) (E6 : Hid (wth 64 1024 x5.1 x5.2.2 = x6))
    (E7 : Hid (rdn 1 x5.2.1 x6.2 = x7)) (E8 : Hid (wth 0 8 x7.1 x7.2.2 = x8)) (E9 : Hid (rdn 1 x7.2.1 x8.2 = x9)) (E10 : Hid (wth 0 8 x9.1 x9.2.2 = x10))
    (n ni nd : Nat) (hn : x2.1 = (n : Int)) (hni : x8.1 = (ni : Int)) (hnd : x10.1 = (nd : Int)) (hn4 : n ≤ 4) (hni8 : ni ≤ 8) (hnd8 : nd ≤ 8)
    (y : List WardV × List UInt8 × Bool) (z : List (Int × Int) × List UInt8 × Bool) (u : List Int × List UInt8 × Bool)
    (EY : Hid (wardsN n x9.2.1 x10.2 = y)) (EZ : Hid (wiresN ni y.2.1 y.2.2 = z)) (EU : Hid (ownersN nd z.2.1 z.2.2 = u)) :
    Calls Tryz.prog 68 #[.string s] w fun e w' =>
      ∃ vW vI vO, e = .returned (.tuple #[.agg #[.int .i64 x4.1, .int .i64 x6.1, vW, vI, vO], .bool (!u.2.2 && u.2.1.isEmpty)]) ∧ Fr (fun _ => False) w w' ∧
        WardsAt w' w.heap.size vW y.1 ∧ w'.ownsRow w.heap.size 177 2 vI z.1.length (z.1.flatMap wireCells) ∧ w'.ownsRow w.heap.size 3 1 vO u.1.length (u.1.map (Value.int .i64)) := by
  have HN := (show Hid _ from hn)
  have HNI := (show Hid _ from hni)
  have HND := (show Hid _ from hnd)
  clear hn hni hnd
  go_enter Tryz.func68, Tryz.ntmps68
  go_wp2_with fail
  have hP0 : PlanIn w 0 0 [] [] [] s.data.toList false (.slice none 0 0) (.slice none 0 0) (.slice none 0 0) (((w.alloc (.cells #[.int .i64 0, .int .i64 0, .slice none 0 0, .slice none 0 0, .slice none 0 0] 112)).alloc (.cells #[.string s, .bool false] 175)).alloc (.cells #[.int .i64 0, .int .i64 0, .slice none 0 0, .slice none 0 0, .slice none 0 0] 112)) := by
    refine ⟨?_, ?_, ⟨s, rfl, hs, ?_⟩, WardsAt.nil _ _, World.ownsRow_nil _ _ _ _, World.ownsRow_nil _ _ _ _, (((Fr.refl _ w).alloc _).alloc _).alloc _, by simp⟩
    · have := heap_new ((w.alloc (.cells #[.int .i64 0, .int .i64 0, .slice none 0 0, .slice none 0 0, .slice none 0 0] 112)).alloc (.cells #[.string s, .bool false] 175)) (.cells #[.int .i64 0, .int .i64 0, .slice none 0 0, .slice none 0 0, .slice none 0 0] 112)
      simpa using this
    · exact get_alloc (get_alloc (heap_new w _) _) _
    · have := heap_new (w.alloc (.cells #[.int .i64 0, .int .i64 0, .slice none 0 0, .slice none 0 0, .slice none 0 0] 112)) (.cells #[.string s, .bool false] 175)
      exact get_alloc (by simpa using this) _
  refine (single_any (w.heap.size + 1) _ _ _ hP0.r).mono ?_
  rw [E1.out]
  rintro e w1 ⟨rfl, hr1, hf1⟩
  have hP1 := hP0.call hr1 hf1.redrew
  clear hP0 hr1 hf1
  go_wp2_with fail
  refine (within_any (w.heap.size + 1) _ _ _ _ _ _ hP1.r).mono ?_
  rw [E2.out]
  rintro e w2 ⟨rfl, hr2, hf2⟩
  have hP2 := hP1.call hr2 hf2.redrew
  clear hP1 hr2 hf2
  rw [HN.out]
  go_wp2_with fail
  refine (single_any (w.heap.size + 1) _ _ _ hP2.r).mono ?_
  rw [E3.out]
  rintro e w3 ⟨rfl, hr3, hf3⟩
  have hP3 := hP2.call hr3 hf3.redrew
  clear hP2 hr3 hf3
  go_wp2_with fail
  refine (within_any (w.heap.size + 1) _ _ _ _ _ _ hP3.r).mono ?_
  rw [E4.out]
  rintro e w4 ⟨rfl, hr4, hf4⟩
  have hP4 := hP3.call hr4 hf4.redrew
  clear hP3 hr4 hf4
  have c := row_cell hP4.g
  have f := row_frozen hP4.g
  go_wp2_with fail
  clear c f
  have hQ5 := (hP4.setG x4.1).1
  clear hP4
  refine (pair_any (w.heap.size + 1) _ _ _ hQ5.r).mono ?_
  rw [E5.out]
  rintro e w5 ⟨rfl, hr5, hf5⟩
  have hP5 := hQ5.call hr5 hf5.redrew
  clear hQ5 hr5 hf5
  go_wp2_with fail
  refine (within_any (w.heap.size + 1) _ _ _ _ _ _ hP5.r).mono ?_
  rw [E6.out]
  rintro e w6 ⟨rfl, hr6, hf6⟩
  have hP6 := hP5.call hr6 hf6.redrew
  clear hP5 hr6 hf6
  have c := row_cell hP6.g
  have f := row_frozen hP6.g
  go_wp2_with fail
  clear c f
  have hQ7 := (hP6.setG x6.1).2
  clear hP6
  refine (single_any (w.heap.size + 1) _ _ _ hQ7.r).mono ?_
  rw [E7.out]
  rintro e w7 ⟨rfl, hr7, hf7⟩
  have hP7 := hQ7.call hr7 hf7.redrew
  clear hQ7 hr7 hf7
  go_wp2_with fail
  refine (within_any (w.heap.size + 1) _ _ _ _ _ _ hP7.r).mono ?_
  rw [E8.out]
  rintro e w8 ⟨rfl, hr8, hf8⟩
  have hP8 := hP7.call hr8 hf8.redrew
  clear hP7 hr8 hf8
  rw [HNI.out]
  go_wp2_with fail
  refine (single_any (w.heap.size + 1) _ _ _ hP8.r).mono ?_
  rw [E9.out]
  rintro e w9 ⟨rfl, hr9, hf9⟩
  have hP9 := hP8.call hr9 hf9.redrew
  clear hP8 hr9 hf9
  go_wp2_with fail
  refine (within_any (w.heap.size + 1) _ _ _ _ _ _ hP9.r).mono ?_
  rw [E10.out]
  rintro e w10 ⟨rfl, hr10, hf10⟩
  have hP10 := hP9.call hr10 hf10.redrew
  clear hP9 hr10 hf10
  rw [HND.out]
  go_wp2_with fail
  go_loopw [24] (fun i wr => ∃ k : Nat, k ≤ n ∧ i = .int .i64 k ∧ ∃ vW, PlanIn w x4.1 x6.1 (wardsN k x9.2.1 x10.2).1 [] [] (wardsN k x9.2.1 x10.2).2.1 (wardsN k x9.2.1 x10.2).2.2 vW (.slice none 0 0) (.slice none 0 0) wr) (fun i _ => n - (intOf i).toNat)
  case atStart => exact ⟨0, Nat.zero_le _, rfl, _, hP10⟩
  case round =>
    obtain ⟨k, hk, rfl, vW, hP⟩ := hrel
    clear hP10
    by_cases hlt : k < n
    · obtain ⟨xs, hxs, hown, hx⟩ := hP.ws
      have hxl : xs.length = k := by have := wardsN_len k x9.2.1 x10.2; rw [← hxs] at this; simpa using this
      have HXL := (show Hid _ from hxl)
      have g := hP.g
      have hc := row_cell g 2
      simp only [List.getElem?_toArray, List.getElem?_cons_succ, List.getElem?_cons_zero] at hc
      have hr' : Rd wr.drew (w.heap.size + 1) (wardsN k x9.2.1 x10.2).2.1 (wardsN k x9.2.1 x10.2).2.2 := hP.r
      have hk3 : xs.length + 1 ≤ 1073741824 := by omega
      have hszw : w.heap.size ≤ wr.drew.heap.size := Nat.le_trans (by omega) hP.sz
      clear hxl
      go_wp2_with fail
      go_region_law
        (first
          | (refine step_call Tryz.func96 (by kernel_rfl) (by kernel_rfl) (by rfl) (by rfl) [.pointer (some ⟨w.heap.size + 1, 0, none⟩)] (by rfl) ((ward_any (w.heap.size + 1) (wardsN k x9.2.1 x10.2).2.1 (wardsN k x9.2.1 x10.2).2.2 _ hr').mono ?_); rintro e w6 ⟨vr, vp, rfl, hf6, hr6, hor, hop⟩; refine ⟨_, rfl, ?_⟩; have hP6 := hP.call hr6 hf6; have g6 := hP6.g; have hc6 : w6.cell? ⟨w.heap.size + 2, 2, none⟩ = some vW := row_cell g6 2; have hc6a : ∀ o, (w6.alloc o).cell? ⟨w.heap.size + 2, 2, none⟩ = some vW := fun o => row_cell (get_alloc g6 o) 2; have hown6 := hf6.undrew.owns1T (rd_get hP.r) hown (by decide); have hor6 := owns_base hor hszw; have hop6 := owns_base hop hszw)
          | (refine step_app slWard (by rfl) _ _ (by rfl) w.heap.size vW xs.length _ (by rfl) (hown6.alloc _) w6.heap.size (wardCells ((rward (wardsN k x9.2.1 x10.2).2.1 (wardsN k x9.2.1 x10.2).2.2).1, vr, vp)).toArray _ (by rfl) (heap_alloc_new w6 _) rfl (wardCells_one _ (owns_one hor6) (owns_one hop6)) hk3 (by decide) (le_alloc (Nat.le_trans (Nat.le_add_right _ 3) hP6.sz) _) ?_; intro gg cap w7 hown7 hf7 hat; have g7 := hf7.getT (hown6.alloc _) (get_alloc g6 _) (by decide); have hc7 : w7.cell? ⟨w.heap.size + 2, 2, none⟩ = some vW := row_cell g7 2; have fr7 := row_frozen g7 2))
      all_goals
        have R := (hP6.alloc _).appW xs hxs (hown6.alloc _) (fun x hm => ⟨(hf6.undrew.owns1T (rd_get hP.r) (hx x hm).1 (by decide)).alloc _, (hf6.undrew.owns1T (rd_get hP.r) (hx x hm).2 (by decide)).alloc _⟩) _ (hor6.alloc _) (hop6.alloc _) hown7 hf7
        have HR := (show Hid _ from R)
        clear R g7 hc7 fr7 hf7 hat hown7 hor6 hop6 hor hop hown6 hc6 hc6a g6 hP6 hf6 hr6 hr' hc
        rw [HXL.out]
        rw [HXL.out] at HR
        go_wp2_with fail
        go_roundw
        case rel => exact ⟨k + 1, by omega, by go_num, _, HR.out⟩
        case measure => simp [intOf]; omega
    · obtain rfl : k = n := by omega
      rw [EY.out] at hP
      clear hk hlt EY
      go_wp2_with fail
      go_loopw [34] (fun i wr => ∃ k : Nat, k ≤ ni ∧ i = .int .i64 k ∧ ∃ vI, PlanIn w x4.1 x6.1 y.1 (wiresN k y.2.1 y.2.2).1 [] (wiresN k y.2.1 y.2.2).2.1 (wiresN k y.2.1 y.2.2).2.2 vW vI (.slice none 0 0) wr) (fun i _ => ni - (intOf i).toNat)
      case atStart => exact ⟨0, Nat.zero_le _, rfl, _, hP⟩
      case round =>
        obtain ⟨j, hj, rfl, vI, hI⟩ := hrel
        clear hP
        by_cases hlt : j < ni
        · have hown := hI.wi
          have hxl := wiresN_len j y.2.1 y.2.2
          have HXL := (show Hid _ from hxl)
          have g := hI.g
          have hc := row_cell g 3
          simp only [List.getElem?_toArray, List.getElem?_cons_succ, List.getElem?_cons_zero] at hc
          have hr' : Rd wr.drew (w.heap.size + 1) (wiresN j y.2.1 y.2.2).2.1 (wiresN j y.2.1 y.2.2).2.2 := hI.r
          have hk3 : (wiresN j y.2.1 y.2.2).1.length + 1 ≤ 1073741824 := by omega
          clear hxl
          go_wp2_with fail
          go_region_law
            (first
              | (refine step_call Tryz.func97 (by kernel_rfl) (by kernel_rfl) (by rfl) (by rfl) [.pointer (some ⟨w.heap.size + 1, 0, none⟩)] (by rfl) ((wire_any (w.heap.size + 1) (wiresN j y.2.1 y.2.2).2.1 (wiresN j y.2.1 y.2.2).2.2 _ hr').mono ?_); rintro e w6 ⟨rfl, hr6, hf6⟩; refine ⟨_, rfl, ?_⟩; have hP6 := hI.call hr6 hf6; have g6 := hP6.g; have hc6 : w6.cell? ⟨w.heap.size + 2, 3, none⟩ = some vI := row_cell g6 3; have hc6a : ∀ o, (w6.alloc o).cell? ⟨w.heap.size + 2, 3, none⟩ = some vI := fun o => row_cell (get_alloc g6 o) 3; have hown6 := hP6.wi)
              | (refine step_app slWire (by rfl) _ _ (by rfl) w.heap.size vI (wiresN j y.2.1 y.2.2).1.length _ (by rfl) (hown6.alloc _) w6.heap.size (wireCells (rwire (wiresN j y.2.1 y.2.2).2.1 (wiresN j y.2.1 y.2.2).2.2).1).toArray _ (by rfl) (heap_alloc_new w6 _) rfl (wireCells_one _) hk3 (by decide) (le_alloc (Nat.le_trans (Nat.le_add_right _ 3) hP6.sz) _) ?_; intro gg cap w7 hown7 hf7 hat; have g7 := hf7.getT (hown6.alloc _) (get_alloc g6 _) (by decide); have hc7 : w7.cell? ⟨w.heap.size + 2, 3, none⟩ = some vI := row_cell g7 3; have fr7 := row_frozen g7 3))
          all_goals
            have R := (hP6.alloc _).appI _ hown7 hf7
            have HR := (show Hid _ from R)
            clear R g7 hc7 fr7 hf7 hat hown7 hown6 hc6 hc6a g6 hP6 hf6 hr6 hr' hc
            rw [HXL.out]
            rw [HXL.out] at HR
            go_wp2_with fail
            go_roundw
            case rel => exact ⟨j + 1, by omega, by go_num, _, HR.out⟩
            case measure => simp [intOf]; omega
        · obtain rfl : j = ni := by omega
          rw [EZ.out] at hI
          clear hj hlt EZ
          go_wp2_with fail
          go_loopw [44] (fun i wr => ∃ k : Nat, k ≤ nd ∧ i = .int .i64 k ∧ ∃ vO, PlanIn w x4.1 x6.1 y.1 z.1 (ownersN k z.2.1 z.2.2).1 (ownersN k z.2.1 z.2.2).2.1 (ownersN k z.2.1 z.2.2).2.2 vW vI vO wr) (fun i _ => nd - (intOf i).toNat)
          case atStart => exact ⟨0, Nat.zero_le _, rfl, _, hI⟩
          case round =>
            obtain ⟨d, hd, rfl, vO, hO⟩ := hrel
            clear hI
            by_cases hlt : d < nd
            · have hown := hO.ow
              have hxl := ownersN_len d z.2.1 z.2.2
              have HXL := (show Hid _ from hxl)
              have g := hO.g
              have hc := row_cell g 4
              simp only [List.getElem?_toArray, List.getElem?_cons_succ, List.getElem?_cons_zero] at hc
              have hr' : Rd wr.drew (w.heap.size + 1) (ownersN d z.2.1 z.2.2).2.1 (ownersN d z.2.1 z.2.2).2.2 := hO.r
              have hk3 : (ownersN d z.2.1 z.2.2).1.length + 1 ≤ 1073741824 := by omega
              clear hxl
              go_wp2_with fail
              go_region_law
                (first
                  | (refine step_call Tryz.func94 (by kernel_rfl) (by kernel_rfl) (by rfl) (by rfl) [.pointer (some ⟨w.heap.size + 1, 0, none⟩)] (by rfl) ((single_any (w.heap.size + 1) (ownersN d z.2.1 z.2.2).2.1 (ownersN d z.2.1 z.2.2).2.2 _ hr').mono ?_); rintro e w6 ⟨rfl, hr6, hf6⟩; refine ⟨_, rfl, ?_⟩; have hP6 := hO.call hr6 hf6; have g6 := hP6.g; have hc6 : w6.cell? ⟨w.heap.size + 2, 4, none⟩ = some vO := row_cell g6 4; have hc6a : ∀ o, (w6.alloc o).cell? ⟨w.heap.size + 2, 4, none⟩ = some vO := fun o => row_cell (get_alloc g6 o) 4; have hown6 := hP6.ow)
                  | (refine step_app slInt (by rfl) _ _ (by rfl) w.heap.size vO (ownersN d z.2.1 z.2.2).1.length _ (by rfl) (hown6.alloc _) w6.heap.size #[.int .i64 (rdn 1 (ownersN d z.2.1 z.2.2).2.1 (ownersN d z.2.1 z.2.2).2.2).1] _ (by rfl) (heap_alloc_new w6 _) rfl (by simp [Value.oneCell']) hk3 (by decide) (le_alloc (Nat.le_trans (Nat.le_add_right _ 3) hP6.sz) _) ?_; intro gg cap w7 hown7 hf7 hat; have g7 := hf7.getT (hown6.alloc _) (get_alloc g6 _) (by decide); have hc7 : w7.cell? ⟨w.heap.size + 2, 4, none⟩ = some vO := row_cell g7 4; have fr7 := row_frozen g7 4))
              all_goals
                have R := (hP6.alloc _).appO _ hown7 hf7
                have HR := (show Hid _ from R)
                clear R g7 hc7 fr7 hf7 hat hown7 hown6 hc6 hc6a g6 hP6 hf6 hr6 hr' hc
                rw [HXL.out]
                rw [HXL.out] at HR
                go_wp2_with fail
                go_roundw
                case rel => exact ⟨d + 1, by omega, by go_num, _, HR.out⟩
                case measure => simp [intOf]; omega
            · obtain rfl : d = nd := by omega
              rw [EU.out] at hO
              clear hd hlt EU
              obtain ⟨s', hs1, hs2, hs3⟩ := hO.r
              have c0 := row_cell hs3
              obtain ⟨xs, hxs, hown, hx⟩ := hO.ws
              obtain ⟨a1, q1, rfl⟩ := owns_shape hown
              obtain ⟨a2, q2, rfl⟩ := owns_shape hO.wi
              obtain ⟨a3, q3, rfl⟩ := owns_shape hO.ow
              have c1 := row_cell hO.g
              have c2 := row_cell hO.p
              have f2 := row_frozen hO.p
              have HX := (show Hid _ from hx)
              have HO := (show Hid _ from hown)
              clear hx hown
              cases hb : u.2.2
              · have c01 : wr.cell? ⟨w.heap.size + 1, 1, none⟩ = some (.bool false) := by rw [← hb]; exact c0 1
                have c00 : wr.cell? ⟨w.heap.size + 1, 0, none⟩ = some (.string s') := c0 0
                have HB := (show Hid _ from hb)
                clear hb c0
                go_wp2_with fail
                go_region
                go_wp2_with fail
                have hF5 : Fr (fun i => i = w.heap.size) wr (((((wr.setCell ⟨w.heap.size, 0, none⟩ (.int .i64 x4.1)).setCell ⟨w.heap.size, 1, none⟩ (.int .i64 x6.1)).setCell ⟨w.heap.size, 2, none⟩ (.slice a1 xs.length q1)).setCell ⟨w.heap.size, 3, none⟩ (.slice a2 z.1.length q2)).setCell ⟨w.heap.size, 4, none⟩ (.slice a3 u.1.length q3)).drew := fr_five _ _ _ _ _ _ _
                refine bodyPost_ret (v := .tuple #[.agg #[.int .i64 x4.1, .int .i64 x6.1, .slice a1 xs.length q1, .slice a2 z.1.length q2, .slice a3 u.1.length q3], .bool s'.toList.isEmpty]) ?_ rfl ⟨.slice a1 xs.length q1, .slice a2 z.1.length q2, .slice a3 u.1.length q3, ?_, ?_, ?_, ?_, ?_⟩
                · simp [results, Tryz.results68, go_sem, c2]
                · rw [HB.out, ← hs1, toList_data]; simp
                · exact hO.fr.step hF5 (fun i hi => .inr (by omega))
                · have H : ∀ e, 112 ≠ e → Owns wr _ e := fun e hne => fun ho => hF5.owns1T hO.p ho hne
                  exact hO.ws.carry (H _ (by decide)) (H _ (by decide)) (H _ (by decide))
                · exact hF5.owns1T hO.p hO.wi (by decide)
                · exact hF5.owns1T hO.p hO.ow (by decide)
              · have c01 : wr.cell? ⟨w.heap.size + 1, 1, none⟩ = some (.bool true) := by rw [← hb]; exact c0 1
                have HB := (show Hid _ from hb)
                clear hb c0
                go_wp2_with fail
                go_region
                go_wp2_with fail
                have hF5 : Fr (fun i => i = w.heap.size) wr (((((wr.setCell ⟨w.heap.size, 0, none⟩ (.int .i64 x4.1)).setCell ⟨w.heap.size, 1, none⟩ (.int .i64 x6.1)).setCell ⟨w.heap.size, 2, none⟩ (.slice a1 xs.length q1)).setCell ⟨w.heap.size, 3, none⟩ (.slice a2 z.1.length q2)).setCell ⟨w.heap.size, 4, none⟩ (.slice a3 u.1.length q3)).drew := fr_five _ _ _ _ _ _ _
                refine bodyPost_ret (v := .tuple #[.agg #[.int .i64 x4.1, .int .i64 x6.1, .slice a1 xs.length q1, .slice a2 z.1.length q2, .slice a3 u.1.length q3], .bool false]) ?_ rfl ⟨.slice a1 xs.length q1, .slice a2 z.1.length q2, .slice a3 u.1.length q3, ?_, ?_, ?_, ?_, ?_⟩
                · simp [results, Tryz.results68, go_sem, c2]
                · rw [HB.out]; simp
                · exact hO.fr.step hF5 (fun i hi => .inr (by omega))
                · have H : ∀ e, 112 ≠ e → Owns wr _ e := fun e hne => fun ho => hF5.owns1T hO.p ho hne
                  exact hO.ws.carry (H _ (by decide)) (H _ (by decide)) (H _ (by decide))
                · exact hF5.owns1T hO.p hO.wi (by decide)
                · exact hF5.owns1T hO.p hO.ow (by decide)

end Go.Proofs.YthmcheoehcmglaaGreat
