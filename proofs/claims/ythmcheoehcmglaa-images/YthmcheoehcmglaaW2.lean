/- Walks over the reader's methods, by what it holds. -/
import Derived.Test.YthmcheoehcmglaaW1
namespace Go.Proofs.Ythmcheoehcmglaa
open Go.RowKit
set_option linter.unusedVariables false

theorem ext_drop (s : ByteArray) (n : Nat) : (s.extract n s.size).data.toList = s.data.toList.drop n := by
  rw [ByteArray.data_extract, Array.toList_extract, ← len_data, List.extract_eq_drop_take']
  simp [List.take_of_length_le]

theorem rdn_bd (n : Nat) (hn : n ≤ 4) (l : List UInt8) (bad : Bool) : 0 ≤ (rdn n l bad).1 ∧ (rdn n l bad).1 < 4294967296 ∧ (n ≤ 2 → (rdn n l bad).1 < 65536) ∧ (n ≤ 1 → (rdn n l bad).1 < 256) := by
  unfold rdn
  split
  · exact ⟨by simp, by simp, by simp, by simp⟩
  · rename_i h
    have := be_bd4 l n hn (by omega)
    exact ⟨this.1, this.2.1, this.2.2.2.1, this.2.2.2.2⟩

theorem rdn_len (n : Nat) (l : List UInt8) (bad : Bool) : (rdn n l bad).2.1.length ≤ l.length := by
  unfold rdn
  split <;> simp

theorem rnumber_any (b n : Nat) (l : List UInt8) (bad : Bool) (w : World) (n1 : n ≤ 4) (h : Rd w b l bad) :
    Calls Try.prog 76 #[.pointer (some ⟨b, 0, none⟩), .int .i64 n] w fun e w' =>
      e = .returned (.int .u32 (rdn n l bad).1) ∧ Rd w' b (rdn n l bad).2.1 (rdn n l bad).2.2 ∧ Fr (fun i => i = b) w w' := by
  obtain ⟨s, rfl, hs, hb⟩ := h
  have hl := len_data s
  by_cases hc : bad = true ∨ s.size < n
  · refine (rnumber_bad b n s bad w hs n1 hb hc).mono ?_
    rintro e w' ⟨rfl, rfl⟩
    have e1 : rdn n s.data.toList bad = (0, s.data.toList, true) := by unfold rdn; rw [if_pos (by rw [hl]; exact hc)]
    rw [e1]
    refine ⟨rfl, ⟨s, rfl, hs, ?_⟩, Fr.one _ _ _ _⟩
    rw [row_set hb]
    simp
  · obtain rfl : bad = false := by cases bad <;> simp_all
    refine (rnumber_ok b n s w hs n1 hb (by omega)).mono ?_
    rintro e w' ⟨rfl, rfl⟩
    have e1 : rdn n s.data.toList false = (be (s.data.toList.take n), s.data.toList.drop n, false) := by unfold rdn; rw [if_neg (by rw [hl]; exact hc)]
    rw [e1]
    refine ⟨rfl, ⟨_, ext_drop s n, ?_, ?_⟩, Fr.one _ _ _ _⟩
    · have := ext_drop s n
      have h2 := len_data (s.extract n s.size)
      rw [this, List.length_drop, hl] at h2
      omega
    · rw [row_set hb]
      simp

set_option maxRecDepth 100000 in
set_option maxHeartbeats 400000 in
theorem single_any (b : Nat) (l : List UInt8) (bad : Bool) (w : World) (h : Rd w b l bad) :
    Calls Try.prog 58 #[.pointer (some ⟨b, 0, none⟩)] w fun e w' =>
      e = .returned (.int .i64 (rdn 1 l bad).1) ∧ Rd w' b (rdn 1 l bad).2.1 (rdn 1 l bad).2.2 ∧ Fr (fun i => i = b) w w' := by
  have hd := rdn_bd 1 (by omega) l bad
  have d1 := hd.1
  have d2 := hd.2.1
  clear hd
  go_enter Try.func58, Try.ntmps58
  go_wp2_with (go_at_call 76; refine (rnumber_any b 1 l bad _ (by omega) h).mono ?_; rintro e w' ⟨rfl, hr, hf⟩)
  go_ret
  exact ⟨rfl, hr, hf⟩

set_option maxRecDepth 100000 in
set_option maxHeartbeats 400000 in
theorem pair_any (b : Nat) (l : List UInt8) (bad : Bool) (w : World) (h : Rd w b l bad) :
    Calls Try.prog 59 #[.pointer (some ⟨b, 0, none⟩)] w fun e w' =>
      e = .returned (.int .i64 (rdn 2 l bad).1) ∧ Rd w' b (rdn 2 l bad).2.1 (rdn 2 l bad).2.2 ∧ Fr (fun i => i = b) w w' := by
  have hd := rdn_bd 2 (by omega) l bad
  have d1 := hd.1
  have d2 := hd.2.1
  clear hd
  go_enter Try.func59, Try.ntmps59
  go_wp2_with (go_at_call 76; refine (rnumber_any b 2 l bad _ (by omega) h).mono ?_; rintro e w' ⟨rfl, hr, hf⟩)
  go_ret
  exact ⟨rfl, hr, hf⟩

/-- What a number held against its bounds gives. -/
def wth (lo hi v : Int) (bad : Bool) : Int × Bool := if bad = true ∨ v < lo ∨ hi < v then (0, true) else (v, false)

set_option maxRecDepth 100000 in
set_option maxHeartbeats 400000 in
theorem within_any (b : Nat) (lo hi v : Int) (l : List UInt8) (bad : Bool) (w : World) (h : Rd w b l bad) :
    Calls Try.prog 57 #[.pointer (some ⟨b, 0, none⟩), .int .i64 lo, .int .i64 hi, .int .i64 v] w fun e w' =>
      e = .returned (.int .i64 (wth lo hi v bad).1) ∧ Rd w' b l (wth lo hi v bad).2 ∧ Fr (fun i => i = b) w w' := by
  obtain ⟨s, hsl, hs, hb⟩ := h
  have c1 : w.cell? ⟨b, 1, none⟩ = some (.bool bad) := row_cell hb 1
  have f1 : w.frozen? ⟨b, 1, none⟩ = false := row_frozen hb 1
  have HB : Hid (w.heap[b]? = some (.cells #[.string s, .bool bad] 141 (0, 0))) := hb
  have HS : Hid (s.data.toList = l) := hsl
  clear hb hsl
  have fin1 : v < lo ∨ hi < v → wth lo hi v bad = (0, true) := fun h => by unfold wth; rw [if_pos (.inr h)]
  have fin2 : ¬ (v < lo ∨ hi < v) → bad = false → wth lo hi v bad = (v, false) := fun h h' => by unfold wth; rw [if_neg (by simp [h']; omega)]
  have fin3 : bad = true → wth lo hi v bad = (0, true) := fun h' => by unfold wth; rw [if_pos (.inl h')]
  have F1 := (show Hid _ from fin1)
  have F2 := (show Hid _ from fin2)
  have F3 := (show Hid _ from fin3)
  clear fin1 fin2 fin3
  by_cases h1 : v < lo
  · go_enter Try.func57, Try.ntmps57
    go_wp2
    go_ret
    rw [F1.out (.inl h1)]
    exact ⟨rfl, ⟨s, HS.out, hs, by rw [row_set HB.out]; simp⟩, Fr.one _ _ _ _⟩
  · by_cases h2 : hi < v
    · go_enter Try.func57, Try.ntmps57
      go_wp2
      go_ret
      rw [F1.out (.inr h2)]
      exact ⟨rfl, ⟨s, HS.out, hs, by rw [row_set HB.out]; simp⟩, Fr.one _ _ _ _⟩
    · cases bad
      · go_enter Try.func57, Try.ntmps57
        go_wp2
        go_ret
        rw [F2.out (by omega) (by first | rfl | trivial)]
        exact ⟨rfl, ⟨s, HS.out, hs, HB.out⟩, Fr.refl _ _⟩
      · go_enter Try.func57, Try.ntmps57
        go_wp2
        go_ret
        rw [F3.out (by first | rfl | trivial)]
        exact ⟨rfl, ⟨s, HS.out, hs, HB.out⟩, Fr.refl _ _⟩

end Go.Proofs.Ythmcheoehcmglaa
