/- Walks over the leaf functions: what each call does, said of cells. -/
import Derived.Test.YthmcheoehcmglaaProg
import Derived.Test.YthmcheoehcmglaaBase
namespace Go.Proofs.Ythmcheoehcmglaa
open Go.RowKit
set_option linter.unusedVariables false

set_option maxRecDepth 100000 in
set_option maxHeartbeats 400000 in
theorem in_any (v lo hi : Int) (w : World) :
    Calls Try.prog 44 #[.int .i64 v, .int .i64 lo, .int .i64 hi] w fun e w' => e = .returned (.bool (decide (lo ≤ v) && decide (v ≤ hi))) ∧ w' = w := by
  go_enter Try.func44, Try.ntmps44
  go_wp2
  all_goals go_ret
  · exact ⟨ret_bool (by simp [*]), rfl⟩
  · exact ⟨ret_bool (by simp; omega), rfl⟩

set_option maxRecDepth 100000 in
set_option maxHeartbeats 400000 in
theorem number_none (s : ByteArray) (i n : Int) (w : World) (hs : s.size ≤ maxLen) (h0 : -1 ≤ i) (h1 : i ≤ 1152921504606846976) (n0 : 0 ≤ n) (n1 : n ≤ 4) (hf : i < 0 ∨ (s.size : Int) < i + n) :
    Calls Try.prog 43 #[.string s, .int .i64 i, .int .i64 n] w fun e w' => e = .returned (.int .i64 (-1)) ∧ w' = w := by
  unfold maxLen at hs
  by_cases hi : i < 0
  · go_enter Try.func43, Try.ntmps43
    go_wp2
    go_ret
    exact ⟨rfl, rfl⟩
  · have : (s.size : Int) < i + n := by omega
    go_enter Try.func43, Try.ntmps43
    go_wp2
    go_ret
    exact ⟨rfl, rfl⟩

theorem be_at (s : ByteArray) (i k : Nat) (h : i + k < s.size) : be ((s.data.toList.drop i).take (k + 1)) = 256 * be ((s.data.toList.drop i).take k) + ((s[i + k]'h).toNat : Int) := by
  rw [be_take _ k (by rw [List.length_drop, len_data]; omega)]
  congr 3
  simp
  rfl

set_option maxRecDepth 100000 in
set_option maxHeartbeats 400000 in
theorem number_some (s : ByteArray) (i n : Nat) (w : World) (hs : s.size ≤ maxLen) (n1 : n ≤ 4) (hf : i + n ≤ s.size) :
    Calls Try.prog 43 #[.string s, .int .i64 i, .int .i64 n] w fun e w' => e = .returned (.int .i64 (be ((s.data.toList.drop i).take n))) ∧ w' = w := by
  unfold maxLen at hs
  go_enter Try.func43, Try.ntmps43
  go_wp2
  go_loop [7, 8] (fun v j => ∃ k : Nat, k ≤ n ∧ j = .int .i64 k ∧ v = .int .i64 (be ((s.data.toList.drop i).take k))) (fun _ j => n - (intOf j).toNat)
  case atStart => exact ⟨0, Nat.zero_le _, rfl, rfl⟩
  case round =>
    obtain ⟨k, hk, rfl, rfl⟩ := hrel
    by_cases hlt : k < n
    · have hb := be_bd4 (s.data.toList.drop i) k (by omega) (by rw [List.length_drop, len_data]; omega)
      have hb1 := hb.1
      have hb2 := hb.2.2.1 (by omega)
      have HS : Hid (be ((s.data.toList.drop i).take (k + 1)) = 256 * be ((s.data.toList.drop i).take k) + ((s[i + k]'(by omega)).toNat : Int)) := be_at s i k (by omega)
      have hby : ((s[i + k]'(by omega)).toNat : Int) < 256 := by have := (s[i + k]'(by omega)).toNat_lt; omega
      clear hb
      go_wp2
      go_round
      case rel => exact ⟨k + 1, by omega, by go_num, by rw [HS.out]⟩
      case measure => simp [intOf]; omega
    · have : k = n := by omega
      subst this
      go_wp2
      go_ret
      exact ⟨rfl, rfl⟩

/-- The reader lies in block b: what is left of the text, and whether it is bad. -/
def Rd (w : World) (b : Nat) (l : List UInt8) (bad : Bool) : Prop :=
  ∃ s : ByteArray, s.data.toList = l ∧ s.size ≤ maxLen ∧ w.heap[b]? = some (.cells #[.string s, .bool bad] 141 (0, 0))

/-- What reading n bytes gives. -/
def rdn (n : Nat) (l : List UInt8) (bad : Bool) : Int × List UInt8 × Bool := if bad = true ∨ l.length < n then (0, l, true) else (be (l.take n), l.drop n, false)

set_option maxRecDepth 100000 in
set_option maxHeartbeats 400000 in
theorem rnumber_bad (b n : Nat) (s : ByteArray) (bad : Bool) (w : World) (hs : s.size ≤ maxLen) (n1 : n ≤ 4) (hb : w.heap[b]? = some (.cells #[.string s, .bool bad] 141 (0, 0))) (h : bad = true ∨ s.size < n) :
    Calls Try.prog 76 #[.pointer (some ⟨b, 0, none⟩), .int .i64 n] w fun e w' => e = .returned (.int .u32 0) ∧ w' = w.setCell ⟨b, 1, none⟩ (.bool true) := by
  unfold maxLen at hs
  have c0 : w.cell? ⟨b, 0, none⟩ = some (.string s) := row_cell hb 0
  have c1 : w.cell? ⟨b, 1, none⟩ = some (.bool bad) := row_cell hb 1
  have f1 : w.frozen? ⟨b, 1, none⟩ = false := row_frozen hb 1
  clear hb
  cases bad
  · have h2 : (s.size : Int) < n := by simp at h; omega
    clear h
    go_enter Try.func76, Try.ntmps76
    go_wp2
    go_ret
    exact ⟨rfl, rfl⟩
  · clear h
    go_enter Try.func76, Try.ntmps76
    go_wp2
    go_ret
    exact ⟨rfl, rfl⟩

set_option maxRecDepth 100000 in
set_option maxHeartbeats 400000 in
theorem rnumber_ok (b n : Nat) (s : ByteArray) (w : World) (hs : s.size ≤ maxLen) (n1 : n ≤ 4) (hb : w.heap[b]? = some (.cells #[.string s, .bool false] 141 (0, 0))) (h : n ≤ s.size) :
    Calls Try.prog 76 #[.pointer (some ⟨b, 0, none⟩), .int .i64 n] w fun e w' => e = .returned (.int .u32 (be (s.data.toList.take n))) ∧ w' = w.setCell ⟨b, 0, none⟩ (.string (s.extract n s.size)) := by
  unfold maxLen at hs
  have c0 : w.cell? ⟨b, 0, none⟩ = some (.string s) := row_cell hb 0
  have c1 : w.cell? ⟨b, 1, none⟩ = some (.bool false) := row_cell hb 1
  have f0 : w.frozen? ⟨b, 0, none⟩ = false := row_frozen hb 0
  have hsn : ¬ s.size < n := by omega
  clear hb
  go_enter Try.func76, Try.ntmps76
  go_wp2
  go_loop [5, 24] (fun v j => ∃ k : Nat, k ≤ n ∧ j = .int .i64 k ∧ v = .int .u32 (be (s.data.toList.take k))) (fun _ j => n - (intOf j).toNat)
  case atStart => exact ⟨0, Nat.zero_le _, rfl, rfl⟩
  case round =>
    obtain ⟨k, hk, rfl, rfl⟩ := hrel
    by_cases hlt : k < n
    · have hb := be_bd4 s.data.toList k (by omega) (by rw [len_data]; omega)
      have hb1 := hb.1
      have hb2 := hb.2.2.1 (by omega)
      have HS : Hid (be (s.data.toList.take (k + 1)) = 256 * be (s.data.toList.take k) + ((s[k]'(by omega)).toNat : Int)) := by have := be_at s 0 k (by omega); simpa [Hid] using this
      have hby : ((s[k]'(by omega)).toNat : Int) < 256 := by have := (s[k]'(by omega)).toNat_lt; omega
      have hor : bits .or .u32 (be (s.data.toList.take k) * 256) ((s[k]'(by omega)).toNat : Int) = 256 * be (s.data.toList.take k) + ((s[k]'(by omega)).toNat : Int) := or_byte _ _ hb1 hb2 (by omega) hby
      clear hb
      go_wp2
      go_round
      case rel => exact ⟨k + 1, by omega, by go_num, by rw [HS.out]⟩
      case measure => simp [intOf]; omega
    · have : k = n := by omega
      subst this
      go_wp2
      go_ret
      exact ⟨rfl, rfl⟩

end Go.Proofs.Ythmcheoehcmglaa
