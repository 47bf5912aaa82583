/- Run. -/
import Derived.Test.YthmcheoehcmglaaGreatC16
import Derived.Test.YthmcheoehcmglaaGreatR0
import Derived.Test.YthmcheoehcmglaaGreatW16
import Derived.Deep.CutRange
namespace Go.Proofs.YthmcheoehcmglaaGreat
open Go.RowKit
set_option linter.unusedVariables false
attribute [local go_sem ↓] Go.wp_at_zero Go.wp_at_succ

/-- Some cycles. -/
def iterK (x : KX) : Nat → KM → KM
  | 0, s => s
  | n + 1, s => cycleK x (iterK x n s)
/-- What a cycle asks ahead of it. -/
structure PreK (x : KX) (s : KM) : Prop where
  c : s.ck < 9223372036854775807
  l : LogOk s.devs
  a : AreaOk x s.mem

def runN (n : Int) : Int := if n < 0 then 0 else if 100000 < n then 100000 else n
theorem runN_bd (n : Int) : 0 ≤ runN n ∧ runN n ≤ 100000 := by unfold runN; split; omega; split <;> omega

theorem LogsIn.trans {a b c : List Value} {N M : Nat} (h1 : LogsIn a b N) (h2 : LogsIn b c M) (hNM : N ≤ M) : LogsIn a c N := by
  intro v hv i hi
  rcases h2 v hv i hi with ⟨u, hu, hui⟩ | h
  · exact h1 u hu i hui
  · exact .inr (Nat.le_trans hNM h)
theorem KA.mono {x : KX} {vL vL' : List Value} {N : Nat} (h : LogsIn vL vL' N) : ∀ i, KA x vL' i → KA x vL i ∨ N ≤ i := by
  rintro i (e | e | e | e | ⟨v, hv, e⟩)
  · exact .inl (.inl e)
  · exact .inl (.inr (.inl e))
  · exact .inl (.inr (.inr (.inl e)))
  · exact .inl (.inr (.inr (.inr (.inl e))))
  · rcases h v hv i e with h1 | h1
    · exact .inl (.inr (.inr (.inr (.inr h1))))
    · exact .inr h1

def RunInv (x : KX) (s : KM) (vL : List Value) (w : World) (k : Nat) (wr : World) : Prop := ∃ vL', KerM x (iterK x k s) vL' wr ∧ LogsIn vL vL' w.heap.size ∧ Fr (KA x vL) w wr

set_option maxRecDepth 100000 in
set_option maxHeartbeats 2000000 in
theorem run_neg (x : KX) (s : KM) (vL : List Value) (w : World) (h : KerM x s vL w) (n : Int) (hn : n < 0) :
    Calls Tryz.prog 21 #[.pointer (some ⟨x.X, 0, none⟩), .int .i64 n] w fun e w' => e = .returned (.int .i64 0) ∧ RunInv x s vL w 0 w' := by
  have H0 : Hid (RunInv x s vL w 0 w) := ⟨vL, h, LogsIn.refl _ _, Fr.refl _ _⟩
  clear h
  go_enter Tryz.func21, Tryz.ntmps21
  go_wp2_with fail
  go_loopw [9] (fun i wr => i = .int .i64 0 ∧ wr = w) (fun i _ => 0)
  case atStart => exact ⟨rfl, rfl⟩
  case round =>
    obtain ⟨rfl, rfl⟩ := hrel
    go_wp2_with fail
    go_ret
    exact ⟨rfl, H0.out⟩

set_option maxRecDepth 100000 in
set_option maxHeartbeats 2000000 in
theorem run_mid (x : KX) (s : KM) (vL : List Value) (w : World) (h : KerM x s vL w) (N : Nat) (hN : N ≤ 100000) (hP : ∀ j, j < N → PreK x (iterK x j s)) :
    Calls Tryz.prog 21 #[.pointer (some ⟨x.X, 0, none⟩), .int .i64 (N : Int)] w fun e w' => e = .returned (.int .i64 (N : Int)) ∧ RunInv x s vL w N w' := by
  have H0 : Hid (RunInv x s vL w 0 w) := ⟨vL, h, LogsIn.refl _ _, Fr.refl _ _⟩
  have HP := hid hP
  clear h hP
  go_enter Tryz.func21, Tryz.ntmps21
  go_wp2_with fail
  go_loopw [9] (fun i wr => ∃ k : Nat, k ≤ N ∧ i = .int .i64 k ∧ RunInv x s vL w k wr) (fun i _ => N - (intOf i).toNat)
  case atStart => exact ⟨0, Nat.zero_le _, rfl, H0.out⟩
  case round =>
    obtain ⟨k, hk, rfl, hI⟩ := hrel
    clear H0
    by_cases hlt : k < N
    · have hki : (k : Int) < (N : Int) := by omega
      obtain ⟨vL', h1, hl1, hf1⟩ := hI
      have hp := HP.out k hlt
      have HC := hid (cycle_any x (iterK x k s) vL' wr h1 hp.c hp.l hp.a)
      have HL1 := hid hl1
      have HF1 := hid hf1
      clear h1 hl1 hf1 hp
      go_wp2_with fail
      refine HC.out.mono ?_
      rintro e w2 ⟨rfl, vL2, h2, hl2, hf2⟩
      have HN : Hid (RunInv x s vL w (k + 1) w2) := ⟨vL2, h2, HL1.out.trans hl2 HF1.out.size, HF1.out.step hf2 (KA.mono HL1.out)⟩
      clear h2 hl2 hf2
      go_wp2_with fail
      go_roundw
      case rel => exact ⟨k + 1, by omega, by go_num, HN.out⟩
      case measure => simp [intOf]; omega
    · obtain rfl : k = N := by omega
      have HI := hid hI
      clear hI
      go_wp2_with fail
      go_ret
      exact ⟨rfl, HI.out⟩

set_option maxRecDepth 100000 in
set_option maxHeartbeats 2000000 in
theorem run_big (x : KX) (s : KM) (vL : List Value) (w : World) (h : KerM x s vL w) (n : Int) (hn : 100000 < n) (hP : ∀ j, j < 100000 → PreK x (iterK x j s)) :
    Calls Tryz.prog 21 #[.pointer (some ⟨x.X, 0, none⟩), .int .i64 n] w fun e w' => e = .returned (.int .i64 100000) ∧ RunInv x s vL w 100000 w' := by
  have H0 : Hid (RunInv x s vL w 0 w) := ⟨vL, h, LogsIn.refl _ _, Fr.refl _ _⟩
  have HP := hid hP
  clear h hP
  go_enter Tryz.func21, Tryz.ntmps21
  go_wp2_with fail
  go_loopw [9] (fun i wr => ∃ k : Nat, k ≤ 100000 ∧ i = .int .i64 k ∧ RunInv x s vL w k wr) (fun i _ => 100000 - (intOf i).toNat)
  case atStart => exact ⟨0, Nat.zero_le _, rfl, H0.out⟩
  case round =>
    obtain ⟨k, hk, rfl, hI⟩ := hrel
    clear H0
    by_cases hlt : k < 100000
    · have hki : (k : Int) < 100000 := by omega
      obtain ⟨vL', h1, hl1, hf1⟩ := hI
      have hp := HP.out k hlt
      have HC := hid (cycle_any x (iterK x k s) vL' wr h1 hp.c hp.l hp.a)
      have HL1 := hid hl1
      have HF1 := hid hf1
      clear h1 hl1 hf1 hp
      go_wp2_with fail
      refine HC.out.mono ?_
      rintro e w2 ⟨rfl, vL2, h2, hl2, hf2⟩
      have HN : Hid (RunInv x s vL w (k + 1) w2) := ⟨vL2, h2, HL1.out.trans hl2 HF1.out.size, HF1.out.step hf2 (KA.mono HL1.out)⟩
      clear h2 hl2 hf2
      go_wp2_with fail
      go_roundw
      case rel => exact ⟨k + 1, by omega, by go_num, HN.out⟩
      case measure => simp [intOf]; omega
    · obtain rfl : k = 100000 := by omega
      have HI := hid hI
      clear hI
      go_wp2_with fail
      go_ret
      exact ⟨rfl, HI.out⟩

theorem run_any (x : KX) (s : KM) (vL : List Value) (w : World) (h : KerM x s vL w) (n : Int) (hP : ∀ j, j < (runN n).toNat → PreK x (iterK x j s)) :
    Calls Tryz.prog 21 #[.pointer (some ⟨x.X, 0, none⟩), .int .i64 n] w fun e w' => e = .returned (.int .i64 (runN n)) ∧ RunInv x s vL w (runN n).toNat w' := by
  by_cases h1 : n < 0
  · have e : runN n = 0 := by unfold runN; rw [if_pos h1]
    rw [e]
    exact run_neg x s vL w h n h1
  · by_cases h2 : 100000 < n
    · have e : runN n = 100000 := by unfold runN; rw [if_neg h1, if_pos h2]
      rw [e] at hP ⊢
      exact run_big x s vL w h n h2 hP
    · have e : runN n = n := by unfold runN; rw [if_neg h1, if_neg h2]
      rw [e] at hP ⊢
      obtain ⟨N, rfl⟩ := Int.eq_ofNat_of_zero_le (show 0 ≤ n by omega)
      rw [Int.toNat_natCast] at hP ⊢
      exact run_mid x s vL w h N (by omega) hP

end Go.Proofs.YthmcheoehcmglaaGreat
/- The reference's numbers and the program's reader: what each makes of the same bytes. -/
namespace Go.Proofs.YthmcheoehcmglaaGreat
open Go.RowKit
set_option linter.unusedVariables false

/-- The reference's number: of n bytes of l, from c on; -1: they are not there. -/
def numL (l : List UInt8) (c n : Nat) : Int := if c + n ≤ l.length then be ((l.drop c).take n) else -1

theorem numL_drop (l : List UInt8) (i c n : Nat) (h : i ≤ l.length) : numL l (i + c) n = numL (l.drop i) c n := by
  unfold numL
  rw [List.length_drop, List.drop_drop]
  by_cases h1 : i + c + n ≤ l.length
  · rw [if_pos h1, if_pos (by omega)]
  · rw [if_neg h1, if_neg (by omega)]

theorem numL_bd (l : List UInt8) (c n : Nat) (hn : n ≤ 4) : -1 ≤ numL l c n ∧ numL l c n < 4294967296 ∧ (n ≤ 2 → numL l c n < 65536) ∧ (n ≤ 1 → numL l c n < 256) := by
  unfold numL
  split
  · rename_i h
    have := be_bd4 (l.drop c) n hn (by rw [List.length_drop]; omega)
    exact ⟨by omega, this.2.1, this.2.2.2.1, this.2.2.2.2⟩
  · exact ⟨by omega, by omega, by intro _; omega, by intro _; omega⟩

theorem numL_ok (l : List UInt8) (c n : Nat) (h : c + n ≤ l.length) : 0 ≤ numL l c n := by
  unfold numL
  rw [if_pos h]
  exact (be_bd_take (l.drop c) n (by rw [List.length_drop]; omega)).1
theorem numL_no (l : List UInt8) (c n : Nat) (h : ¬ c + n ≤ l.length) : numL l c n = -1 := by
  unfold numL
  rw [if_neg h]

theorem rdn_ok (n : Nat) (l : List UInt8) (h : n ≤ l.length) : rdn n l false = (numL l 0 n, l.drop n, false) := by
  unfold rdn numL
  rw [if_neg (by simp; omega), if_pos (by omega)]
  simp
theorem rdn_no (n : Nat) (l : List UInt8) (h : ¬ n ≤ l.length) : rdn n l false = (0, l, true) := by
  unfold rdn
  rw [if_pos (by right; omega)]

theorem wth_yes (lo hi v : Int) (h1 : lo ≤ v) (h2 : v ≤ hi) : wth lo hi v false = (v, false) := by
  unfold wth
  rw [if_neg (by simp; omega)]
theorem wth_no (lo hi v : Int) (bad : Bool) (h : bad = true ∨ v < lo ∨ hi < v) : wth lo hi v bad = (0, true) := by
  unfold wth
  rw [if_pos h]

/-- A region that is there. -/
def regGood (l : List UInt8) : Prop := 7 ≤ l.length ∧ 1 ≤ numL l 2 2 ∧ 1 ≤ numL l 6 1 ∧ numL l 6 1 ≤ 7

theorem rreg_good (l : List UInt8) (h : regGood l) : rreg l false = ((numL l 0 2, numL l 2 2, numL l 4 2, numL l 6 1), l.drop 7, false) := by
  obtain ⟨h7, h1, h2, h3⟩ := h
  have e2 : numL (l.drop 2) 0 2 = numL l 2 2 := by rw [← numL_drop l 2 0 2 (by omega)]
  have e4 : numL (l.drop 4) 0 2 = numL l 4 2 := by rw [← numL_drop l 4 0 2 (by omega)]
  have e6 : numL (l.drop 6) 0 1 = numL l 6 1 := by rw [← numL_drop l 6 0 1 (by omega)]
  have hb := (numL_bd l 2 2 (by omega)).2.2.1 (by omega)
  have s1 := rdn_ok 2 l (by omega)
  have s2 := rdn_ok 2 (l.drop 2) (by rw [List.length_drop]; omega)
  have s3 := rdn_ok 2 (l.drop 4) (by rw [List.length_drop]; omega)
  have s4 := rdn_ok 1 (l.drop 6) (by rw [List.length_drop]; omega)
  rw [List.drop_drop] at s2 s3 s4
  unfold rreg
  simp only [s1, s2, e2, wth_yes 1 65535 (numL l 2 2) h1 (by omega), s3, e4, s4, e6, wth_yes 1 7 (numL l 6 1) h2 h3]

theorem rreg_not (l : List UInt8) (h : ¬ regGood l) : (rreg l false).2.2 = true := by
  by_cases h7 : 7 ≤ l.length
  · have e2 : numL (l.drop 2) 0 2 = numL l 2 2 := by rw [← numL_drop l 2 0 2 (by omega)]
    have e6 : numL (l.drop 6) 0 1 = numL l 6 1 := by rw [← numL_drop l 6 0 1 (by omega)]
    have s1 := rdn_ok 2 l (by omega)
    have s2 := rdn_ok 2 (l.drop 2) (by rw [List.length_drop]; omega)
    have s3 := rdn_ok 2 (l.drop 4) (by rw [List.length_drop]; omega)
    have s4 := rdn_ok 1 (l.drop 6) (by rw [List.length_drop]; omega)
    rw [List.drop_drop] at s2 s3 s4
    unfold rreg
    by_cases h1 : 1 ≤ numL l 2 2
    · have hb := (numL_bd l 2 2 (by omega)).2.2.1 (by omega)
      simp only [s1, s2, e2, wth_yes 1 65535 (numL l 2 2) h1 (by omega), s3, s4, e6]
      rw [wth_no _ _ _ _ (by unfold regGood at h; omega)]
    · simp only [s1, s2, e2, wth_no 1 65535 (numL l 2 2) false (by omega)]
      simp [wth_bad, rdn_bad]
  · unfold rreg
    by_cases h2 : 2 ≤ l.length
    · by_cases h4 : 4 ≤ l.length
      · have s1 := rdn_ok 2 l (by omega)
        have s2 := rdn_ok 2 (l.drop 2) (by rw [List.length_drop]; omega)
        rw [List.drop_drop] at s2
        simp only [s1, s2]
        by_cases hv : 1 ≤ numL (l.drop 2) 0 2
        · have hb := (numL_bd (l.drop 2) 0 2 (by omega)).2.2.1 (by omega)
          simp only [wth_yes 1 65535 _ hv (by omega)]
          by_cases h6 : 6 ≤ l.length
          · have s3 := rdn_ok 2 (l.drop 4) (by rw [List.length_drop]; omega)
            rw [List.drop_drop] at s3
            simp only [s3]
            rw [rdn_no 1 _ (by rw [List.length_drop]; omega)]
            simp [wth_bad]
          · rw [rdn_no 2 _ (by rw [List.length_drop]; omega)]
            simp [wth_bad, rdn_bad]
        · rw [wth_no 1 65535 _ _ (by omega)]
          simp [wth_bad, rdn_bad]
      · simp only [rdn_ok 2 l h2]
        rw [rdn_no 2 _ (by rw [List.length_drop]; omega)]
        simp [wth_bad, rdn_bad]
    · rw [rdn_no 2 l h2]
      simp [wth_bad, rdn_bad]

/-- A ward's head that is there. -/
def headGood (l : List UInt8) : Prop := 4 ≤ l.length ∧ 1 ≤ numL l 0 1 ∧ numL l 0 1 ≤ 64 ∧ 1 ≤ numL l 1 1 ∧ numL l 1 1 ≤ 3

theorem whead_good (l : List UInt8) (h : headGood l) : whead l false = ((numL l 0 1, numL l 1 1, numL l 2 2), l.drop 4, false) := by
  obtain ⟨h4, h1, h2, h3, h5⟩ := h
  have e1 : numL (l.drop 1) 0 1 = numL l 1 1 := by rw [← numL_drop l 1 0 1 (by omega)]
  have e2 : numL (l.drop 2) 0 2 = numL l 2 2 := by rw [← numL_drop l 2 0 2 (by omega)]
  have s1 := rdn_ok 1 l (by omega)
  have s2 := rdn_ok 1 (l.drop 1) (by rw [List.length_drop]; omega)
  have s3 := rdn_ok 2 (l.drop 2) (by rw [List.length_drop]; omega)
  rw [List.drop_drop] at s2 s3
  unfold whead
  simp only [s1, wth_yes 1 64 _ h1 h2, s2, e1, wth_yes 1 3 _ h3 h5, s3, e2]

theorem whead_not (l : List UInt8) (h : ¬ headGood l) : (whead l false).2.2 = true := by
  unfold whead
  by_cases h1 : 1 ≤ l.length
  · simp only [rdn_ok 1 l h1]
    by_cases hq : 1 ≤ numL l 0 1 ∧ numL l 0 1 ≤ 64
    · simp only [wth_yes 1 64 _ hq.1 hq.2]
      by_cases h2 : 2 ≤ l.length
      · have e1 : numL (l.drop 1) 0 1 = numL l 1 1 := by rw [← numL_drop l 1 0 1 (by omega)]
        have s2 := rdn_ok 1 (l.drop 1) (by rw [List.length_drop]; omega)
        rw [List.drop_drop] at s2
        simp only [s2, e1]
        by_cases hn : 1 ≤ numL l 1 1 ∧ numL l 1 1 ≤ 3
        · simp only [wth_yes 1 3 _ hn.1 hn.2]
          rw [rdn_no 2 _ (by rw [List.length_drop]; unfold headGood at h; omega)]
        · rw [wth_no 1 3 _ _ (by omega)]
          simp [rdn_bad]
      · rw [rdn_no 1 (l.drop 1) (by rw [List.length_drop]; omega)]
        simp [wth_bad, rdn_bad]
    · rw [wth_no 1 64 _ _ (by omega)]
      simp [wth_bad, rdn_bad]
  · rw [rdn_no 1 l h1]
    simp [wth_bad, rdn_bad]

/-- Bad stays bad. -/
theorem regsN_mono (l : List UInt8) (b : Bool) (k : Nat) (h : (regsN k l b).2.2 = true) : ∀ j, (regsN (k + j) l b).2.2 = true := by
  intro j
  induction j with
  | zero => exact h
  | succ j ih =>
    show (rreg (regsN (k + j) l b).2.1 (regsN (k + j) l b).2.2).2.2 = true
    rw [ih]
    exact rreg_bad _
theorem wordsN_mono (l : List UInt8) (b : Bool) (k : Nat) (h : (wordsN k l b).2.2 = true) : ∀ j, (wordsN (k + j) l b).2.2 = true := by
  intro j
  induction j with
  | zero => exact h
  | succ j ih =>
    show (rdn 4 (wordsN (k + j) l b).2.1 (wordsN (k + j) l b).2.2).2.2 = true
    rw [ih]
    exact rdn_bad _ _

/-- While nothing is bad, the regions take 7 bytes each. -/
theorem regsN_drop (l : List UInt8) : ∀ k, (regsN k l false).2.2 = false → (regsN k l false).2.1 = l.drop (7 * k) ∧ 7 * k ≤ l.length := by
  intro k
  induction k with
  | zero => intro _; simp [regsN]
  | succ k ih =>
    intro h
    have hk : (regsN k l false).2.2 = false := by
      cases hb : (regsN k l false).2.2
      · rfl
      · have := regsN_mono l false k hb 1
        rw [this] at h
        cases h
    obtain ⟨h1, h2⟩ := ih hk
    have hs : (rreg (l.drop (7 * k)) false).2.2 = false := by
      have : (rreg (regsN k l false).2.1 (regsN k l false).2.2).2.2 = false := h
      rwa [hk, h1] at this
    have hg : regGood (l.drop (7 * k)) := by
      by_cases hg : regGood (l.drop (7 * k))
      · exact hg
      · rw [rreg_not _ hg] at hs; cases hs
    have he : (regsN (k + 1) l false).2.1 = (rreg (regsN k l false).2.1 (regsN k l false).2.2).2.1 := rfl
    rw [he, hk, h1, rreg_good _ hg, List.drop_drop]
    have := hg.1
    rw [List.length_drop] at this
    exact ⟨by congr 1, by omega⟩
theorem wordsN_drop (l : List UInt8) : ∀ k, (wordsN k l false).2.2 = false → (wordsN k l false).2.1 = l.drop (4 * k) ∧ 4 * k ≤ l.length := by
  intro k
  induction k with
  | zero => intro _; simp [wordsN]
  | succ k ih =>
    intro h
    have hk : (wordsN k l false).2.2 = false := by
      cases hb : (wordsN k l false).2.2
      · rfl
      · have := wordsN_mono l false k hb 1
        rw [this] at h
        cases h
    obtain ⟨h1, h2⟩ := ih hk
    have hs : (rdn 4 (l.drop (4 * k)) false).2.2 = false := by
      have : (rdn 4 (wordsN k l false).2.1 (wordsN k l false).2.2).2.2 = false := h
      rwa [hk, h1] at this
    have hg : 4 ≤ (l.drop (4 * k)).length := by
      by_cases hg : 4 ≤ (l.drop (4 * k)).length
      · exact hg
      · rw [rdn_no _ _ hg] at hs; cases hs
    have he : (wordsN (k + 1) l false).2.1 = (rdn 4 (wordsN k l false).2.1 (wordsN k l false).2.2).2.1 := rfl
    rw [he, hk, h1, rdn_ok _ _ hg, List.drop_drop]
    rw [List.length_drop] at hg
    exact ⟨by congr 1, by omega⟩

end Go.Proofs.YthmcheoehcmglaaGreat
/- When the reader's ward is bad, and what it is when it isn't. -/
namespace Go.Proofs.YthmcheoehcmglaaGreat
open Go.RowKit
set_option linter.unusedVariables false

theorem wtail_bad (q bg : Int) (n : Nat) (l : List UInt8) (bad : Bool) (h : (regsN n l bad).2.2 = true) : (wtail q bg n l bad).2.2 = true := by
  unfold wtail
  rw [if_pos h]
  exact h

theorem rw_head (l : List UInt8) (h : ¬ headGood l) : (rward l false).2.2 = true := by
  unfold rward
  rw [whead_not l h]
  exact wtail_bad _ _ _ _ _ (regsN_bad _ _)

theorem rw_eq (l : List UInt8) (h : headGood l) : rward l false = wtail (numL l 0 1) (numL l 2 2) (numL l 1 1).toNat (l.drop 4) false := by
  unfold rward
  rw [whead_good l h]

theorem rw_reg (l : List UInt8) (h : headGood l) (k : Nat) (hk : k < (numL l 1 1).toNat) (hok : (regsN k (l.drop 4) false).2.2 = false) (hb : ¬ regGood (l.drop (4 + 7 * k))) : (rward l false).2.2 = true := by
  rw [rw_eq l h]
  refine wtail_bad _ _ _ _ _ ?_
  obtain ⟨h1, _⟩ := regsN_drop (l.drop 4) k hok
  have h2 : (regsN (k + 1) (l.drop 4) false).2.2 = true := by
    show (rreg (regsN k (l.drop 4) false).2.1 (regsN k (l.drop 4) false).2.2).2.2 = true
    rw [hok, h1, List.drop_drop]
    exact rreg_not _ hb
  have := regsN_mono (l.drop 4) false (k + 1) h2 ((numL l 1 1).toNat - (k + 1))
  rwa [show k + 1 + ((numL l 1 1).toNat - (k + 1)) = (numL l 1 1).toNat by omega] at this

/-- What stands behind the regions. -/
theorem rw_eq2 (l : List UInt8) (h : headGood l) (hok : (regsN (numL l 1 1).toNat (l.drop 4) false).2.2 = false) :
    rward l false = (⟨numL l 0 1, numL l 2 2, (regsN (numL l 1 1).toNat (l.drop 4) false).1, (wordsN (wth 0 (firstWords (regsN (numL l 1 1).toNat (l.drop 4) false).1) (rdn 2 (l.drop (4 + 7 * (numL l 1 1).toNat)) false).1 (rdn 2 (l.drop (4 + 7 * (numL l 1 1).toNat)) false).2.2).1.toNat (rdn 2 (l.drop (4 + 7 * (numL l 1 1).toNat)) false).2.1 (wth 0 (firstWords (regsN (numL l 1 1).toNat (l.drop 4) false).1) (rdn 2 (l.drop (4 + 7 * (numL l 1 1).toNat)) false).1 (rdn 2 (l.drop (4 + 7 * (numL l 1 1).toNat)) false).2.2).2).1⟩,
      (wordsN (wth 0 (firstWords (regsN (numL l 1 1).toNat (l.drop 4) false).1) (rdn 2 (l.drop (4 + 7 * (numL l 1 1).toNat)) false).1 (rdn 2 (l.drop (4 + 7 * (numL l 1 1).toNat)) false).2.2).1.toNat (rdn 2 (l.drop (4 + 7 * (numL l 1 1).toNat)) false).2.1 (wth 0 (firstWords (regsN (numL l 1 1).toNat (l.drop 4) false).1) (rdn 2 (l.drop (4 + 7 * (numL l 1 1).toNat)) false).1 (rdn 2 (l.drop (4 + 7 * (numL l 1 1).toNat)) false).2.2).2).2) := by
  rw [rw_eq l h]
  obtain ⟨h1, _⟩ := regsN_drop (l.drop 4) _ hok
  unfold wtail
  rw [if_neg (by rw [hok]; simp), h1, List.drop_drop]

theorem rw_cnt (l : List UInt8) (h : headGood l) (hok : (regsN (numL l 1 1).toNat (l.drop 4) false).2.2 = false)
    (hb : ¬ (2 ≤ (l.drop (4 + 7 * (numL l 1 1).toNat)).length ∧ numL l (4 + 7 * (numL l 1 1).toNat) 2 ≤ firstWords (regsN (numL l 1 1).toNat (l.drop 4) false).1)) (hl : 4 + 7 * (numL l 1 1).toNat ≤ l.length) : (rward l false).2.2 = true := by
  rw [rw_eq2 l h hok]
  generalize (numL l 1 1).toNat = n at *
  generalize firstWords (regsN n (l.drop 4) false).1 = fw at *
  have e : numL (l.drop (4 + 7 * n)) 0 2 = numL l (4 + 7 * n) 2 := by rw [← numL_drop l (4 + 7 * n) 0 2 hl, Nat.add_zero]
  show (wordsN _ _ _).2.2 = true
  by_cases h2 : 2 ≤ (l.drop (4 + 7 * n)).length
  · have h0 := numL_ok l (4 + 7 * n) 2 (by rw [List.length_drop] at h2; omega)
    simp only [rdn_ok 2 _ h2, e]
    rw [wth_no _ _ _ _ (by omega)]
    exact wordsN_bad _ _
  · simp only [rdn_no 2 _ h2]
    rw [wth_no _ _ _ _ (by simp)]
    exact wordsN_bad _ _

theorem rw_eq3 (l : List UInt8) (h : headGood l) (n m : Nat) (hn : (numL l 1 1).toNat = n) (hok : (regsN n (l.drop 4) false).2.2 = false) (hl : 4 + 7 * n + 2 ≤ l.length) (hm : numL l (4 + 7 * n) 2 = (m : Int)) (hmf : (m : Int) ≤ firstWords (regsN n (l.drop 4) false).1) :
    rward l false = (⟨numL l 0 1, numL l 2 2, (regsN n (l.drop 4) false).1, (wordsN m (l.drop (4 + 7 * n + 2)) false).1⟩, (wordsN m (l.drop (4 + 7 * n + 2)) false).2) := by
  subst hn
  rw [rw_eq2 l h hok]
  generalize (numL l 1 1).toNat = n at *
  have e : numL (l.drop (4 + 7 * n)) 0 2 = numL l (4 + 7 * n) 2 := by rw [← numL_drop l (4 + 7 * n) 0 2 (by omega), Nat.add_zero]
  simp only [rdn_ok 2 (l.drop (4 + 7 * n)) (by rw [List.length_drop]; omega), e, hm, wth_yes 0 _ (m : Int) (by omega) hmf, List.drop_drop, Int.toNat_natCast]

theorem rw_word (l : List UInt8) (h : headGood l) (n m : Nat) (hn : (numL l 1 1).toNat = n) (hok : (regsN n (l.drop 4) false).2.2 = false) (hl : 4 + 7 * n + 2 ≤ l.length) (hm : numL l (4 + 7 * n) 2 = (m : Int)) (hmf : (m : Int) ≤ firstWords (regsN n (l.drop 4) false).1)
    (j : Nat) (hj : j < m) (hw : (wordsN j (l.drop (4 + 7 * n + 2)) false).2.2 = false) (hb : ¬ 4 + 7 * n + 2 + 4 * j + 4 ≤ l.length) : (rward l false).2.2 = true := by
  rw [rw_eq3 l h n m hn hok hl hm hmf]
  show (wordsN m (l.drop (4 + 7 * n + 2)) false).2.2 = true
  obtain ⟨h1, _⟩ := wordsN_drop _ j hw
  have h2 : (wordsN (j + 1) (l.drop (4 + 7 * n + 2)) false).2.2 = true := by
    show (rdn 4 (wordsN j (l.drop (4 + 7 * n + 2)) false).2.1 (wordsN j (l.drop (4 + 7 * n + 2)) false).2.2).2.2 = true
    rw [hw, h1, List.drop_drop, rdn_no 4 _ (by rw [List.length_drop]; omega)]
  have := wordsN_mono _ false (j + 1) h2 (m - (j + 1))
  rwa [show j + 1 + (m - (j + 1)) = m by omega] at this

theorem regsN_step (l : List UInt8) (k : Nat) (hok : (regsN k l false).2.2 = false) (hg : regGood (l.drop (7 * k))) :
    regsN (k + 1) l false = ((regsN k l false).1 ++ [(numL (l.drop (7 * k)) 0 2, numL (l.drop (7 * k)) 2 2, numL (l.drop (7 * k)) 4 2, numL (l.drop (7 * k)) 6 1)], l.drop (7 * (k + 1)), false) := by
  obtain ⟨h1, _⟩ := regsN_drop l k hok
  simp only [regsN]
  rw [hok, h1, rreg_good _ hg, List.drop_drop]
  rfl
theorem wordsN_step (l : List UInt8) (k : Nat) (hok : (wordsN k l false).2.2 = false) (hg : 4 * k + 4 ≤ l.length) :
    wordsN (k + 1) l false = ((wordsN k l false).1 ++ [numL l (4 * k) 4], l.drop (4 * (k + 1)), false) := by
  obtain ⟨h1, h2⟩ := wordsN_drop l k hok
  simp only [wordsN]
  rw [hok, h1, rdn_ok 4 _ (by rw [List.length_drop]; omega), List.drop_drop, ← numL_drop l (4 * k) 0 4 h2]
  rfl

end Go.Proofs.YthmcheoehcmglaaGreat
/- wards.start: the machine that a plan tells of. -/
namespace Go.Proofs.YthmcheoehcmglaaGreat
open Go.RowKit
set_option linter.unusedVariables false
attribute [local go_sem ↓] Go.wp_at_zero Go.wp_at_succ

/-- copy, in words of rows, at a step of a region that draws its order; the source may be nil. -/
theorem step_copyF {P : Program} {ops : Array Oper} {o : Oper} {a : Act} {w : World} {K : Act → World → Prop} {Q : Exit → Act → World → Prop} {E : Prop} (hgd : o.guard = none) (d s : Operand) (dT sT : TypeId)
    (ho : o.op = .call { callee := .builtin .copy, args := #[d, s], argTypes := #[dT, sT] }) (elem : TypeId) (hu : P.underlying dT = some (.slice elem)) (hsz : (P.info? elem).map (·.size) = some 1)
    (g off dLen dCap : Nat) (sp : Option Addr) (sLen sCap : Nat) (hd : a.eval d = .slice (some ⟨g, off, none⟩) dLen dCap) (hs : a.eval s = .slice sp sLen sCap)
    (cur : List Value) (t : TypeId) (hg : w.heap[g]? = some (.cells cur.toArray t (0, 0))) (cs : List Value) (hn : cs.length = Nat.min sLen dLen)
    (hpos : 0 < cs.length → ∃ ad, sp = some ad ∧ ∀ j v, cs[j]? = some v → w.cell? (ad.add j) = some v) (hfit : off + cs.length ≤ cur.length) (h1 : ∀ v ∈ cs, v.oneCell' = true)
    (h : ∀ w', w'.heap[g]? = some (.cells (splice cur off cs).toArray t (0, 0)) → Fr (fun i => i = g) w w' → K (a.put o.dst (goInt cs.length)) w') :
    if Region.wanted o (yielded ops a.tmps) = true then Oper.wp P o a w K Q else E := by
  have hw : Region.wanted o (yielded ops a.tmps) = true := by simp [Region.wanted, hgd]
  rw [if_pos hw]
  by_cases h0 : cs.length = 0
  · obtain rfl : cs = [] := List.eq_nil_of_length_eq_zero h0
    have hrun := run_copy_none (P := P) w dT sT o.type elem (some ⟨g, off, none⟩) sp dLen dCap sLen sCap hu hsz (by simpa using hn.symm)
    unfold Oper.wp
    simp [execOp, ho, resolve, invoke, builtin, hd, hs, hrun, Result.andThen]
    exact h w (by simpa [splice] using hg) (Fr.refl _ _)
  · obtain ⟨ad, rfl, hsrc⟩ := hpos (by omega)
    obtain ⟨w', hrun, hM, hf⟩ := run_copyF (P := P) w dT sT o.type elem g off dLen dCap ad sLen sCap cur t cs hu hsz hg hn hsrc hfit h1
    unfold Oper.wp
    simp [execOp, ho, resolve, invoke, builtin, hd, hs, hrun, Result.andThen]
    exact h w' hM hf

/-- A ward that has done nothing yet. -/
def st0 (bg : Int) : StV := ⟨[0, 0, 0, 0, 0, 0, 0, 0], bg, 0, 0, 0, false⟩

/-- Where a ward's first region lies. -/
def firstBase (rs : List (Int × Int × Int × Int)) : Int := (rs.getD 0 (0, 0, 0, 0)).2.2.1

/-- The memory when the first k wards are laid. -/
def memN (m : Img) : Nat → List Int
  | 0 => List.replicate m.mem.toNat 0
  | k + 1 => match m.ws[k]? with
    | some x => splice (splice (memN m k) (16 + 16 * k) (stWords (st0 x.bg))) (firstBase x.regs).toNat x.prog
    | none => memN m k

theorem slKw : SlT Tryz.prog 97 94 15 120 := SlT.mk' (z := .agg #[.int .u32 0, .int .u32 0, .int .u32 0, .int .u32 0, .int .u32 0, .int .u32 0, .int .u32 0, .int .u32 0, .int .u32 0, .int .i64 0, .int .i64 0, .int .i64 0, .bool false, .slice none 0 0, .slice none 0 0]) Tryz.underlying97 (by kernel_rfl) rfl (by omega)

/-- What a plan must be for a machine to be made of it. -/
structure Img.Fits (m : Img) : Prop where
  ok : m.Ok
  m64 : 64 ≤ m.mem
  kern : 16 + 16 * (m.ws.length : Int) + 2 * m.wi.length ≤ m.mem
  reg : ∀ x ∈ m.ws, 1 ≤ x.regs.length ∧ 0 ≤ firstBase x.regs ∧ firstBase x.regs + x.prog.length ≤ m.mem ∧ firstBase x.regs < m.mem
  own : ∀ o ∈ m.ow, 0 ≤ o ∧ o < m.ws.length
  w1 : 1 ≤ m.ws.length

theorem memN_len (m : Img) (h : m.Fits) : ∀ k, k ≤ m.ws.length → (memN m k).length = m.mem.toNat := by
  intro k
  induction k with
  | zero => intro _; simp [memN]
  | succ k ih =>
    intro hk
    have hx : m.ws[k]? = some m.ws[k] := List.getElem?_eq_getElem (by omega)
    simp only [memN, hx]
    have h1 := ih (by omega)
    have hr := h.reg m.ws[k] (List.getElem_mem _)
    have hkk := h.kern
    have h2 : (splice (memN m k) (16 + 16 * k) (stWords (st0 m.ws[k].bg))).length = m.mem.toNat := by
      rw [length_splice _ _ _ (by rw [h1]; simp [stWords, st0]; omega), h1]
    rw [length_splice _ _ _ (by rw [h2]; omega), h2]

/-- The kernel's wards, at the beginning. -/
def kws (xs : List (WardV × Value × Value)) : List (StV × Value) := xs.map (fun x => (st0 x.1.bg, x.2.1))

/-- A new ward's cells. -/
def kwNew (x : WardV × Value × Value) : List Value := stCells (st0 x.1.bg) ++ [x.2.1, .slice none 0 0]
theorem kwNew_len (x : WardV × Value × Value) : (kwNew x).length = 15 := by simp [kwNew, stCells, st0]
def dev0 (n : Nat) : List Value := (List.replicate n ([.int .u32 0, .slice none 0 0] : List Value)).flatten
def qCell (x : WardV × Value × Value) : Value := .int .i64 x.1.q

/-- A machine that is being made: kq quanta, k wards are laid. -/
structure KerIn (w : World) (im : Img) (vI : Value) (X M n D : Nat) (mem : List Int) (xs : List (WardV × Value × Value)) (kq k : Nat) (vQ vK : Value) (wr : World) : Prop where
  hx : wr.heap[X]? = some (.cells #[.slice (some ⟨M, 0, none⟩) n n, .int .i64 0, .int .i64 im.gap, vQ, vK, vI, .slice (some ⟨D, 0, none⟩) im.ow.length im.ow.length] 101 (0, 0))
  hm : wr.heap[M]? = some (.cells (wordCells mem).toArray 33 (0, 0))
  hd : wr.heap[D]? = some (.cells (dev0 im.ow.length).toArray 109 (0, 0))
  hq : wr.ownsRow w.heap.size 3 1 vQ kq ((xs.take kq).map qCell)
  hk : wr.ownsRow w.heap.size 94 15 vK k ((xs.take k).flatMap kwNew)
  fr : Fr (fun _ => False) w wr
  x1 : w.heap.size ≤ X
  m1 : w.heap.size ≤ M
  d1 : w.heap.size ≤ D

theorem KerIn.on {w wr w' : World} {im : Img} {vI : Value} {X M n D kq k : Nat} {mem : List Int} {xs : List (WardV × Value × Value)} {vQ vK : Value} (h : KerIn w im vI X M n D mem xs kq k vQ vK wr) (hf : Fr (fun _ => False) wr w') : KerIn w im vI X M n D mem xs kq k vQ vK w' :=
  ⟨hf.get h.hx id, hf.get h.hm id, hf.get h.hd id, hf.ownsF _ h.hq, hf.ownsF _ h.hk, h.fr.step hf (fun _ h => .inl h), h.x1, h.m1, h.d1⟩

theorem ne_of_ty {w : World} {a b : Nat} {c d : Array Value} {s t : TypeId} {f g : Nat × Nat} (h1 : w.heap[a]? = some (.cells c s f)) (h2 : w.heap[b]? = some (.cells d t g)) (hne : s ≠ t) : a ≠ b := by
  intro e
  rw [e, h2] at h1
  simp only [Option.some.injEq, Obj.cells.injEq] at h1
  exact hne h1.2.1.symm

/-- One quantum more. -/
theorem KerIn.appQ {w wa w3 : World} {im : Img} {vI : Value} {X M n D k : Nat} {mem : List Int} {xs : List (WardV × Value × Value)} {vQ vK v' : Value} (h : KerIn w im vI X M n D mem xs k k vQ vK wa) (x : WardV × Value × Value) (hx : xs[k]? = some x)
    (hown3 : w3.ownsRow w.heap.size 3 1 v' (k + 1) ((xs.take k).map qCell ++ (#[.int .i64 x.1.q] : Array Value).toList)) (hf : Fr (fun i => vQ.ownBlock = some i) wa w3) :
    KerIn w im vI X M n D mem xs (k + 1) k v' vK (w3.setCell ⟨X, 3, none⟩ v') := by
  obtain ⟨hk, rfl⟩ := List.getElem?_eq_some_iff.1 hx
  have x3 := hf.getT h.hq h.hx (by decide)
  have m3 := hf.getT h.hq h.hm (by decide)
  have d3 := hf.getT h.hq h.hd (by decide)
  refine ⟨by rw [row_set x3]; simp, set_other m3 (ne_of_ty m3 x3 (by decide)) _, set_other d3 (ne_of_ty d3 x3 (by decide)) _, ?_, owns_setT (hf.ownsT h.hq h.hk (by decide)) x3 (by decide) _, ?_, h.x1, h.m1, h.d1⟩
  · have e1 : (xs.take (k + 1)).map qCell = (xs.take k).map qCell ++ (#[.int .i64 xs[k].1.q] : Array Value).toList := by
      rw [List.take_succ_eq_append_getElem hk, List.map_append]
      rfl
    rw [e1]
    exact owns_setT hown3 x3 (by decide) _
  · exact (h.fr.step hf (fun i hi => .inr (h.hq.lt i hi).1)).setCell (.inr h.x1) _

/-- One ward more. -/
theorem KerIn.app {w wa w3 : World} {im : Img} {vI : Value} {X M n D k : Nat} {mem : List Int} {xs : List (WardV × Value × Value)} {vQ vK v' : Value} (h : KerIn w im vI X M n D mem xs (k + 1) k vQ vK wa) (x : WardV × Value × Value) (hx : xs[k]? = some x)
    (hown3 : w3.ownsRow w.heap.size 94 15 v' (k + 1) ((xs.take k).flatMap kwNew ++ (kwNew x).toArray.toList)) (hf : Fr (fun i => vK.ownBlock = some i) wa w3) :
    KerIn w im vI X M n D mem xs (k + 1) (k + 1) vQ v' (w3.setCell ⟨X, 4, none⟩ v') := by
  obtain ⟨hk, rfl⟩ := List.getElem?_eq_some_iff.1 hx
  have x3 := hf.getT h.hk h.hx (by decide)
  have m3 := hf.getT h.hk h.hm (by decide)
  have d3 := hf.getT h.hk h.hd (by decide)
  refine ⟨by rw [row_set x3]; simp, set_other m3 (ne_of_ty m3 x3 (by decide)) _, set_other d3 (ne_of_ty d3 x3 (by decide)) _, owns_setT (hf.ownsT h.hk h.hq (by decide)) x3 (by decide) _, ?_, ?_, h.x1, h.m1, h.d1⟩
  · have e1 : (xs.take (k + 1)).flatMap kwNew = (xs.take k).flatMap kwNew ++ (kwNew xs[k]).toArray.toList := by
      rw [List.take_succ_eq_append_getElem hk, List.flatMap_append]
      simp
    rw [e1]
    exact owns_setT hown3 x3 (by decide) _
  · exact (h.fr.step hf (fun i hi => .inr (h.hk.lt i hi).1)).setCell (.inr h.x1) _

/-- The memory is written. -/
theorem KerIn.wr {w wa w3 : World} {im : Img} {vI : Value} {X M n D kq k : Nat} {mem mem' : List Int} {xs : List (WardV × Value × Value)} {vQ vK : Value} (h : KerIn w im vI X M n D mem xs kq k vQ vK wa) (hm : w3.heap[M]? = some (.cells (wordCells mem').toArray 33 (0, 0))) (hf : Fr (fun i => i = M) wa w3) :
    KerIn w im vI X M n D mem' xs kq k vQ vK w3 := by
  have h1 := h.m1
  exact ⟨hf.get1 h.hx (ne_of_ty h.hx h.hm (by decide)), hm, hf.get1 h.hd (ne_of_ty h.hd h.hm (by decide)), hf.owns1T h.hm h.hq (by decide), hf.owns1T h.hm h.hk (by decide), h.fr.step hf (fun i hi => .inr (by omega)), h.x1, h.m1, h.d1⟩

theorem flat_base (rs : List (Int × Int × Int × Int)) (h : 1 ≤ rs.length) : (rs.flatMap regCells)[2]? = some (.int .i64 (firstBase rs)) := by
  match rs, h with
  | r :: rs, _ => simp [regCells, firstBase]

theorem kwNew_one (x : WardV) (ar : Option Addr) (a b : Nat) (vp : Value) : ∀ u ∈ (kwNew (x, .slice ar a b, vp)).toArray.toList, u.oneCell' = true := by simp [kwNew, stCells, st0, Value.oneCell']

theorem made_row {w : World} {base g n : Nat} (h : w.ownsRow base 33 1 (.slice (some ⟨g, 0, none⟩) n n) n (madeCells (Value.int .u32 0).cells (n * 1)).toList) :
    w.heap[g]? = some (.cells (wordCells (List.replicate n 0)).toArray 33 (0, 0)) := by
  rcases h.2 with ⟨h1, _⟩ | ⟨g', cap, cur, h1, _, hg, _, _, hs, ht⟩
  · simp at h1
  · simp only [Value.slice.injEq, Option.some.injEq, Addr.mk.injEq] at h1
    obtain ⟨⟨rfl, _⟩, _, rfl⟩ := h1
    rw [hg]
    have e1 : (Value.int IntKind.u32 0).cells = #[Value.int .u32 0] := rfl
    rw [e1, toList_madeCells_one, List.take_of_length_le (by simp [hs])] at ht
    have e2 : cur = (wordCells (List.replicate n 0)).toArray := by
      apply Array.ext'
      rw [ht]
      simp [wordCells]
    rw [e2]

theorem made2 (a b : Value) (n : Nat) : (madeCells #[a, b] (n * 2)).toList = (List.replicate n ([a, b] : List Value)).flatten := by
  unfold madeCells
  rw [Array.toList_map, Array.toList_range]
  induction n with
  | zero => rfl
  | succ n ih =>
    rw [show (n + 1) * 2 = n * 2 + 1 + 1 by omega, List.range_succ, List.range_succ, List.map_append, List.map_append, ih, List.replicate_succ', List.flatten_append]
    have h1 : (n * 2) % 2 = 0 := by omega
    have h2 : (n * 2 + 1) % 2 = 1 := by omega
    simp [h1, h2]

theorem made_dev {w : World} {base g n : Nat} (h : w.ownsRow base 109 2 (.slice (some ⟨g, 0, none⟩) n n) n (madeCells (Value.agg #[.int .u32 0, .slice none 0 0]).cells (n * 2)).toList) :
    w.heap[g]? = some (.cells (dev0 n).toArray 109 (0, 0)) := by
  rcases h.2 with ⟨h1, _⟩ | ⟨g', cap, cur, h1, _, hg, _, _, hs, ht⟩
  · simp at h1
  · simp only [Value.slice.injEq, Option.some.injEq, Addr.mk.injEq] at h1
    obtain ⟨⟨rfl, _⟩, _, rfl⟩ := h1
    rw [hg]
    have e2 : cur = (dev0 n).toArray := by
      apply Array.ext'
      rw [List.take_of_length_le (by simp [hs])] at ht
      rw [ht]
      exact made2 _ _ n
    rw [e2]

theorem size_alloc1 (w : World) (o : Obj) : (w.alloc o).heap.size = w.heap.size + 1 := by simp
theorem grown_fr {w w' : World} (h : w.grownBy w' none) : Fr (fun _ => False) w w' := ⟨h.os, h.tape, h.output, h.size, fun k hk _ => h.block k hk (by simp)⟩


end Go.Proofs.YthmcheoehcmglaaGreat
/- wards.start: its parts: what is made; the wards' devices. -/
namespace Go.Proofs.YthmcheoehcmglaaGreat
open Go.RowKit
set_option linter.unusedVariables false
attribute [local go_sem ↓] Go.wp_at_zero Go.wp_at_succ

/-- The cells of n words that are noughts, as make lays them. -/
theorem made_words (n : Nat) : madeCells (Value.int IntKind.u32 0).cells (n * 1) = (wordCells (List.replicate n 0)).toArray := by
  apply Array.ext'
  have e1 : (Value.int IntKind.u32 0).cells = #[Value.int .u32 0] := rfl
  rw [e1, toList_madeCells_one]
  simp [wordCells]
theorem made_devs (n : Nat) : madeCells (Value.agg #[.int .u32 0, .slice none 0 0]).cells (n * 2) = (dev0 n).toArray := by
  apply Array.ext'
  exact made2 _ _ n

theorem mk_mem (n : Nat) (hn : n ≤ 1024) (w : World) : (Instr.makeSlice 35 (.int .i64 n) (.int .i64 n)).run Tryz.prog w = .ok (.slice (some ⟨w.heap.size, 0, none⟩) n n) (w.alloc (.cells (wordCells (List.replicate n 0)).toArray 33)) := by
  obtain ⟨i0, hi0, hz0, hz1, hz2⟩ := info_parts (show (Tryz.prog.info? 33).map (fun i => (i.zero, i.size, i.bytes)) = some (some (.int .u32 0), 1, 4) by kernel_rfl)
  have h := run_make (P := Tryz.prog) w 35 33 i0 _ Tryz.underlying35 hi0 hz0 .i64 .i64 n n (by omega) (by omega) (by rw [hz2]; omega) (by omega)
  rw [hz1, Int.toNat_natCast, made_words] at h
  exact h
theorem mk_devs (n : Nat) (hn : n ≤ 8) (w : World) : (Instr.makeSlice 99 (.int .i64 n) (.int .i64 n)).run Tryz.prog w = .ok (.slice (some ⟨w.heap.size, 0, none⟩) n n) (w.alloc (.cells (dev0 n).toArray 109)) := by
  obtain ⟨i0, hi0, hz0, hz1, hz2⟩ := info_parts (show (Tryz.prog.info? 109).map (fun i => (i.zero, i.size, i.bytes)) = some (some (.agg #[.int .u32 0, .slice none 0 0]), 2, 32) by kernel_rfl)
  have h := run_make (P := Tryz.prog) w 99 109 i0 _ Tryz.underlying99 hi0 hz0 .i64 .i64 n n (by omega) (by omega) (by rw [hz2]; omega) (by omega)
  rw [hz1, Int.toNat_natCast, made_devs] at h
  exact h


theorem al3a (w : World) (A B C : Obj) : (((w.alloc A).alloc B).alloc C).heap[w.heap.size + 1 + 1]? = some C := by
  have h := heap_alloc_new ((w.alloc A).alloc B) C
  rw [size_alloc1, size_alloc1] at h
  exact h
theorem al3b (w : World) (A B C : Obj) : (((w.alloc A).alloc B).alloc C).heap[w.heap.size + 1]? = some B := by
  have h := get_alloc (heap_alloc_new (w.alloc A) B) C
  rw [size_alloc1] at h
  exact h
theorem al3c (w : World) (A B C : Obj) : (((w.alloc A).alloc B).alloc C).heap[w.heap.size]? = some A := get_alloc (get_alloc (heap_alloc_new w A) B) C

theorem KerIn.init1 {w wa : World} (hf : Fr (fun _ => False) w wa) {im : Img} {vI : Value} {n : Nat} (hn : im.mem = (n : Int)) (xs : List (WardV × Value × Value)) :
    KerIn w im vI (wa.heap.size + 1 + 1) wa.heap.size n (wa.heap.size + 1) (memN im 0) xs 0 0 (.slice none 0 0) (.slice none 0 0) (((wa.alloc (.cells (wordCells (List.replicate n 0)).toArray 33)).alloc (.cells (dev0 im.ow.length).toArray 109)).alloc (.cells #[.slice (some ⟨wa.heap.size, 0, none⟩) n n, .int .i64 0, .int .i64 im.gap, .slice none 0 0, .slice none 0 0, vI, .slice (some ⟨wa.heap.size + 1, 0, none⟩) im.ow.length im.ow.length] 101)).drew := by
  have hs := hf.size
  have e1 : memN im 0 = List.replicate n 0 := by simp [memN, hn]
  rw [e1]
  exact ⟨al3a _ _ _ _, al3c _ _ _ _, al3b _ _ _ _, World.ownsRow_nil _ _ _ _, World.ownsRow_nil _ _ _ _, (((hf.alloc _).alloc _).alloc _).drew, by omega, by omega, by omega⟩
theorem KerIn.init2 {w wa : World} (hf : Fr (fun _ => False) w wa) {im : Img} {vI : Value} {n : Nat} (hn : im.mem = (n : Int)) (xs : List (WardV × Value × Value)) :
    KerIn w im vI (wa.heap.size + 1 + 1) (wa.heap.size + 1) n wa.heap.size (memN im 0) xs 0 0 (.slice none 0 0) (.slice none 0 0) (((wa.alloc (.cells (dev0 im.ow.length).toArray 109)).alloc (.cells (wordCells (List.replicate n 0)).toArray 33)).alloc (.cells #[.slice (some ⟨wa.heap.size + 1, 0, none⟩) n n, .int .i64 0, .int .i64 im.gap, .slice none 0 0, .slice none 0 0, vI, .slice (some ⟨wa.heap.size, 0, none⟩) im.ow.length im.ow.length] 101)).drew := by
  have hs := hf.size
  have e1 : memN im 0 = List.replicate n 0 := by simp [memN, hn]
  rw [e1]
  exact ⟨al3a _ _ _ _, al3b _ _ _ _, al3c _ _ _ _, World.ownsRow_nil _ _ _ _, World.ownsRow_nil _ _ _ _, (((hf.alloc _).alloc _).alloc _).drew, by omega, by omega, by omega⟩

/-- The plan's own block. -/
def PlanCell (w wr : World) (row : Array Value) : Prop := wr.heap[w.heap.size]? = some (.cells row 112 (0, 0))

/-- The devices, of the first j, that ward k owns. -/
def devsOf (ow : List Int) (k j : Nat) : List Int := ((List.range j).filter (fun i => ow.getD i 0 == (k : Int))).map (fun i : Nat => (i : Int))
theorem devsOf_zero (ow : List Int) (k : Nat) : devsOf ow k 0 = [] := rfl
theorem devsOf_succ (ow : List Int) (k j : Nat) : devsOf ow k (j + 1) = if ow.getD j 0 = (k : Int) then devsOf ow k j ++ [(j : Int)] else devsOf ow k j := by
  unfold devsOf
  rw [List.range_succ, List.filter_append, List.map_append]
  by_cases h : ow.getD j 0 = (k : Int)
  · rw [if_pos h, List.filter_cons_of_pos (by simpa using h)]; rfl
  · rw [if_neg h, List.filter_cons_of_neg (by simpa using h)]; simp
theorem devsOf_le (ow : List Int) (k j : Nat) : (devsOf ow k j).length ≤ j := by
  unfold devsOf
  rw [List.length_map]
  exact Nat.le_trans (List.length_filter_le _ _) (by simp)
theorem devsOf_bd (ow : List Int) (k j : Nat) : ∀ d ∈ devsOf ow k j, 0 ≤ d ∧ d < j := by
  intro d hd
  simp only [devsOf, List.mem_map, List.mem_filter, List.mem_range] at hd
  obtain ⟨i, ⟨h1, _⟩, rfl⟩ := hd
  omega

def kwD (x : WardV × Value × Value) (v : Value) : List Value := stCells (st0 x.1.bg) ++ [x.2.1, v]
def nilV : Value := .slice none 0 0
theorem kwD_lt (x : WardV × Value × Value) (v v' : Value) (c : Nat) (h : c < 14) : (kwD x v)[c]? = (kwD x v')[c]? := by
  have e : ∀ u, (kwD x u)[c]? = (stCells (st0 x.1.bg) ++ [x.2.1])[c]? := by
    intro u
    unfold kwD
    rw [show stCells (st0 x.1.bg) ++ [x.2.1, u] = (stCells (st0 x.1.bg) ++ [x.2.1]) ++ [u] by simp, List.getElem?_append_left (by simp [stCells, st0]; omega)]
  rw [e, e]

/-- A machine that is being made: its wards are laid, the first j devices are told. -/
structure KerDv (w : World) (im : Img) (vI : Value) (X M n D : Nat) (mem : List Int) (xs : List (WardV × Value × Value)) (j : Nat) (vQ : Value) (gK cK : Nat) (vD : List Value) (wr : World) : Prop where
  hx : wr.heap[X]? = some (.cells #[.slice (some ⟨M, 0, none⟩) n n, .int .i64 0, .int .i64 im.gap, vQ, .slice (some ⟨gK, 0, none⟩) xs.length cK, vI, .slice (some ⟨D, 0, none⟩) im.ow.length im.ow.length] 101 (0, 0))
  hm : wr.heap[M]? = some (.cells (wordCells mem).toArray 33 (0, 0))
  hd : wr.heap[D]? = some (.cells (dev0 im.ow.length).toArray 109 (0, 0))
  hq : wr.ownsRow w.heap.size 3 1 vQ xs.length (xs.map qCell)
  hk : ∃ cur : Array Value, wr.heap[gK]? = some (.cells cur 94 (0, 0)) ∧ ∀ k x, xs[k]? = some x → ∀ c v, (kwD x (vD.getD k nilV))[c]? = some v → cur[k * 15 + c]? = some v
  vl : vD.length = xs.length
  dv : ∀ k, k < xs.length → wr.ownsRow w.heap.size 3 1 (vD.getD k nilV) (devsOf im.ow k j).length ((devsOf im.ow k j).map (Value.int .i64))
  dis : ∀ k k', k < xs.length → k' < xs.length → k ≠ k' → ∀ b, (vD.getD k nilV).ownBlock = some b → (vD.getD k' nilV).ownBlock ≠ some b
  dq : ∀ k, k < xs.length → ∀ b, (vD.getD k nilV).ownBlock = some b → vQ.ownBlock ≠ some b
  fr : Fr (fun _ => False) w wr
  x1 : w.heap.size ≤ X
  m1 : w.heap.size ≤ M
  g1 : w.heap.size ≤ gK
  d1 : w.heap.size ≤ D

theorem KerDv.on {w wr w' : World} {im : Img} {vI : Value} {X M n D j gK cK : Nat} {mem : List Int} {xs : List (WardV × Value × Value)} {vQ : Value} {vD : List Value} (h : KerDv w im vI X M n D mem xs j vQ gK cK vD wr) (hf : Fr (fun _ => False) wr w') : KerDv w im vI X M n D mem xs j vQ gK cK vD w' := by
  obtain ⟨cur, hc, hv⟩ := h.hk
  exact ⟨hf.get h.hx id, hf.get h.hm id, hf.get h.hd id, hf.ownsF _ h.hq, ⟨cur, hf.get hc id, hv⟩, h.vl, fun k hk => hf.ownsF _ (h.dv k hk), h.dis, h.dq, h.fr.step hf (fun _ h => .inl h), h.x1, h.m1, h.g1, h.d1⟩

theorem take_get {α : Type} {cur L : List α} {n : Nat} (h : cur.take n = L) {i : Nat} (hi : i < n) : cur[i]? = L[i]? := by
  rw [← h, List.getElem?_take, if_pos hi]

theorem KerDv.zero {w wr : World} {im : Img} {vI : Value} {X M n D : Nat} {mem : List Int} {xs : List (WardV × Value × Value)} {vQ vK : Value} (h : KerIn w im vI X M n D mem xs xs.length xs.length vQ vK wr) (h1 : 1 ≤ xs.length) :
    ∃ gK cK, vK = .slice (some ⟨gK, 0, none⟩) xs.length cK ∧ KerDv w im vI X M n D mem xs 0 vQ gK cK (List.replicate xs.length nilV) wr := by
  have hq := h.hq
  have hk := h.hk
  rw [List.take_of_length_le (Nat.le_refl _)] at hq hk
  rcases hk.2 with ⟨e1, e2⟩ | ⟨g, cap, cur, rfl, hb, hg, hc, -, hs, ht⟩
  · omega
  · have hget : ∀ k, (List.replicate xs.length nilV).getD k nilV = nilV := by
      intro k
      rw [List.getD_eq_getElem?_getD, List.getElem?_replicate]
      split <;> rfl
    refine ⟨g, cap, rfl, h.hx, h.hm, h.hd, hq, ⟨cur, hg, ?_⟩, by simp, ?_, ?_, ?_, h.fr, h.x1, h.m1, hb, h.d1⟩
    · intro k x hx c v hv
      obtain ⟨hkl, hxe⟩ := List.getElem?_eq_some_iff.1 hx
      rw [hget] at hv
      have hcl : c < 15 := by
        have := (List.getElem?_eq_some_iff.1 hv).1
        simpa [kwD, stCells, st0] using this
      have e3 : cur.toList[k * 15 + c]? = (xs.flatMap kwNew)[k * 15 + c]? := take_get ht (by have : (k + 1) * 15 ≤ xs.length * 15 := Nat.mul_le_mul_right _ hkl; omega)
      rw [← Array.getElem?_toList, e3, flat_get kwNew 15 kwNew_len xs k c hkl hcl, hxe]
      exact hv
    · intro k hk
      rw [hget]
      exact World.ownsRow_nil _ _ _ _
    · intro k k' _ _ _ b hb
      rw [hget] at hb
      cases hb
    · intro k _ b hb
      rw [hget] at hb
      cases hb

theorem getD_set_same {α : Type} (l : List α) (i : Nat) (v d : α) (h : i < l.length) : (l.set i v).getD i d = v := by simp [h]
theorem getD_set_ne {α : Type} (l : List α) (i j : Nat) (v d : α) (h : i ≠ j) : (l.set i v).getD j d = l.getD j d := by simp [List.getElem?_set_ne h]

/-- One device more. -/
theorem KerDv.step {w wa w3 : World} {im : Img} {vI : Value} {X M n D j gK cK : Nat} {mem : List Int} {xs : List (WardV × Value × Value)} {vQ v' : Value} {vD : List Value} (h : KerDv w im vI X M n D mem xs j vQ gK cK vD wa) (ko : Nat) (hko : ko < xs.length) (hj : im.ow.getD j 0 = (ko : Int)) (g cap : Nat)
    (hv' : v' = .slice (some ⟨g, 0, none⟩) ((devsOf im.ow ko j).length + 1) cap)
    (hown3 : w3.ownsRow w.heap.size 3 1 v' ((devsOf im.ow ko j).length + 1) ((devsOf im.ow ko j).map (Value.int .i64) ++ (#[.int .i64 (j : Int)] : Array Value).toList)) (hf : Fr (fun i => (vD.getD ko nilV).ownBlock = some i) wa w3) (hg : (vD.getD ko nilV).ownBlock = some g ∨ g = wa.heap.size) :
    KerDv w im vI X M n D mem xs (j + 1) vQ gK cK (vD.set ko v') (w3.setCell ⟨gK, ko * 15 + 14, none⟩ v') := by
  have hdk := h.dv ko hko
  have hvl := h.vl
  obtain ⟨cur, hc, hcv⟩ := h.hk
  have x3 := hf.getT hdk h.hx (by decide)
  have m3 := hf.getT hdk h.hm (by decide)
  have d3 := hf.getT hdk h.hd (by decide)
  have k3 := hf.getT hdk hc (by decide)
  have hgs : wa.heap.size ≤ g ∨ (vD.getD ko nilV).ownBlock = some g := by rcases hg with h | h; exact .inr h; exact .inl (by omega)
  have hown' : v'.ownBlock = some g := by rw [hv']; rfl
  refine ⟨set_other x3 (ne_of_ty x3 k3 (by decide)) _, set_other m3 (ne_of_ty m3 k3 (by decide)) _, set_other d3 (ne_of_ty d3 k3 (by decide)) _, ?_, ⟨cur.setIfInBounds (ko * 15 + 14) v', row_set k3 _ _, ?_⟩, by simp [hvl], ?_, ?_, ?_, ?_, h.x1, h.m1, h.g1, h.d1⟩
  · exact owns_setT (hf.owns h.hq (fun b hb hb' => h.dq ko hko b hb' hb)) k3 (by decide) _
  · intro k x hx c v hv
    obtain ⟨hkl, _⟩ := List.getElem?_eq_some_iff.1 hx
    have hcl : c < 15 := by
      have := (List.getElem?_eq_some_iff.1 hv).1
      simpa [kwD, stCells, st0] using this
    by_cases hkk : ko = k
    · subst hkk
      rw [getD_set_same _ _ _ _ (by omega)] at hv
      by_cases hc14 : c = 14
      · subst hc14
        have h1 : v = v' := by
          have : (kwD x v')[14]? = some v' := by simp [kwD, stCells, st0]
          rw [this] at hv
          exact (Option.some.inj hv).symm
        subst h1
        have hb : ko * 15 + 14 < cur.size := by
          obtain ⟨u, hu⟩ : ∃ u, (kwD x (vD.getD ko nilV))[14]? = some u := ⟨vD.getD ko nilV, by simp [kwD, stCells, st0]⟩
          exact (Array.getElem?_eq_some_iff.1 (hcv ko x hx 14 u hu)).1
        rw [Array.getElem?_setIfInBounds, if_pos rfl, if_pos hb]
      · have e1 := kwD_lt x v' (vD.getD ko nilV) c (by omega)
        rw [e1] at hv
        rw [Array.getElem?_setIfInBounds, if_neg (by omega)]
        exact hcv ko x hx c v hv
    · rw [getD_set_ne _ _ _ _ _ hkk] at hv
      rw [Array.getElem?_setIfInBounds, if_neg (by omega)]
      exact hcv k x hx c v hv
  · intro k hk
    rw [devsOf_succ]
    by_cases hkk : ko = k
    · subst hkk
      rw [getD_set_same _ _ _ _ (by omega), if_pos hj, List.length_append, List.map_append]
      exact owns_setT hown3 k3 (by decide) _
    · rw [getD_set_ne _ _ _ _ _ hkk, if_neg (by rw [hj]; omega)]
      exact owns_setT (hf.owns (h.dv k hk) (fun b hb hb' => h.dis ko k hko hk hkk b hb' hb)) k3 (by decide) _
  · intro k k' hk hk' hne b hb hb'
    have old : ∀ m, m < xs.length → m ≠ ko → (vD.getD m nilV).ownBlock ≠ some g := by
      intro m hm hmk e
      rcases hgs with h1 | h1
      · have := ((h.dv m hm).lt g e).2
        omega
      · exact h.dis ko m hko hm (fun e => hmk e.symm) g h1 e
    by_cases h1 : ko = k
    · subst h1
      rw [getD_set_same _ _ _ _ (by omega), hown'] at hb
      rw [getD_set_ne _ _ _ _ _ hne] at hb'
      cases hb
      exact old k' hk' (fun e => hne e.symm) hb'
    · rw [getD_set_ne _ _ _ _ _ h1] at hb
      by_cases h2 : ko = k'
      · subst h2
        rw [getD_set_same _ _ _ _ (by omega), hown'] at hb'
        cases hb'
        exact old k hk hne hb
      · rw [getD_set_ne _ _ _ _ _ h2] at hb'
        exact h.dis k k' hk hk' hne b hb hb'
  · intro k hk b hb hb'
    by_cases h1 : ko = k
    · subst h1
      rw [getD_set_same _ _ _ _ (by omega), hown'] at hb
      cases hb
      rcases hgs with h1 | h1
      · have := (h.hq.lt g hb').2
        omega
      · exact h.dq ko hko g h1 hb'
    · rw [getD_set_ne _ _ _ _ _ h1] at hb
      exact h.dq k hk b hb hb'
  · exact (h.fr.step hf (fun i hi => .inr (hdk.lt i hi).1)).setCell (.inr h.g1) _

end Go.Proofs.YthmcheoehcmglaaGreat
