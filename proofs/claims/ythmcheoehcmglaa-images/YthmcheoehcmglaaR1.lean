/- The reference's numbers and the program's reader: what each makes of the same bytes. -/
import Derived.Test.YthmcheoehcmglaaW12
namespace Go.Proofs.Ythmcheoehcmglaa
open Go.RowKit
set_option linter.unusedVariables false

/-- The reference's number: of n bytes of l, from c on; -1: they are not there. -/
def numL (l : List UInt8) (c n : Nat) : Int := if c + n ≤ l.length then be ((l.drop c).take n) else -1

theorem numL_drop (l : List UInt8) (i c n : Nat) (h : i ≤ l.length) : numL l (i + c) n = numL (l.drop i) c n := by
  unfold numL
  rw [List.length_drop, List.drop_drop]
  by_cases h1 : i + c + n ≤ l.length
  · rw [if_pos h1, if_pos (by omega)]
  · rw [if_neg h1, if_neg (by omega)]

theorem numL_bd (l : List UInt8) (c n : Nat) (hn : n ≤ 4) : -1 ≤ numL l c n ∧ numL l c n < 4294967296 ∧ (n ≤ 2 → numL l c n < 65536) ∧ (n ≤ 1 → numL l c n < 256) := by
  unfold numL
  split
  · rename_i h
    have := be_bd4 (l.drop c) n hn (by rw [List.length_drop]; omega)
    exact ⟨by omega, this.2.1, this.2.2.2.1, this.2.2.2.2⟩
  · exact ⟨by omega, by omega, by intro _; omega, by intro _; omega⟩

theorem numL_ok (l : List UInt8) (c n : Nat) (h : c + n ≤ l.length) : 0 ≤ numL l c n := by
  unfold numL
  rw [if_pos h]
  exact (be_bd_take (l.drop c) n (by rw [List.length_drop]; omega)).1
theorem numL_no (l : List UInt8) (c n : Nat) (h : ¬ c + n ≤ l.length) : numL l c n = -1 := by
  unfold numL
  rw [if_neg h]

theorem rdn_ok (n : Nat) (l : List UInt8) (h : n ≤ l.length) : rdn n l false = (numL l 0 n, l.drop n, false) := by
  unfold rdn numL
  rw [if_neg (by simp; omega), if_pos (by omega)]
  simp
theorem rdn_no (n : Nat) (l : List UInt8) (h : ¬ n ≤ l.length) : rdn n l false = (0, l, true) := by
  unfold rdn
  rw [if_pos (by right; omega)]

theorem wth_yes (lo hi v : Int) (h1 : lo ≤ v) (h2 : v ≤ hi) : wth lo hi v false = (v, false) := by
  unfold wth
  rw [if_neg (by simp; omega)]
theorem wth_no (lo hi v : Int) (bad : Bool) (h : bad = true ∨ v < lo ∨ hi < v) : wth lo hi v bad = (0, true) := by
  unfold wth
  rw [if_pos h]

/-- A region that is there. -/
def regGood (l : List UInt8) : Prop := 7 ≤ l.length ∧ 1 ≤ numL l 2 2 ∧ 1 ≤ numL l 6 1 ∧ numL l 6 1 ≤ 7

theorem rreg_good (l : List UInt8) (h : regGood l) : rreg l false = ((numL l 0 2, numL l 2 2, numL l 4 2, numL l 6 1), l.drop 7, false) := by
  obtain ⟨h7, h1, h2, h3⟩ := h
  have e2 : numL (l.drop 2) 0 2 = numL l 2 2 := by rw [← numL_drop l 2 0 2 (by omega)]
  have e4 : numL (l.drop 4) 0 2 = numL l 4 2 := by rw [← numL_drop l 4 0 2 (by omega)]
  have e6 : numL (l.drop 6) 0 1 = numL l 6 1 := by rw [← numL_drop l 6 0 1 (by omega)]
  have hb := (numL_bd l 2 2 (by omega)).2.2.1 (by omega)
  have s1 := rdn_ok 2 l (by omega)
  have s2 := rdn_ok 2 (l.drop 2) (by rw [List.length_drop]; omega)
  have s3 := rdn_ok 2 (l.drop 4) (by rw [List.length_drop]; omega)
  have s4 := rdn_ok 1 (l.drop 6) (by rw [List.length_drop]; omega)
  rw [List.drop_drop] at s2 s3 s4
  unfold rreg
  simp only [s1, s2, e2, wth_yes 1 65535 (numL l 2 2) h1 (by omega), s3, e4, s4, e6, wth_yes 1 7 (numL l 6 1) h2 h3]

theorem rreg_not (l : List UInt8) (h : ¬ regGood l) : (rreg l false).2.2 = true := by
  by_cases h7 : 7 ≤ l.length
  · have e2 : numL (l.drop 2) 0 2 = numL l 2 2 := by rw [← numL_drop l 2 0 2 (by omega)]
    have e6 : numL (l.drop 6) 0 1 = numL l 6 1 := by rw [← numL_drop l 6 0 1 (by omega)]
    have s1 := rdn_ok 2 l (by omega)
    have s2 := rdn_ok 2 (l.drop 2) (by rw [List.length_drop]; omega)
    have s3 := rdn_ok 2 (l.drop 4) (by rw [List.length_drop]; omega)
    have s4 := rdn_ok 1 (l.drop 6) (by rw [List.length_drop]; omega)
    rw [List.drop_drop] at s2 s3 s4
    unfold rreg
    by_cases h1 : 1 ≤ numL l 2 2
    · have hb := (numL_bd l 2 2 (by omega)).2.2.1 (by omega)
      simp only [s1, s2, e2, wth_yes 1 65535 (numL l 2 2) h1 (by omega), s3, s4, e6]
      rw [wth_no _ _ _ _ (by unfold regGood at h; omega)]
    · simp only [s1, s2, e2, wth_no 1 65535 (numL l 2 2) false (by omega)]
      simp [wth_bad, rdn_bad]
  · unfold rreg
    by_cases h2 : 2 ≤ l.length
    · by_cases h4 : 4 ≤ l.length
      · have s1 := rdn_ok 2 l (by omega)
        have s2 := rdn_ok 2 (l.drop 2) (by rw [List.length_drop]; omega)
        rw [List.drop_drop] at s2
        simp only [s1, s2]
        by_cases hv : 1 ≤ numL (l.drop 2) 0 2
        · have hb := (numL_bd (l.drop 2) 0 2 (by omega)).2.2.1 (by omega)
          simp only [wth_yes 1 65535 _ hv (by omega)]
          by_cases h6 : 6 ≤ l.length
          · have s3 := rdn_ok 2 (l.drop 4) (by rw [List.length_drop]; omega)
            rw [List.drop_drop] at s3
            simp only [s3]
            rw [rdn_no 1 _ (by rw [List.length_drop]; omega)]
            simp [wth_bad]
          · rw [rdn_no 2 _ (by rw [List.length_drop]; omega)]
            simp [wth_bad, rdn_bad]
        · rw [wth_no 1 65535 _ _ (by omega)]
          simp [wth_bad, rdn_bad]
      · simp only [rdn_ok 2 l h2]
        rw [rdn_no 2 _ (by rw [List.length_drop]; omega)]
        simp [wth_bad, rdn_bad]
    · rw [rdn_no 2 l h2]
      simp [wth_bad, rdn_bad]

/-- A ward's head that is there. -/
def headGood (l : List UInt8) : Prop := 4 ≤ l.length ∧ 1 ≤ numL l 0 1 ∧ numL l 0 1 ≤ 64 ∧ 1 ≤ numL l 1 1 ∧ numL l 1 1 ≤ 3

theorem whead_good (l : List UInt8) (h : headGood l) : whead l false = ((numL l 0 1, numL l 1 1, numL l 2 2), l.drop 4, false) := by
  obtain ⟨h4, h1, h2, h3, h5⟩ := h
  have e1 : numL (l.drop 1) 0 1 = numL l 1 1 := by rw [← numL_drop l 1 0 1 (by omega)]
  have e2 : numL (l.drop 2) 0 2 = numL l 2 2 := by rw [← numL_drop l 2 0 2 (by omega)]
  have s1 := rdn_ok 1 l (by omega)
  have s2 := rdn_ok 1 (l.drop 1) (by rw [List.length_drop]; omega)
  have s3 := rdn_ok 2 (l.drop 2) (by rw [List.length_drop]; omega)
  rw [List.drop_drop] at s2 s3
  unfold whead
  simp only [s1, wth_yes 1 64 _ h1 h2, s2, e1, wth_yes 1 3 _ h3 h5, s3, e2]

theorem whead_not (l : List UInt8) (h : ¬ headGood l) : (whead l false).2.2 = true := by
  unfold whead
  by_cases h1 : 1 ≤ l.length
  · simp only [rdn_ok 1 l h1]
    by_cases hq : 1 ≤ numL l 0 1 ∧ numL l 0 1 ≤ 64
    · simp only [wth_yes 1 64 _ hq.1 hq.2]
      by_cases h2 : 2 ≤ l.length
      · have e1 : numL (l.drop 1) 0 1 = numL l 1 1 := by rw [← numL_drop l 1 0 1 (by omega)]
        have s2 := rdn_ok 1 (l.drop 1) (by rw [List.length_drop]; omega)
        rw [List.drop_drop] at s2
        simp only [s2, e1]
        by_cases hn : 1 ≤ numL l 1 1 ∧ numL l 1 1 ≤ 3
        · simp only [wth_yes 1 3 _ hn.1 hn.2]
          rw [rdn_no 2 _ (by rw [List.length_drop]; unfold headGood at h; omega)]
        · rw [wth_no 1 3 _ _ (by omega)]
          simp [rdn_bad]
      · rw [rdn_no 1 (l.drop 1) (by rw [List.length_drop]; omega)]
        simp [wth_bad, rdn_bad]
    · rw [wth_no 1 64 _ _ (by omega)]
      simp [wth_bad, rdn_bad]
  · rw [rdn_no 1 l h1]
    simp [wth_bad, rdn_bad]

/-- Bad stays bad. -/
theorem regsN_mono (l : List UInt8) (b : Bool) (k : Nat) (h : (regsN k l b).2.2 = true) : ∀ j, (regsN (k + j) l b).2.2 = true := by
  intro j
  induction j with
  | zero => exact h
  | succ j ih =>
    show (rreg (regsN (k + j) l b).2.1 (regsN (k + j) l b).2.2).2.2 = true
    rw [ih]
    exact rreg_bad _
theorem wordsN_mono (l : List UInt8) (b : Bool) (k : Nat) (h : (wordsN k l b).2.2 = true) : ∀ j, (wordsN (k + j) l b).2.2 = true := by
  intro j
  induction j with
  | zero => exact h
  | succ j ih =>
    show (rdn 4 (wordsN (k + j) l b).2.1 (wordsN (k + j) l b).2.2).2.2 = true
    rw [ih]
    exact rdn_bad _ _

/-- While nothing is bad, the regions take 7 bytes each. -/
theorem regsN_drop (l : List UInt8) : ∀ k, (regsN k l false).2.2 = false → (regsN k l false).2.1 = l.drop (7 * k) ∧ 7 * k ≤ l.length := by
  intro k
  induction k with
  | zero => intro _; simp [regsN]
  | succ k ih =>
    intro h
    have hk : (regsN k l false).2.2 = false := by
      cases hb : (regsN k l false).2.2
      · rfl
      · have := regsN_mono l false k hb 1
        rw [this] at h
        cases h
    obtain ⟨h1, h2⟩ := ih hk
    have hs : (rreg (l.drop (7 * k)) false).2.2 = false := by
      have : (rreg (regsN k l false).2.1 (regsN k l false).2.2).2.2 = false := h
      rwa [hk, h1] at this
    have hg : regGood (l.drop (7 * k)) := by
      by_cases hg : regGood (l.drop (7 * k))
      · exact hg
      · rw [rreg_not _ hg] at hs; cases hs
    have he : (regsN (k + 1) l false).2.1 = (rreg (regsN k l false).2.1 (regsN k l false).2.2).2.1 := rfl
    rw [he, hk, h1, rreg_good _ hg, List.drop_drop]
    have := hg.1
    rw [List.length_drop] at this
    exact ⟨by congr 1, by omega⟩
theorem wordsN_drop (l : List UInt8) : ∀ k, (wordsN k l false).2.2 = false → (wordsN k l false).2.1 = l.drop (4 * k) ∧ 4 * k ≤ l.length := by
  intro k
  induction k with
  | zero => intro _; simp [wordsN]
  | succ k ih =>
    intro h
    have hk : (wordsN k l false).2.2 = false := by
      cases hb : (wordsN k l false).2.2
      · rfl
      · have := wordsN_mono l false k hb 1
        rw [this] at h
        cases h
    obtain ⟨h1, h2⟩ := ih hk
    have hs : (rdn 4 (l.drop (4 * k)) false).2.2 = false := by
      have : (rdn 4 (wordsN k l false).2.1 (wordsN k l false).2.2).2.2 = false := h
      rwa [hk, h1] at this
    have hg : 4 ≤ (l.drop (4 * k)).length := by
      by_cases hg : 4 ≤ (l.drop (4 * k)).length
      · exact hg
      · rw [rdn_no _ _ hg] at hs; cases hs
    have he : (wordsN (k + 1) l false).2.1 = (rdn 4 (wordsN k l false).2.1 (wordsN k l false).2.2).2.1 := rfl
    rw [he, hk, h1, rdn_ok _ _ hg, List.drop_drop]
    rw [List.length_drop] at hg
    exact ⟨by congr 1, by omega⟩

end Go.Proofs.Ythmcheoehcmglaa
