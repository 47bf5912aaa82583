/- When the reader's ward is bad, and what it is when it isn't. -/
import Derived.Test.YthmcheoehcmglaaR1
namespace Go.Proofs.Ythmcheoehcmglaa
open Go.RowKit
set_option linter.unusedVariables false

theorem wtail_bad (q bg : Int) (n : Nat) (l : List UInt8) (bad : Bool) (h : (regsN n l bad).2.2 = true) : (wtail q bg n l bad).2.2 = true := by
  unfold wtail
  rw [if_pos h]
  exact h

theorem rw_head (l : List UInt8) (h : ¬ headGood l) : (rward l false).2.2 = true := by
  unfold rward
  rw [whead_not l h]
  exact wtail_bad _ _ _ _ _ (regsN_bad _ _)

theorem rw_eq (l : List UInt8) (h : headGood l) : rward l false = wtail (numL l 0 1) (numL l 2 2) (numL l 1 1).toNat (l.drop 4) false := by
  unfold rward
  rw [whead_good l h]

theorem rw_reg (l : List UInt8) (h : headGood l) (k : Nat) (hk : k < (numL l 1 1).toNat) (hok : (regsN k (l.drop 4) false).2.2 = false) (hb : ¬ regGood (l.drop (4 + 7 * k))) : (rward l false).2.2 = true := by
  rw [rw_eq l h]
  refine wtail_bad _ _ _ _ _ ?_
  obtain ⟨h1, _⟩ := regsN_drop (l.drop 4) k hok
  have h2 : (regsN (k + 1) (l.drop 4) false).2.2 = true := by
    show (rreg (regsN k (l.drop 4) false).2.1 (regsN k (l.drop 4) false).2.2).2.2 = true
    rw [hok, h1, List.drop_drop]
    exact rreg_not _ hb
  have := regsN_mono (l.drop 4) false (k + 1) h2 ((numL l 1 1).toNat - (k + 1))
  rwa [show k + 1 + ((numL l 1 1).toNat - (k + 1)) = (numL l 1 1).toNat by omega] at this

/-- What stands behind the regions. -/
theorem rw_eq2 (l : List UInt8) (h : headGood l) (hok : (regsN (numL l 1 1).toNat (l.drop 4) false).2.2 = false) :
    rward l false = (⟨numL l 0 1, numL l 2 2, (regsN (numL l 1 1).toNat (l.drop 4) false).1, (wordsN (wth 0 (firstWords (regsN (numL l 1 1).toNat (l.drop 4) false).1) (rdn 2 (l.drop (4 + 7 * (numL l 1 1).toNat)) false).1 (rdn 2 (l.drop (4 + 7 * (numL l 1 1).toNat)) false).2.2).1.toNat (rdn 2 (l.drop (4 + 7 * (numL l 1 1).toNat)) false).2.1 (wth 0 (firstWords (regsN (numL l 1 1).toNat (l.drop 4) false).1) (rdn 2 (l.drop (4 + 7 * (numL l 1 1).toNat)) false).1 (rdn 2 (l.drop (4 + 7 * (numL l 1 1).toNat)) false).2.2).2).1⟩,
      (wordsN (wth 0 (firstWords (regsN (numL l 1 1).toNat (l.drop 4) false).1) (rdn 2 (l.drop (4 + 7 * (numL l 1 1).toNat)) false).1 (rdn 2 (l.drop (4 + 7 * (numL l 1 1).toNat)) false).2.2).1.toNat (rdn 2 (l.drop (4 + 7 * (numL l 1 1).toNat)) false).2.1 (wth 0 (firstWords (regsN (numL l 1 1).toNat (l.drop 4) false).1) (rdn 2 (l.drop (4 + 7 * (numL l 1 1).toNat)) false).1 (rdn 2 (l.drop (4 + 7 * (numL l 1 1).toNat)) false).2.2).2).2) := by
  rw [rw_eq l h]
  obtain ⟨h1, _⟩ := regsN_drop (l.drop 4) _ hok
  unfold wtail
  rw [if_neg (by rw [hok]; simp), h1, List.drop_drop]

theorem rw_cnt (l : List UInt8) (h : headGood l) (hok : (regsN (numL l 1 1).toNat (l.drop 4) false).2.2 = false)
    (hb : ¬ (2 ≤ (l.drop (4 + 7 * (numL l 1 1).toNat)).length ∧ numL l (4 + 7 * (numL l 1 1).toNat) 2 ≤ firstWords (regsN (numL l 1 1).toNat (l.drop 4) false).1)) (hl : 4 + 7 * (numL l 1 1).toNat ≤ l.length) : (rward l false).2.2 = true := by
  rw [rw_eq2 l h hok]
  generalize (numL l 1 1).toNat = n at *
  generalize firstWords (regsN n (l.drop 4) false).1 = fw at *
  have e : numL (l.drop (4 + 7 * n)) 0 2 = numL l (4 + 7 * n) 2 := by rw [← numL_drop l (4 + 7 * n) 0 2 hl, Nat.add_zero]
  show (wordsN _ _ _).2.2 = true
  by_cases h2 : 2 ≤ (l.drop (4 + 7 * n)).length
  · have h0 := numL_ok l (4 + 7 * n) 2 (by rw [List.length_drop] at h2; omega)
    simp only [rdn_ok 2 _ h2, e]
    rw [wth_no _ _ _ _ (by omega)]
    exact wordsN_bad _ _
  · simp only [rdn_no 2 _ h2]
    rw [wth_no _ _ _ _ (by simp)]
    exact wordsN_bad _ _

theorem rw_eq3 (l : List UInt8) (h : headGood l) (n m : Nat) (hn : (numL l 1 1).toNat = n) (hok : (regsN n (l.drop 4) false).2.2 = false) (hl : 4 + 7 * n + 2 ≤ l.length) (hm : numL l (4 + 7 * n) 2 = (m : Int)) (hmf : (m : Int) ≤ firstWords (regsN n (l.drop 4) false).1) :
    rward l false = (⟨numL l 0 1, numL l 2 2, (regsN n (l.drop 4) false).1, (wordsN m (l.drop (4 + 7 * n + 2)) false).1⟩, (wordsN m (l.drop (4 + 7 * n + 2)) false).2) := by
  subst hn
  rw [rw_eq2 l h hok]
  generalize (numL l 1 1).toNat = n at *
  have e : numL (l.drop (4 + 7 * n)) 0 2 = numL l (4 + 7 * n) 2 := by rw [← numL_drop l (4 + 7 * n) 0 2 (by omega), Nat.add_zero]
  simp only [rdn_ok 2 (l.drop (4 + 7 * n)) (by rw [List.length_drop]; omega), e, hm, wth_yes 0 _ (m : Int) (by omega) hmf, List.drop_drop, Int.toNat_natCast]

theorem rw_word (l : List UInt8) (h : headGood l) (n m : Nat) (hn : (numL l 1 1).toNat = n) (hok : (regsN n (l.drop 4) false).2.2 = false) (hl : 4 + 7 * n + 2 ≤ l.length) (hm : numL l (4 + 7 * n) 2 = (m : Int)) (hmf : (m : Int) ≤ firstWords (regsN n (l.drop 4) false).1)
    (j : Nat) (hj : j < m) (hw : (wordsN j (l.drop (4 + 7 * n + 2)) false).2.2 = false) (hb : ¬ 4 + 7 * n + 2 + 4 * j + 4 ≤ l.length) : (rward l false).2.2 = true := by
  rw [rw_eq3 l h n m hn hok hl hm hmf]
  show (wordsN m (l.drop (4 + 7 * n + 2)) false).2.2 = true
  obtain ⟨h1, _⟩ := wordsN_drop _ j hw
  have h2 : (wordsN (j + 1) (l.drop (4 + 7 * n + 2)) false).2.2 = true := by
    show (rdn 4 (wordsN j (l.drop (4 + 7 * n + 2)) false).2.1 (wordsN j (l.drop (4 + 7 * n + 2)) false).2.2).2.2 = true
    rw [hw, h1, List.drop_drop, rdn_no 4 _ (by rw [List.length_drop]; omega)]
  have := wordsN_mono _ false (j + 1) h2 (m - (j + 1))
  rwa [show j + 1 + (m - (j + 1)) = m by omega] at this

theorem regsN_step (l : List UInt8) (k : Nat) (hok : (regsN k l false).2.2 = false) (hg : regGood (l.drop (7 * k))) :
    regsN (k + 1) l false = ((regsN k l false).1 ++ [(numL (l.drop (7 * k)) 0 2, numL (l.drop (7 * k)) 2 2, numL (l.drop (7 * k)) 4 2, numL (l.drop (7 * k)) 6 1)], l.drop (7 * (k + 1)), false) := by
  obtain ⟨h1, _⟩ := regsN_drop l k hok
  simp only [regsN]
  rw [hok, h1, rreg_good _ hg, List.drop_drop]
  rfl
theorem wordsN_step (l : List UInt8) (k : Nat) (hok : (wordsN k l false).2.2 = false) (hg : 4 * k + 4 ≤ l.length) :
    wordsN (k + 1) l false = ((wordsN k l false).1 ++ [numL l (4 * k) 4], l.drop (4 * (k + 1)), false) := by
  obtain ⟨h1, h2⟩ := wordsN_drop l k hok
  simp only [wordsN]
  rw [hok, h1, rdn_ok 4 _ (by rw [List.length_drop]; omega), List.drop_drop, ← numL_drop l (4 * k) 0 4 h2]
  rfl

end Go.Proofs.Ythmcheoehcmglaa
