/- What the bytes of an image say, as the reference reads them. -/
import Derived.Test.YthmcheoehcmglaaM1
namespace Go.Proofs.Ythmcheoehcmglaa
open Go.RowKit
set_option linter.unusedVariables false

theorem rw_take (l : List UInt8) (h : (rward l false).2.2 = false) : ∃ d, d ≤ 300000 ∧ d ≤ l.length ∧ (rward l false).2.1 = l.drop d := by
  by_cases hg : headGood l
  · have hn1 := hg.2.2.2.1
    have hn2 := hg.2.2.2.2
    obtain ⟨n, hn⟩ := Int.eq_ofNat_of_zero_le (show 0 ≤ numL l 1 1 by omega)
    have hnt : (numL l 1 1).toNat = n := by omega
    cases hr : (regsN n (l.drop 4) false).2.2 with
    | true =>
      have : (rward l false).2.2 = true := by rw [rw_eq l hg, hnt]; exact wtail_bad _ _ _ _ _ hr
      rw [this] at h; cases h
    | false =>
      obtain ⟨hd1, hd2⟩ := regsN_drop (l.drop 4) n hr
      rw [List.length_drop] at hd2
      have h4 := hg.1
      by_cases hc : 2 ≤ (l.drop (4 + 7 * n)).length ∧ numL l (4 + 7 * n) 2 ≤ firstWords (regsN n (l.drop 4) false).1
      · rw [List.length_drop] at hc
        have hc0 := numL_ok l (4 + 7 * n) 2 (by omega)
        have hcb := (numL_bd l (4 + 7 * n) 2 (by omega)).2.2.1 (by omega)
        obtain ⟨m, hm⟩ := Int.eq_ofNat_of_zero_le hc0
        have e := rw_eq3 l hg n m hnt hr (by omega) hm (by omega)
        rw [e] at h ⊢
        simp only at h ⊢
        obtain ⟨w1, w2⟩ := wordsN_drop _ m h
        rw [w1, List.drop_drop]
        rw [List.length_drop] at w2
        exact ⟨4 + 7 * n + 2 + 4 * m, by omega, by omega, rfl⟩
      · have := rw_cnt l hg (by rw [hnt]; exact hr) (by rw [hnt]; exact hc) (by rw [hnt]; omega)
        rw [this] at h; cases h
  · rw [rw_head l hg] at h; cases h

theorem rward_bad (l : List UInt8) : (rward l true).2.2 = true := by
  cases h : (rward l true).2.2 with
  | true => rfl
  | false => have := (rward_inv l true h).1; cases this

theorem wardsN_mono (l : List UInt8) (b : Bool) (k : Nat) (h : (wardsN k l b).2.2 = true) : ∀ j, (wardsN (k + j) l b).2.2 = true := by
  intro j
  induction j with
  | zero => exact h
  | succ j ih =>
    show (rward (wardsN (k + j) l b).2.1 (wardsN (k + j) l b).2.2).2.2 = true
    rw [ih]
    exact rward_bad _

theorem wardsN_at (l : List UInt8) : ∀ k, (wardsN k l false).2.2 = false → ∃ d, d ≤ 300000 * k ∧ d ≤ l.length ∧ (wardsN k l false).2.1 = l.drop d := by
  intro k
  induction k with
  | zero => intro _; exact ⟨0, by omega, by omega, by simp [wardsN]⟩
  | succ k ih =>
    intro h
    have hk : (wardsN k l false).2.2 = false := by
      cases hb : (wardsN k l false).2.2
      · rfl
      · have := wardsN_mono l false k hb 1
        rw [this] at h
        cases h
    obtain ⟨d, h1, h2, h3⟩ := ih hk
    have hs : (rward (wardsN k l false).2.1 (wardsN k l false).2.2).2.2 = false := h
    rw [hk, h3] at hs
    obtain ⟨d', g1, g2, g3⟩ := rw_take _ hs
    rw [List.length_drop] at g2
    refine ⟨d + d', by omega, by omega, ?_⟩
    show (rward (wardsN k l false).2.1 (wardsN k l false).2.2).2.1 = _
    rw [hk, h3, g3, List.drop_drop]

theorem numL_at (l : List UInt8) (c i n : Nat) (hc : c ≤ l.length) : numL (l.drop c) i n = numL l (c + i) n := (numL_drop l c i n hc).symm

theorem wiresN_ok (l : List UInt8) : ∀ k, 2 * k ≤ l.length → wiresN k l false = ((List.range k).map (fun j => (numL l (2 * j) 1, numL l (2 * j + 1) 1)), l.drop (2 * k), false) := by
  intro k
  induction k with
  | zero => intro _; simp [wiresN]
  | succ k ih =>
    intro h
    have e := ih (by omega)
    simp only [wiresN, e, rwire]
    have h1 := rdn_ok 1 (l.drop (2 * k)) (by rw [List.length_drop]; omega)
    have h2 := rdn_ok 1 (l.drop (2 * k + 1)) (by rw [List.length_drop]; omega)
    rw [List.drop_drop] at h1 h2
    simp only [h1, h2, numL_at l (2 * k) 0 1 (by omega), numL_at l (2 * k + 1) 0 1 (by omega), List.range_succ, List.map_append, List.map_cons, List.map_nil]
    rfl
theorem wiresN_mono (l : List UInt8) (b : Bool) (k : Nat) (h : (wiresN k l b).2.2 = true) : ∀ j, (wiresN (k + j) l b).2.2 = true := by
  intro j
  induction j with
  | zero => exact h
  | succ j ih =>
    show (rwire (wiresN (k + j) l b).2.1 (wiresN (k + j) l b).2.2).2.2 = true
    rw [ih]
    simp [rwire, rdn_bad]
theorem wiresN_short (l : List UInt8) (k : Nat) (h : ¬ 2 * k ≤ l.length) : (wiresN k l false).2.2 = true := by
  have e := wiresN_ok l (l.length / 2) (by omega)
  have h1 : (wiresN (l.length / 2 + 1) l false).2.2 = true := by
    simp only [wiresN, e, rwire]
    by_cases hp : l.length % 2 = 0
    · rw [rdn_no 1 (l.drop (2 * (l.length / 2))) (by rw [List.length_drop]; omega)]
      simp [rdn_bad]
    · rw [rdn_ok 1 (l.drop (2 * (l.length / 2))) (by rw [List.length_drop]; omega)]
      simp only
      rw [rdn_no 1 _ (by rw [List.length_drop, List.length_drop]; omega)]
  have := wiresN_mono l false _ h1 (k - (l.length / 2 + 1))
  rwa [show l.length / 2 + 1 + (k - (l.length / 2 + 1)) = k by omega] at this
theorem ownersN_ok' (l : List UInt8) : ∀ k, k ≤ l.length → ownersN k l false = ((List.range k).map (fun j => numL l j 1), l.drop k, false) := by
  intro k
  induction k with
  | zero => intro _; simp [ownersN]
  | succ k ih =>
    intro h
    have e := ih (by omega)
    have h1 := rdn_ok 1 (l.drop k) (by rw [List.length_drop]; omega)
    rw [List.drop_drop] at h1
    simp only [ownersN, e, h1, numL_at l k 0 1 (by omega), List.range_succ, List.map_append, List.map_cons, List.map_nil]
    rfl
theorem ownersN_mono (l : List UInt8) (b : Bool) (k : Nat) (h : (ownersN k l b).2.2 = true) : ∀ j, (ownersN (k + j) l b).2.2 = true := by
  intro j
  induction j with
  | zero => exact h
  | succ j ih =>
    show (rdn 1 (ownersN (k + j) l b).2.1 (ownersN (k + j) l b).2.2).2.2 = true
    rw [ih]
    exact rdn_bad _ _
theorem ownersN_short (l : List UInt8) (k : Nat) (h : ¬ k ≤ l.length) : (ownersN k l false).2.2 = true := by
  have e := ownersN_ok' l l.length (by omega)
  have h1 : (ownersN (l.length + 1) l false).2.2 = true := by
    simp only [ownersN, e]
    rw [rdn_no 1 _ (by simp)]
  have := ownersN_mono l false _ h1 (k - (l.length + 1))
  rwa [show l.length + 1 + (k - (l.length + 1)) = k by omega] at this

theorem rimg_head (l : List UInt8) (h : ¬ HeadI l) : (rimg l).2 = false := by
  have hb : (rhead l).2.2 = true := by
    cases e : (rhead l).2.2 with
    | true => rfl
    | false => exact absurd (rhead_inv l e) h
  unfold rimg
  simp only [hb]
  cases e : (ownersN (rhead l).1.2.2.2.2.toNat (wiresN (rhead l).1.2.2.2.1.toNat (wardsN (rhead l).1.1.toNat (rhead l).2.1 true).2.1 (wardsN (rhead l).1.1.toNat (rhead l).2.1 true).2.2).2.1 (wiresN (rhead l).1.2.2.2.1.toNat (wardsN (rhead l).1.1.toNat (rhead l).2.1 true).2.1 (wardsN (rhead l).1.1.toNat (rhead l).2.1 true).2.2).2.2).2.2 with
  | true => simp
  | false =>
    have := (wardsN_inv _ _ _ (wiresN_inv _ _ _ (ownersN_inv _ _ _ e))).1
    cases this

theorem rimg_wards (l : List UInt8) (h : HeadI l) (k : Nat) (hk : k ≤ (numL l 0 1).toNat) (hb : (wardsN k (l.drop 6) false).2.2 = true) : (rimg l).2 = false := by
  have hn := wardsN_mono (l.drop 6) false k hb ((numL l 0 1).toNat - k)
  rw [show k + ((numL l 0 1).toNat - k) = (numL l 0 1).toNat by omega] at hn
  unfold rimg
  rw [rhead_good l h]
  simp only
  cases e : (ownersN (numL l 5 1).toNat (wiresN (numL l 4 1).toNat (wardsN (numL l 0 1).toNat (l.drop 6) false).2.1 (wardsN (numL l 0 1).toNat (l.drop 6) false).2.2).2.1 (wiresN (numL l 4 1).toNat (wardsN (numL l 0 1).toNat (l.drop 6) false).2.1 (wardsN (numL l 0 1).toNat (l.drop 6) false).2.2).2.2).2.2 with
  | true => simp
  | false =>
    have := wiresN_inv _ _ _ (ownersN_inv _ _ _ e)
    rw [hn] at this
    cases this

theorem rimg_tail (l : List UInt8) (h : HeadI l) (c nw nd : Nat) (hnw : numL l 4 1 = nw) (hnd : numL l 5 1 = nd) (hc : c ≤ l.length) (hb : (wardsN (numL l 0 1).toNat (l.drop 6) false).2 = (l.drop c, false)) :
    (c + 2 * nw + nd = l.length → rimg l = (⟨numL l 1 1, numL l 2 2, (wardsN (numL l 0 1).toNat (l.drop 6) false).1, (List.range nw).map (fun j => (numL l (c + 2 * j) 1, numL l (c + 2 * j + 1) 1)), (List.range nd).map (fun j => numL l (c + 2 * nw + j) 1)⟩, true)) ∧
    (¬ c + 2 * nw + nd = l.length → (rimg l).2 = false) := by
  have e0 : rimg l = (⟨numL l 1 1, numL l 2 2, (wardsN (numL l 0 1).toNat (l.drop 6) false).1, (wiresN nw (l.drop c) false).1, (ownersN nd (wiresN nw (l.drop c) false).2.1 (wiresN nw (l.drop c) false).2.2).1⟩,
      !(ownersN nd (wiresN nw (l.drop c) false).2.1 (wiresN nw (l.drop c) false).2.2).2.2 && (ownersN nd (wiresN nw (l.drop c) false).2.1 (wiresN nw (l.drop c) false).2.2).2.1.isEmpty) := by
    unfold rimg
    rw [rhead_good l h]
    simp only [hb, hnw, hnd, Int.toNat_natCast]
  rw [e0]
  by_cases h1 : 2 * nw ≤ l.length - c
  · have w1 := wiresN_ok (l.drop c) nw (by rw [List.length_drop]; exact h1)
    simp only [w1, List.drop_drop]
    by_cases h2 : nd ≤ l.length - (c + 2 * nw)
    · have o1 := ownersN_ok' (l.drop (c + 2 * nw)) nd (by rw [List.length_drop]; exact h2)
      simp only [o1, List.drop_drop]
      constructor
      · intro he
        refine Prod.ext ?_ ?_
        · simp only [Img.mk.injEq, true_and]
          refine ⟨?_, ?_⟩
          · apply List.map_congr_left
            intro j hj
            rw [numL_at l c _ _ hc, numL_at l c _ _ hc]
            rfl
          · apply List.map_congr_left
            intro j hj
            rw [numL_at l (c + 2 * nw) _ _ (by omega)]
        · simp
          omega
      · intro he
        simp
        omega
    · have o1 := ownersN_short (l.drop (c + 2 * nw)) nd (by rw [List.length_drop]; exact h2)
      exact ⟨fun he => by omega, fun _ => by simp [o1]⟩
  · have w1 := wiresN_short (l.drop c) nw (by rw [List.length_drop]; exact h1)
    refine ⟨fun he => by omega, fun _ => ?_⟩
    cases e : (ownersN nd (wiresN nw (l.drop c) false).2.1 (wiresN nw (l.drop c) false).2.2).2.2 with
    | true => simp
    | false =>
      have := ownersN_inv _ _ _ e
      rw [w1] at this
      cases this

theorem numL_byte (l : List UInt8) (i : Nat) (b : UInt8) (h : l[i]? = some b) : numL l i 1 = (b.toNat : Int) := by
  have hi : i < l.length := (List.getElem?_eq_some_iff.1 h).1
  have e := (List.getElem?_eq_some_iff.1 h).2
  unfold numL
  rw [if_pos (by omega), List.drop_eq_getElem_cons hi, e]
  simp [be]

end Go.Proofs.Ythmcheoehcmglaa
