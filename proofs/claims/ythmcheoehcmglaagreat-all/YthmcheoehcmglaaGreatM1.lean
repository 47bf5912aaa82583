/- An image that is read and checked: what its wards are, and that a machine can be made of it. -/
import Derived.Test.YthmcheoehcmglaaGreatW15b
import Derived.Test.YthmcheoehcmglaaGreatW15
namespace Go.Proofs.YthmcheoehcmglaaGreat
open Go.RowKit
set_option linter.unusedVariables false

theorem rdn_inv (n : Nat) (l : List UInt8) (b : Bool) (h : (rdn n l b).2.2 = false) : b = false ∧ n ≤ l.length := by
  unfold rdn at h
  split at h
  · cases h
  · rename_i hc
    cases b
    · simp at hc; exact ⟨rfl, hc⟩
    · simp at hc

/-- The head of an image that is there. -/
structure HeadI (l : List UInt8) : Prop where
  len : 6 ≤ l.length
  n1 : 1 ≤ numL l 0 1
  n2 : numL l 0 1 ≤ 4
  g1 : 1 ≤ numL l 1 1
  g2 : numL l 1 1 ≤ 16
  m1 : 64 ≤ numL l 2 2
  m2 : numL l 2 2 ≤ 1024
  w1 : 0 ≤ numL l 4 1
  w2 : numL l 4 1 ≤ 8
  d1 : 0 ≤ numL l 5 1
  d2 : numL l 5 1 ≤ 8

theorem rhead_good (l : List UInt8) (h : HeadI l) : rhead l = ((numL l 0 1, numL l 1 1, numL l 2 2, numL l 4 1, numL l 5 1), l.drop 6, false) := by
  have hl := h.len
  have e1 : numL (l.drop 1) 0 1 = numL l 1 1 := by rw [← numL_drop l 1 0 1 (by omega)]
  have e2 : numL (l.drop 2) 0 2 = numL l 2 2 := by rw [← numL_drop l 2 0 2 (by omega)]
  have e4 : numL (l.drop 4) 0 1 = numL l 4 1 := by rw [← numL_drop l 4 0 1 (by omega)]
  have e5 : numL (l.drop 5) 0 1 = numL l 5 1 := by rw [← numL_drop l 5 0 1 (by omega)]
  have s0 := rdn_ok 1 l (by omega)
  have s1 := rdn_ok 1 (l.drop 1) (by rw [List.length_drop]; omega)
  have s2 := rdn_ok 2 (l.drop 2) (by rw [List.length_drop]; omega)
  have s4 := rdn_ok 1 (l.drop 4) (by rw [List.length_drop]; omega)
  have s5 := rdn_ok 1 (l.drop 5) (by rw [List.length_drop]; omega)
  rw [List.drop_drop] at s1 s2 s4 s5
  unfold rhead
  simp only [s0, wth_yes 1 4 _ h.n1 h.n2, s1, e1, wth_yes 1 16 _ h.g1 h.g2, s2, e2, wth_yes 64 1024 _ h.m1 h.m2, s4, e4, wth_yes 0 8 _ h.w1 h.w2, s5, e5, wth_yes 0 8 _ h.d1 h.d2]

theorem rhead_inv (l : List UInt8) (h : (rhead l).2.2 = false) : HeadI l := by
  unfold rhead at h
  simp only at h
  generalize hx1 : rdn 1 l false = x1 at h
  generalize hx2 : wth 1 4 x1.1 x1.2.2 = x2 at h
  generalize hx3 : rdn 1 x1.2.1 x2.2 = x3 at h
  generalize hx4 : wth 1 16 x3.1 x3.2.2 = x4 at h
  generalize hx5 : rdn 2 x3.2.1 x4.2 = x5 at h
  generalize hx6 : wth 64 1024 x5.1 x5.2.2 = x6 at h
  generalize hx7 : rdn 1 x5.2.1 x6.2 = x7 at h
  generalize hx8 : wth 0 8 x7.1 x7.2.2 = x8 at h
  generalize hx9 : rdn 1 x7.2.1 x8.2 = x9 at h
  have a10 := wth_ok 0 8 x9.1 x9.2.2 h
  have a9 := rdn_inv 1 x7.2.1 x8.2 (by rw [hx9]; exact a10.1)
  have a8 := wth_ok 0 8 x7.1 x7.2.2 (by rw [hx8]; exact a9.1)
  have a7 := rdn_inv 1 x5.2.1 x6.2 (by rw [hx7]; exact a8.1)
  have a6 := wth_ok 64 1024 x5.1 x5.2.2 (by rw [hx6]; exact a7.1)
  have a5 := rdn_inv 2 x3.2.1 x4.2 (by rw [hx5]; exact a6.1)
  have a4 := wth_ok 1 16 x3.1 x3.2.2 (by rw [hx4]; exact a5.1)
  have a3 := rdn_inv 1 x1.2.1 x2.2 (by rw [hx3]; exact a4.1)
  have a2 := wth_ok 1 4 x1.1 x1.2.2 (by rw [hx2]; exact a3.1)
  have a1 := rdn_inv 1 l false (by rw [hx1]; exact a2.1)
  have e1 : x1 = (numL l 0 1, l.drop 1, false) := by rw [← hx1, rdn_ok 1 l a1.2]
  have e3 : x3 = (numL (l.drop 1) 0 1, l.drop (1 + 1), false) := by rw [← hx3, a3.1, e1]; simp only; rw [rdn_ok 1 _ (by have := a3.2; rw [e1] at this; exact this), List.drop_drop]
  have e5 : x5 = (numL (l.drop (1 + 1)) 0 2, l.drop (1 + 1 + 2), false) := by rw [← hx5, a5.1, e3]; simp only; rw [rdn_ok 2 _ (by have := a5.2; rw [e3] at this; exact this), List.drop_drop]
  have e7 : x7 = (numL (l.drop (1 + 1 + 2)) 0 1, l.drop (1 + 1 + 2 + 1), false) := by rw [← hx7, a7.1, e5]; simp only; rw [rdn_ok 1 _ (by have := a7.2; rw [e5] at this; exact this), List.drop_drop]
  have e9 : x9 = (numL (l.drop (1 + 1 + 2 + 1)) 0 1, l.drop (1 + 1 + 2 + 1 + 1), false) := by rw [← hx9, a9.1, e7]; simp only; rw [rdn_ok 1 _ (by have := a9.2; rw [e7] at this; exact this), List.drop_drop]
  have l9 := a9.2
  rw [e7] at l9
  simp only [List.length_drop] at l9
  have hl : 6 ≤ l.length := by omega
  have f1 : numL (l.drop 1) 0 1 = numL l 1 1 := by rw [← numL_drop l 1 0 1 (by omega)]
  have f2 : numL (l.drop (1 + 1)) 0 2 = numL l 2 2 := by rw [← numL_drop l (1 + 1) 0 2 (by omega)]
  have f4 : numL (l.drop (1 + 1 + 2)) 0 1 = numL l 4 1 := by rw [← numL_drop l (1 + 1 + 2) 0 1 (by omega)]
  have f5 : numL (l.drop (1 + 1 + 2 + 1)) 0 1 = numL l 5 1 := by rw [← numL_drop l (1 + 1 + 2 + 1) 0 1 (by omega)]
  rw [e1] at a2
  rw [e3, f1] at a4
  rw [e5, f2] at a6
  rw [e7, f4] at a8
  rw [e9, f5] at a10
  exact ⟨hl, a2.2.1, a2.2.2.1, a4.2.1, a4.2.2.1, a6.2.1, a6.2.2.1, a8.2.1, a8.2.2.1, a10.2.1, a10.2.2.1⟩

/-- What a ward of an image is. -/
structure WardGood (x : WardV) : Prop where
  one : 1 ≤ x.regs.length
  pos : ∀ r ∈ x.regs, 1 ≤ r.2.1
  prog : (x.prog.length : Int) ≤ firstWords x.regs
  q1 : 1 ≤ x.q ∧ x.q ≤ 64
  rt : ∀ r ∈ x.regs, 0 ≤ r.2.2.2 ∧ r.2.2.2 ≤ 7

theorem regsN_rt (l : List UInt8) (b : Bool) : ∀ k, ∀ r ∈ (regsN k l b).1, 0 ≤ r.2.2.2 ∧ r.2.2.2 ≤ 7 := by
  intro k
  induction k with
  | zero => intro r hr; simp [regsN] at hr
  | succ k ih =>
    intro r hr
    simp only [regsN, List.mem_append, List.mem_singleton] at hr
    rcases hr with hr | rfl
    · exact ih r hr
    · exact wth_bd 1 7 _ _ (by omega) (by omega)
theorem rreg_inv (l : List UInt8) (b : Bool) (h : (rreg l b).2.2 = false) : b = false ∧ 1 ≤ (rreg l b).1.2.1 := by
  cases b
  · refine ⟨rfl, ?_⟩
    by_cases hg : regGood l
    · rw [rreg_good l hg]; exact hg.2.1
    · rw [rreg_not l hg] at h; cases h
  · rw [rreg_bad] at h; cases h
theorem regsN_inv (l : List UInt8) (b : Bool) : ∀ k, (regsN k l b).2.2 = false → b = false ∧ ∀ r ∈ (regsN k l b).1, 1 ≤ r.2.1 := by
  intro k
  induction k with
  | zero => intro h; exact ⟨h, by simp [regsN]⟩
  | succ k ih =>
    intro h
    have h1 := rreg_inv _ _ h
    have h2 := ih h1.1
    refine ⟨h2.1, ?_⟩
    intro r hr
    simp only [regsN, List.mem_append, List.mem_singleton] at hr
    rcases hr with hr | rfl
    · exact h2.2 r hr
    · exact h1.2

theorem rward_inv (l : List UInt8) (b : Bool) (h : (rward l b).2.2 = false) : b = false ∧ WardGood (rward l b).1 := by
  have hb : b = false := by
    cases b
    · rfl
    · have : (rward l true).2.2 = true := by
        unfold rward
        have hw : (whead l true).2.2 = true := by unfold whead; simp [rdn_bad, wth_bad]
        rw [hw]
        exact wtail_bad _ _ _ _ _ (regsN_bad _ _)
      rw [this] at h; cases h
  subst hb
  refine ⟨rfl, ?_⟩
  by_cases hg : headGood l
  · rw [rw_eq l hg] at h ⊢
    have hn1 := hg.2.2.2.1
    have hq1 := hg.2.1
    have hq2 := hg.2.2.1
    generalize numL l 0 1 = q at *
    generalize numL l 2 2 = bg at *
    obtain ⟨n, hn⟩ := Int.eq_ofNat_of_zero_le (show 0 ≤ numL l 1 1 by omega)
    rw [hn, Int.toNat_natCast] at h ⊢
    unfold wtail at h ⊢
    by_cases hr : (regsN n (l.drop 4) false).2.2 = true
    · rw [if_pos hr] at h; simp only at h; rw [hr] at h; cases h
    · rw [if_neg hr]
      have hr' : (regsN n (l.drop 4) false).2.2 = false := by simpa using hr
      have h2 := regsN_inv (l.drop 4) false n hr'
      have hw := rreg_words n (l.drop 4) false
      have hb := wth_bd 0 (firstWords (regsN n (l.drop 4) false).1) (rdn 2 (regsN n (l.drop 4) false).2.1 false).1 (rdn 2 (regsN n (l.drop 4) false).2.1 false).2.2 (by omega) hw.1
      refine ⟨by simp only [regsN_len]; omega, h2.2, ?_, ⟨hq1, hq2⟩, regsN_rt _ _ _⟩
      simp only [wordsN_len]
      omega
  · rw [rw_head l hg] at h; cases h

theorem wardsN_inv (l : List UInt8) (b : Bool) : ∀ k, (wardsN k l b).2.2 = false → b = false ∧ ∀ x ∈ (wardsN k l b).1, WardGood x := by
  intro k
  induction k with
  | zero => intro h; exact ⟨h, by simp [wardsN]⟩
  | succ k ih =>
    intro h
    have h1 := rward_inv _ _ h
    have h2 := ih h1.1
    refine ⟨h2.1, ?_⟩
    intro r hr
    simp only [wardsN, List.mem_append, List.mem_singleton] at hr
    rcases hr with hr | rfl
    · exact h2.2 r hr
    · exact h1.2
theorem wiresN_inv (l : List UInt8) (b : Bool) : ∀ k, (wiresN k l b).2.2 = false → b = false := by
  intro k
  induction k with
  | zero => intro h; exact h
  | succ k ih =>
    intro h
    have h1 : (rwire (wiresN k l b).2.1 (wiresN k l b).2.2).2.2 = false := h
    unfold rwire at h1
    exact ih (rdn_inv _ _ _ (rdn_inv _ _ _ h1).1).1
theorem ownersN_inv (l : List UInt8) (b : Bool) : ∀ k, (ownersN k l b).2.2 = false → b = false := by
  intro k
  induction k with
  | zero => intro h; exact h
  | succ k ih =>
    intro h
    have h1 : (rdn 1 (ownersN k l b).2.1 (ownersN k l b).2.2).2.2 = false := h
    exact ih (rdn_inv _ _ _ h1).1

theorem mem_owned (ws : List WardV) (i : Nat) (x : WardV) (hx : ws[i]? = some x) (r : Int × Int × Int × Int) (hr : r ∈ x.regs) : ∀ k, i < k → (r, (i : Int)) ∈ ownedN ws k := by
  intro k
  induction k with
  | zero => intro h; omega
  | succ k ih =>
    intro h
    simp only [ownedN, List.mem_append]
    by_cases hik : i = k
    · subst hik
      right
      simp [hx, hr]
    · left
      exact ih (by omega)

theorem fits_of (l : List UInt8) (m : Img) (hm : rimg l = (m, true)) (he : mkErr m true = 0) : m.Fits := by
  have hok := rimg_ok l
  rw [hm] at hok
  simp only at hok
  have hfit : fitsB m = true := by
    unfold mkErr at he
    by_cases h : fitsB m = true
    · exact h
    · rw [if_neg (by simp), if_pos (by simp [h])] at he; cases he
  have hdev : ∀ o ∈ m.ow, 0 ≤ o ∧ o < m.ws.length := by
    have hd : devsB m = true := by
      unfold mkErr at he
      by_cases h : devsB m = true
      · exact h
      · rw [if_neg (by simp)] at he
        split at he
        · cases he
        · rw [if_pos (by simp [h])] at he; cases he
    intro o ho
    have := List.all_eq_true.1 hd o ho
    simp only [hasB, Bool.and_eq_true, decide_eq_true_eq] at this
    exact this
  unfold rimg at hm
  simp only [Prod.mk.injEq, Bool.and_eq_true, Bool.not_eq_true'] at hm
  obtain ⟨rfl, hu, _⟩ := hm
  have h3 := ownersN_inv _ _ _ hu
  have h2 := wiresN_inv _ _ _ h3
  have h1 := wardsN_inv _ _ _ h2
  have hh := rhead_inv l h1.1
  have hg := rhead_good l hh
  have hgood := h1.2
  rw [hg] at hgood hfit hok hdev ⊢
  simp only at hgood hfit hok hdev ⊢
  have hn1 := hh.n1
  have hm1 := hh.m1
  obtain ⟨n, hn⟩ := Int.eq_ofNat_of_zero_le (show 0 ≤ numL l 0 1 by omega)
  rw [hn, Int.toNat_natCast] at hgood hfit hok hdev ⊢
  have hlen := wardsN_len n (l.drop 6) false
  generalize wardsN n (l.drop 6) false = y at *
  generalize wiresN (numL l 4 1).toNat y.2.1 y.2.2 = z at *
  generalize ownersN (numL l 5 1).toNat z.2.1 z.2.2 = u at *
  generalize numL l 2 2 = mem at *
  have hall : ∀ r ∈ ownedN y.1 y.1.length, fitB (16 + 16 * y.1.length + 2 * z.1.length) mem r = true := by
    unfold fitsB at hfit
    exact fun r hr => List.all_eq_true.1 hfit r hr
  have hreg : ∀ x ∈ y.1, 1 ≤ x.regs.length ∧ 16 + 16 * (y.1.length : Int) + 2 * z.1.length ≤ firstBase x.regs ∧ firstBase x.regs + firstWords x.regs ≤ mem ∧ 1 ≤ firstWords x.regs ∧ (x.prog.length : Int) ≤ firstWords x.regs := by
    intro x hx
    have hxg := hgood x hx
    obtain ⟨i, hi, rfl⟩ := List.getElem_of_mem hx
    have hxi : y.1[i]? = some y.1[i] := List.getElem?_eq_getElem hi
    generalize y.1[i] = x at *
    match hrs : x.regs, hxg.one with
    | r :: rs, _ =>
      have hr : r ∈ x.regs := by rw [hrs]; simp
      have h := hall _ (mem_owned y.1 i x hxi r hr y.1.length hi)
      have hp := hxg.pos r hr
      have hpr := hxg.prog
      rw [hrs] at hpr
      simp only [fitB, Bool.not_eq_true', Bool.or_eq_false_iff, decide_eq_false_iff_not] at h
      simp only [firstBase, firstWords, List.getD_cons_zero, List.length_cons] at hpr ⊢
      exact ⟨by omega, by omega, by omega, hp, hpr⟩
  refine ⟨hok, hm1, ?_, ?_, hdev, by simp only; rw [hlen]; omega⟩
  · match hy : y.1, (show 1 ≤ y.1.length by rw [hlen]; omega) with
    | x :: xs, _ =>
      have := hreg x (by rw [hy]; simp)
      rw [← hy]
      simp only
      omega
  · intro x hx
    have := hreg x hx
    simp only
    refine ⟨this.1, by omega, by omega, by omega⟩

end Go.Proofs.YthmcheoehcmglaaGreat
