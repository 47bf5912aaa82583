/- wardskeep: the image with one wire, read and booted. -/
import Derived.Test.YthmcheoehcmglaaGreatK10
import Derived.Test.YthmcheoehcmglaaGreatK8
import Derived.Test.YthmcheoehcmglaaGreatJ2
namespace Go.Proofs.YthmcheoehcmglaaGreat
open Go.RowKit
set_option linter.unusedVariables false
attribute [local go_sem ↓] Go.wp_at_zero Go.wp_at_succ

/-- The image that the statements make, with a wire from ward 0 to ward 1. -/
def keepImgW (gap : Int) (l : List (Int × List Int)) (n : Nat) : Img := ⟨withinM gap 1 16, 1024, (List.range n).map (fun k : Nat => wardOf (18 + 16 * n) k (l.getD k (0, [])).1 (l.getD k (0, [])).2), [(0, 1)], (List.range n).map (fun k : Nat => (k : Int))⟩
def keepBW (gap : Int) (l : List (Int × List Int)) (n : Nat) : List UInt8 := headB gap n 1 ++ (List.range n).flatMap (fun k : Nat => wardB (18 + 16 * n) k (l.getD k (0, [])).1 (l.getD k (0, [])).2) ++ (lowB 0 1 ++ lowB 1 1) ++ (List.range n).flatMap (fun k : Nat => lowB (k : Int) 1)

theorem rimg_keepW (gap : Int) (l : List (Int × List Int)) (n : Nat) (n1 : 1 ≤ n) (n4 : n ≤ 4) : rimg (keepBW gap l n) = (keepImgW gap l n, true) := by
  have hg := withinM_bd gap 1 16 (by omega)
  have hh : rhead (keepBW gap l n) = (((n : Int), withinM gap 1 16, 1024, 1, (n : Int)), (List.range n).flatMap (fun k : Nat => wardB (18 + 16 * n) k (l.getD k (0, [])).1 (l.getD k (0, [])).2) ++ (lowB 0 1 ++ (lowB 1 1 ++ ((List.range n).flatMap (fun k : Nat => lowB (k : Int) 1) ++ []))), false) := by
    unfold keepBW rhead headB
    simp only [List.append_assoc, rdn1, List.append_nil]
    rw [wthY 1 4 _ (by omega) (by omega)]
    simp only [rdn1]
    rw [wthY 1 16 _ (by omega) (by omega)]
    simp only [rdn2]
    rw [wthY 64 1024 _ (by omega) (by omega)]
    simp only [rdn1]
    rw [wthY 0 8 _ (by omega) (by omega)]
    simp only [rdn1]
    rw [wthY 0 8 _ (by omega) (by omega)]
    rw [Int.emod_eq_of_lt (a := (n : Int)) (by omega) (by omega), Int.emod_eq_of_lt (a := withinM gap 1 16) (by omega) (by omega)]
    rfl
  unfold rimg
  rw [hh]
  simp only [Int.toNat_natCast, Int.toNat_one]
  rw [wards_app _ l n n4 (by omega) (by omega) _ n (Nat.le_refl _)]
  have hd : (List.range n).drop n = [] := List.drop_of_length_le (by simp)
  rw [hd, List.flatMap_nil, List.nil_append]
  have hw : wiresN 1 (lowB 0 1 ++ (lowB 1 1 ++ ((List.range n).flatMap (fun k : Nat => lowB (k : Int) 1) ++ []))) false = ([(0, 1)], (List.range n).flatMap (fun k : Nat => lowB (k : Int) 1) ++ [], false) := by
    simp only [wiresN, rwire, rdn1]
    rfl
  rw [hw, owners_app n n4 [] n (Nat.le_refl _), hd]
  rfl

theorem keepW_ok (gap : Int) (l : List (Int × List Int)) : mkErr (keepImgW gap l 3) true = 0 := by
  have h1 : fitsB (keepImgW gap l 3) = true := rfl
  have h2 : apartB (keepImgW gap l 3) = true := rfl
  have h3 : wiresB (keepImgW gap l 3) = true := rfl
  have h4 : devsB (keepImgW gap l 3) = true := rfl
  exact mk0 _ (by rw [h1, h2]; rfl) (by rw [h3, h4]; rfl)

theorem keepBW_len (gap : Int) (l : List (Int × List Int)) (n : Nat) (n4 : n ≤ 4) : (keepBW gap l n).length ≤ 2000 := by
  unfold keepBW headB
  have h1 := flat_le (fun k : Nat => wardB (18 + 16 * n) k (l.getD k (0, [])).1 (l.getD k (0, [])).2) 269 (by
    intro k
    unfold wardB
    simp only [List.length_append, lowB_len, words_len]
    have : ((l.getD k (0, [])).2.take 64).length ≤ 64 := by rw [List.length_take]; omega
    omega) (List.range n)
  have h2 := flat_le (fun k : Nat => lowB (k : Int) 1) 1 (by intro k; rw [lowB_len]; omega) (List.range n)
  simp only [List.length_append, lowB_len, List.length_range] at h1 h2 ⊢
  omega

theorem keepBootW (w : World) (gap : Int) (l : List (Int × List Int)) :
    Calls Tryz.prog 19 #[.string ⟨(keepBW gap l 3).toArray⟩] w fun e w' => ∃ x vL, e = .returned (.pointer (some ⟨x.X, 0, none⟩)) ∧ Live x (bootM (keepImgW gap l 3)) (bootN (keepImgW gap l 3)) vL w' ∧ XOf (keepImgW gap l 3) x ∧ Fr (fun _ => False) w w' ∧ (∀ i, KA x vL i → w.heap.size ≤ i) :=
  kboot_any ⟨(keepBW gap l 3).toArray⟩ (by have := keepBW_len gap l 3 (by omega); show (keepBW gap l 3).toArray.size ≤ maxLen; simp only [List.size_toArray]; unfold maxLen; omega) w (keepImgW gap l 3) true (rimg_keepW gap l 3 (by omega) (by omega)) (keepW_ok gap l)

theorem keepW_regs (gap : Int) (l : List (Int × List Int)) (n : Nat) (x : KX) (hx : XOf (keepImgW gap l n) x) (k : Nat) (hk : k < n) : x.regs.getD k [] = [(0, 64, 18 + 16 * (n : Int) + 64 * k, 7)] := by
  rw [hx.regs, List.getD_eq_getElem?_getD, List.getElem?_map]
  unfold keepImgW
  simp only [List.getElem?_map, List.getElem?_range hk, Option.map_some]
  rfl
theorem keepW_rlen (gap : Int) (l : List (Int × List Int)) (n : Nat) (x : KX) (hx : XOf (keepImgW gap l n) x) : x.regs.length = n := by rw [hx.regs]; simp [keepImgW]

end Go.Proofs.YthmcheoehcmglaaGreat
/- Told: the three wards behind 8000 cycles. -/
namespace Go.Proofs.YthmcheoehcmglaaGreat
open Go.RowKit
set_option linter.unusedVariables false

structure TS (v : Int) (i r d : Nat) (N : NM) : Prop where
  w : ∃ u0 u1 u2 s ws, N.wn = [⟨toA v i, u0, [keepW (toldA v)]⟩, ⟨s, u1, ws⟩, ⟨toC d, u2, [keepW toldC]⟩] ∧ Ph1 (v % 4294967296) (keepW toldB) r s ws
  wi : N.wi = [wireF (v % 4294967296) i r]
  r0 : i < 3 → 14 ≤ r
  r1 : r ≤ 21
  i1 : i ≤ 7
  d1 : d ≤ 1
  c : 0 ≤ N.ck

theorem y_off (s : StV) (h : s.y = false) : ({ s with y := false } : StV) = s := by cases s; simp only at h; subst h; rfl
theorem toA_y (v : Int) (i : Nat) : (toA v i).y = false := by
  unfold toA
  split <;> rfl
theorem toC_y (d : Nat) : (toC d).y = false := by
  unfold toC
  split <;> rfl
theorem Ph1.y {V : Int} {L : List Int} {r : Nat} {s : StV} {ws : List (List Int)} (h : Ph1 V L r s ws) : s.y = false := by
  unfold Ph1 at h
  split at h
  all_goals first
    | (obtain ⟨rfl, -⟩ := h; rfl)
    | (obtain ⟨_, rfl, -⟩ := h; rfl)
    | (obtain ⟨_, _, rfl, -⟩ := h; rfl)
    | exact h.elim

theorem nxt_le (i r : Nat) (h : r ≤ 21) : nxt i r ≤ 21 := by unfold nxt; split <;> omega
theorem nxt_ge (i r : Nat) (h : i < 3 → 14 ≤ r) (hi : i < 3) : 14 ≤ nxt i r := by
  have := h hi
  unfold nxt
  split <;> omega

theorem ts_step (x : KX) (h : ToldX x) (hQ : QsOk x.gap x.qs) (v : Int) (i r d : Nat) (N : NM) (hT : TS v i r d N) :
    TS v (if turnB x 0 N.ck then min (i + 1) 7 else i) (if turnB x 1 N.ck then nxt i r else r) (if turnB x 2 N.ck then 1 else d) (cycleN x N) := by
  obtain ⟨k, q, hs⟩ := slot_is hQ N.ck hT.c
  obtain ⟨u0, u1, u2, s, ws, hw, hp⟩ := hT.w
  have hwi := hT.wi
  have hkl := hs.kl
  rw [h.q] at hkl
  have hne : ∀ j, j ≠ k → turnB x j N.ck = false := by
    intro j hj
    unfold turnB
    rw [hs.e]
    simp only [Bool.and_eq_false_imp, beq_iff_eq]
    intro e
    exact absurd e.symm hj
  by_cases hq : q < x.qs.getD k 0
  · have hk1 : turnB x k N.ck = true := by
      unfold turnB
      rw [hs.e]
      simp only [beq_self_eq_true, Bool.true_and]
      exact decide_eq_true hq
    have hact : ∀ w', N.wn.getD k zeroWN = w' → cycleN x N = ⟨N.ck + 1, N.wn.set k ⟨(cycleM (opsN x k N.ck) w'.now (w'.ws, N.wi, N.devs)).1, w'.was, (cycleM (opsN x k N.ck) w'.now (w'.ws, N.wi, N.devs)).2.1⟩, (cycleM (opsN x k N.ck) w'.now (w'.ws, N.wi, N.devs)).2.2.1, (cycleM (opsN x k N.ck) w'.now (w'.ws, N.wi, N.devs)).2.2.2⟩ := by
      intro w' hw'
      unfold cycleN actN
      rw [hs.e]
      simp only
      rw [if_pos hq, hw']
    rcases (show k = 0 ∨ k = 1 ∨ k = 2 by omega) with rfl | rfl | rfl
    · rw [hk1, hne 1 (by omega), hne 2 (by omega), hact ⟨toA v i, u0, [keepW (toldA v)]⟩ (by rw [hw]; rfl)]
      simp only [if_true, Bool.false_eq_true, if_false]
      rw [hwi, a_step x h v N.ck N.devs i r hT.i1 hT.r0, hw]
      refine ⟨⟨u0, u1, u2, s, ws, rfl, hp⟩, rfl, fun h1 => hT.r0 (by omega), hT.r1, by omega, hT.d1, by have := hT.c; simp only; omega⟩
    · rw [hk1, hne 0 (by omega), hne 2 (by omega), hact ⟨s, u1, ws⟩ (by rw [hw]; rfl)]
      simp only [if_true, Bool.false_eq_true, if_false]
      obtain ⟨s', ws', h1, h2⟩ := b_step x h (v % 4294967296) (by omega) (by omega) N.ck N.devs i r hT.r0 hT.r1 s ws hp
      rw [hwi, h1, hw]
      exact ⟨⟨u0, u1, u2, s', ws', rfl, h2⟩, rfl, nxt_ge i r hT.r0, nxt_le i r hT.r1, hT.i1, hT.d1, by have := hT.c; simp only; omega⟩
    · rw [hk1, hne 0 (by omega), hne 1 (by omega), hact ⟨toC d, u2, [keepW toldC]⟩ (by rw [hw]; rfl)]
      simp only [if_true, Bool.false_eq_true, if_false]
      rw [hwi, c_step x h N.ck N.devs _ d hT.d1, hw]
      exact ⟨⟨u0, u1, u2, s, ws, rfl, hp⟩, rfl, hT.r0, hT.r1, hT.i1, by omega, by have := hT.c; simp only; omega⟩
  · have hk0 : turnB x k N.ck = false := by
      unfold turnB
      rw [hs.e]
      simp only [beq_self_eq_true, Bool.true_and]
      exact decide_eq_false hq
    have hall : ∀ j, turnB x j N.ck = false := by
      intro j
      by_cases hj : j = k
      · rw [hj]; exact hk0
      · exact hne j hj
    rw [hall 0, hall 1, hall 2]
    simp only [Bool.false_eq_true, if_false]
    by_cases hf : q - x.qs.getD k 0 = 0
    · have hact : ∀ w', N.wn.getD k zeroWN = w' → w'.now.y = false → cycleN x N = ⟨N.ck + 1, N.wn.set k ⟨w'.now, w'.now, w'.ws⟩, N.wi, N.devs⟩ := by
        intro w' hw' hy
        unfold cycleN actN
        rw [hs.e]
        simp only
        rw [if_neg hq, if_pos hf, hw', y_off _ hy]
      rcases (show k = 0 ∨ k = 1 ∨ k = 2 by omega) with rfl | rfl | rfl
      · rw [hact ⟨toA v i, u0, [keepW (toldA v)]⟩ (by rw [hw]; rfl) (toA_y v i), hw]
        exact ⟨⟨_, u1, u2, s, ws, rfl, hp⟩, hwi, hT.r0, hT.r1, hT.i1, hT.d1, by have := hT.c; simp only; omega⟩
      · rw [hact ⟨s, u1, ws⟩ (by rw [hw]; rfl) hp.y, hw]
        exact ⟨⟨u0, _, u2, s, ws, rfl, hp⟩, hwi, hT.r0, hT.r1, hT.i1, hT.d1, by have := hT.c; simp only; omega⟩
      · rw [hact ⟨toC d, u2, [keepW toldC]⟩ (by rw [hw]; rfl) (toC_y d), hw]
        exact ⟨⟨u0, u1, _, s, ws, rfl, hp⟩, hwi, hT.r0, hT.r1, hT.i1, hT.d1, by have := hT.c; simp only; omega⟩
    · have hact : cycleN x N = ⟨N.ck + 1, N.wn, N.wi, N.devs⟩ := by
        unfold cycleN actN
        rw [hs.e]
        simp only
        rw [if_neg hq, if_neg hf]
      rw [hact]
      exact ⟨⟨u0, u1, u2, s, ws, hw, hp⟩, hwi, hT.r0, hT.r1, hT.i1, hT.d1, by have := hT.c; simp only; omega⟩

theorem ts_iter (x : KX) (h : ToldX x) (hQ : QsOk x.gap x.qs) (v : Int) (i r d : Nat) (N : NM) (hT : TS v i r d N) : ∀ m : Nat, ∃ r', TS v (min (i + cnt x 0 N.ck m) 7) r' (min (d + cnt x 2 N.ck m) 1) (iterN x m N) ∧ (3 ≤ i → r' ≤ r - cnt x 1 N.ck m) := by
  intro m
  induction m with
  | zero =>
    refine ⟨r, ?_, fun _ => by simp [cnt]⟩
    have e1 : min (i + cnt x 0 N.ck 0) 7 = i := by have := hT.i1; simp only [cnt]; omega
    have e2 : min (d + cnt x 2 N.ck 0) 1 = d := by have := hT.d1; simp only [cnt]; omega
    rw [e1, e2]
    exact hT
  | succ m ih =>
    obtain ⟨r', h1, h2⟩ := ih
    have h3 := ts_step x h hQ v _ _ _ _ h1
    have hck := iterN_ck x N m
    rw [hck] at h3
    have e1 : (if turnB x 0 (N.ck + (m : Nat)) then min (min (i + cnt x 0 N.ck m) 7 + 1) 7 else min (i + cnt x 0 N.ck m) 7) = min (i + cnt x 0 N.ck (m + 1)) 7 := by
      simp only [cnt]
      split <;> omega
    have e2 : (if turnB x 2 (N.ck + (m : Nat)) then 1 else min (d + cnt x 2 N.ck m) 1) = min (d + cnt x 2 N.ck (m + 1)) 1 := by
      simp only [cnt]
      split <;> omega
    rw [e1, e2] at h3
    refine ⟨_, h3, ?_⟩
    intro hi
    have h4 := h2 hi
    simp only [cnt]
    split
    · unfold nxt
      rw [if_neg (by omega)]
      omega
    · omega

theorem iterN_split (x : KX) (N : NM) (n : Nat) : ∀ m, iterN x (n + m) N = iterN x m (iterN x n N)
  | 0 => rfl
  | m + 1 => by
    rw [show n + (m + 1) = (n + m) + 1 from rfl]
    simp only [iterN]
    rw [iterN_split x N n m]

theorem cnt_roundsT {x : KX} (hX : KXs x) (k : Nat) (hk : k < x.qs.length) (R : Nat) (hR : roundK x = R) (q : Nat) (hq : x.qs.getD k 0 = q) (t0 : Nat) (ht : t0 % R = 0) : ∀ j : Nat, j * q ≤ cnt x k t0 (j * R)
  | 0 => by simp
  | j + 1 => by
    have ih := cnt_roundsT hX k hk R hR q hq t0 ht j
    have h1 := cnt_split x k t0 (j * R) R
    have h2 := cnt_round hX k hk R hR q hq (t0 + j * R) (by rw [Nat.add_mul_mod_self_right]; exact ht)
    rw [show (j + 1) * R = j * R + R by rw [Nat.succ_mul], h1, Nat.succ_mul]
    have e : (t0 : Int) + ((j * R : Nat) : Int) = ((t0 + j * R : Nat) : Int) := by simp
    rw [e]
    omega

def toldL (q0 q1 q2 v : Int) : List (Int × List Int) := [(q0, toldA v), (q1, toldB), (q2, toldC)]

theorem told_x (gap q0 q1 q2 v : Int) (x : KX) (hx : XOf (keepImgW gap (toldL q0 q1 q2 v) 3) x) : ToldX x := by
  refine ⟨⟨_, keepW_regs gap _ 3 x hx 0 (by omega)⟩, ⟨_, keepW_regs gap _ 3 x hx 1 (by omega)⟩, ⟨_, keepW_regs gap _ 3 x hx 2 (by omega)⟩, hx.wires, ?_⟩
  rw [hx.qs]
  rfl

/-- What came of the three. -/
structure ToldOut (v : Int) (N : NM) : Prop where
  n0 : (N.wn.getD 0 zeroWN).now = ⟨[0, 0, v % 4294967296, 0, 0, 0, 0, 0], 4, 1, 0, 0, false⟩
  n1 : (N.wn.getD 1 zeroWN).now = ⟨[1, 0, v % 4294967296, 0, 0, 0, 0, 0], 8, 1, 0, 0, false⟩
  n2 : (N.wn.getD 2 zeroWN).now = ⟨[0, 0, 0, 0, 0, 0, 0, 0], 0, 2, 5, 0, false⟩
  w1 : (N.wn.getD 1 zeroWN).ws = [(keepW toldB).set 40 (v % 4294967296)]
  wi : N.wi = [(0, v % 4294967296)]

theorem told_out (gap q0 q1 q2 v : Int) (x : KX) (hx : XOf (keepImgW gap (toldL q0 q1 q2 v) 3) x) (hX : KXs x) : ToldOut v (iterN x 8000 (bootN (keepImgW gap (toldL q0 q1 q2 v) 3))) := by
  have hT := told_x gap q0 q1 q2 v x hx
  have hqs : x.qs = [withinM q0 1 64, withinM q1 1 64, withinM q2 1 64] := by rw [hx.qs]; rfl
  have hgap : x.gap = withinM gap 1 16 := hx.gap
  have hg := withinM_bd gap 1 16 (by omega)
  have h0 := withinM_bd q0 1 64 (by omega)
  have h1 := withinM_bd q1 1 64 (by omega)
  have h2 := withinM_bd q2 1 64 (by omega)
  obtain ⟨G, hG⟩ := Int.eq_ofNat_of_zero_le (show 0 ≤ withinM gap 1 16 by omega)
  obtain ⟨Q0, hQ0⟩ := Int.eq_ofNat_of_zero_le (show 0 ≤ withinM q0 1 64 by omega)
  obtain ⟨Q1, hQ1⟩ := Int.eq_ofNat_of_zero_le (show 0 ≤ withinM q1 1 64 by omega)
  obtain ⟨Q2, hQ2⟩ := Int.eq_ofNat_of_zero_le (show 0 ≤ withinM q2 1 64 by omega)
  rw [hQ0, hQ1, hQ2] at hqs
  rw [hG] at hgap
  obtain ⟨R, hRR⟩ : ∃ R, Q0 + G + (Q1 + G) + (Q2 + G) = R := ⟨_, rfl⟩
  have hR : roundK x = (R : Int) := by
    unfold roundK
    rw [hqs, hgap, ← hRR]
    simp only [List.length_cons, List.length_nil, accN]
    simp
  have hb : TS v 0 14 0 (bootN (keepImgW gap (toldL q0 q1 q2 v) 3)) :=
    ⟨⟨st0 0, st0 0, st0 0, st0 0, [keepW toldB], rfl, 0, 0, rfl, rfl⟩, rfl, fun _ => by omega, by omega, by omega, by omega, by simp [bootN]⟩
  obtain ⟨r1, hA, _⟩ := ts_iter x hT hX.q v 0 14 0 _ hb (3 * R)
  have hck : (bootN (keepImgW gap (toldL q0 q1 q2 v) 3)).ck = ((0 : Nat) : Int) := rfl
  rw [hck] at hA
  have hc0 := cnt_roundsT hX 0 (by rw [hqs]; simp) R hR Q0 (by rw [hqs]; rfl) 0 (by simp) 3
  have hi3 : 3 ≤ min (0 + cnt x 0 ((0 : Nat) : Int) (3 * R)) 7 := by omega
  obtain ⟨r2, hB, hr2⟩ := ts_iter x hT hX.q v _ _ _ _ hA (8000 - 3 * R)
  have hck2 : (iterN x (3 * R) (bootN (keepImgW gap (toldL q0 q1 q2 v) 3))).ck = ((3 * R : Nat) : Int) := by rw [iterN_ck, hck]; omega
  rw [hck2] at hB hr2
  have hm : ((3 * R) % R) = 0 := by rw [Nat.mul_mod_left]
  have c0 := cnt_roundsT hX 0 (by rw [hqs]; simp) R hR Q0 (by rw [hqs]; rfl) (3 * R) hm 30
  have c1 := cnt_roundsT hX 1 (by rw [hqs]; simp) R hR Q1 (by rw [hqs]; rfl) (3 * R) hm 30
  have c2 := cnt_roundsT hX 2 (by rw [hqs]; simp) R hR Q2 (by rw [hqs]; rfl) (3 * R) hm 30
  have m0 := cnt_mono x 0 ((3 * R : Nat) : Int) (30 * R) (8000 - 3 * R) (by omega)
  have m1 := cnt_mono x 1 ((3 * R : Nat) : Int) (30 * R) (8000 - 3 * R) (by omega)
  have m2 := cnt_mono x 2 ((3 * R : Nat) : Int) (30 * R) (8000 - 3 * R) (by omega)
  have hr21 := hA.r1
  have hr0 : r2 = 0 := by have := hr2 hi3; omega
  have e7 : min (min (0 + cnt x 0 ((0 : Nat) : Int) (3 * R)) 7 + cnt x 0 ((3 * R : Nat) : Int) (8000 - 3 * R)) 7 = 7 := by omega
  have e1 : min (min (0 + cnt x 2 ((0 : Nat) : Int) (3 * R)) 1 + cnt x 2 ((3 * R : Nat) : Int) (8000 - 3 * R)) 1 = 1 := by omega
  rw [e7, e1, hr0, ← iterN_split, show 3 * R + (8000 - 3 * R) = 8000 by omega] at hB
  obtain ⟨u0, u1, u2, s, ws, hw, hp⟩ := hB.w
  obtain ⟨rfl, rfl⟩ := hp
  have hwi := hB.wi
  generalize iterN x 8000 (bootN (keepImgW gap (toldL q0 q1 q2 v) 3)) = N at *
  refine ⟨by rw [hw]; rfl, by rw [hw]; rfl, by rw [hw]; rfl, by rw [hw]; rfl, by rw [hwi]; rfl⟩

end Go.Proofs.YthmcheoehcmglaaGreat
