/- Rows: a slice of wards, opened. -/
import Derived.Test.YthmcheoehcmglaaW3
import Derived.Test.YthmcheoehcmglaaK5
namespace Go.Proofs.Ythmcheoehcmglaa
open Go.ChangeShapes Go.WideShapes Go.ChangeAt Go.RowKit Go.Deep
set_option linter.unusedVariables false

theorem wards_open {H : Type} {enc : TypeId × Value → H} {W : World} {fuel : Nat} {v : Value} {x : DataW H × List MemPlace} (h : DataW.trod enc Try.prog W 0 (fun _ => true) true fuel 37 [v] = some x) :
    ∃ l : List (Int × List Int), WdsV W v l ∧ l.length ≤ maxLen := by
  rcases open_slice_pairs Try.underlying37 Try.underlying79 (by kernel_rfl) (by kernel_rfl) (by kernel_rfl) (by kernel_rfl) (by kernel_rfl) h with ⟨h1, -⟩ | ⟨a, len, cap, m, n, V0, V1, D0, D1, P0, P1, h1, -, hlc, hcm, hm, -, hel⟩
  · simp only [List.cons.injEq, and_true] at h1
    subst h1
    exact ⟨[], ⟨none, 0, rfl, by simp, by omega, by simp⟩, by simp⟩
  · simp only [List.cons.injEq, and_true] at h1
    subst h1
    simp only [if_true] at hm
    have hcap : cap ≤ 9223372036854775807 := by unfold maxLen at hcm; omega
    have each : ∀ i, i < len → ∃ p : Int × List Int, V0 i = .int .i64 p.1 ∧ I64 p.1 ∧ IntsAt W (V1 i) p.2 ∧ ∀ z ∈ p.2, I64 z := by
      intro i hi
      obtain ⟨-, -, h3, h4⟩ := hel i (by omega)
      obtain ⟨q, hq, -, hwf⟩ := DataW.trod_int Try.underlying3 h3
      obtain ⟨ws, hws, hwb, -⟩ := ints_open h4
      simp only [List.cons.injEq, and_true] at hq
      exact ⟨(q, ws), hq, i64_of_wf hwf, hws, hwb⟩
    obtain ⟨f, hf⟩ := choose_lt each
    have hll : ((List.range len).map f).length = len := by simp
    refine ⟨(List.range len).map f, ⟨some a, cap, by rw [hll], by rw [hll]; exact hlc, hcap, ?_⟩, by rw [hll]; omega⟩
    intro h1
    rw [hll] at h1 ⊢
    have hc0 := (hel 0 (by omega)).1
    obtain ⟨b, off, spot⟩ := a
    have hspot : spot = none := by simpa [Addr.add] using World.cell?_spot hc0
    subst hspot
    refine ⟨b, off, rfl, by simp, ?_, ?_⟩
    · intro k q ws hk
      rw [List.getElem?_map] at hk
      simp only [Option.map_eq_some_iff] at hk
      obtain ⟨i, hi, hfi⟩ := hk
      obtain ⟨hil, hie⟩ := List.getElem?_eq_some_iff.1 hi
      simp only [List.length_range] at hil
      simp only [List.getElem_range] at hie
      subst hie
      obtain ⟨h2, h3, -, -⟩ := hel k (by omega)
      have h4 := hf k hil
      rw [hfi] at h4
      rw [add_plain] at h2 h3
      refine ⟨by rw [h2, h4.1], V1 k, by rw [← h3, Nat.add_assoc], h4.2.2.1⟩
    · intro q ws hm'
      simp only [List.mem_map, List.mem_range] at hm'
      obtain ⟨i, hi, hfi⟩ := hm'
      have h4 := hf i hi
      rw [hfi] at h4
      exact ⟨h4.2.1, h4.2.2.2⟩

end Go.Proofs.Ythmcheoehcmglaa
/- wardskeep.Timed, walked. -/
namespace Go.Proofs.Ythmcheoehcmglaa
open Go.RowKit
set_option linter.unusedVariables false
attribute [local go_sem ↓] Go.wp_at_zero Go.wp_at_succ

theorem keep_qs (gap : Int) (l : List (Int × List Int)) (n : Nat) (hl : l.length = n) (x : KX) (hx : XOf (keepImg gap l n) x) : x.qs = qsOf l := by
  rw [hx.qs]
  unfold keepImg qsOf
  simp only [List.map_map]
  apply List.ext_getElem?
  intro i
  rw [List.getElem?_map, List.getElem?_map]
  by_cases hi : i < n
  · rw [List.getElem?_range hi, List.getElem?_eq_getElem (by omega)]
    simp [wardOf, hl, hi]
  · rw [List.getElem?_eq_none (by simp; omega), List.getElem?_eq_none (by omega)]
    rfl
theorem keep_len (gap : Int) (l : List (Int × List Int)) (n : Nat) (x : KX) (hx : XOf (keepImg gap l n) x) : x.regs.length = n := by rw [hx.regs]; simp [keepImg]

/-- The statements' turn is the machine's. -/
theorem turn_eq (x : KX) (h : QsOk x.gap x.qs) (hl : x.qs.length = x.regs.length) (t : Int) (t0 : 0 < t) (k : Nat) (hk : k < x.qs.length) (h1 : accN x.gap x.qs k ≤ (t - 1) % accN x.gap x.qs x.qs.length) (h2 : (t - 1) % accN x.gap x.qs x.qs.length < accN x.gap x.qs (k + 1)) :
    turnV x.gap (x.qs.getD k 0) x.regs.length k ((t - 1) % accN x.gap x.qs x.qs.length - accN x.gap x.qs k) = turnN x t := by
  have hs : SlotIs x (t - 1) k ((t - 1) % accN x.gap x.qs x.qs.length - accN x.gap x.qs k) := slot_of h _ _ _ hk (by omega) (by simp only [accN] at h2; omega) (by unfold roundK; omega)
  have := turn_next (t - 1) (by omega) k _ hs
  rw [show t - 1 + 1 = t by omega] at this
  rw [this]
  have hr1 := hs.r1
  unfold turnV
  split
  · rfl
  · split
    · rw [if_neg (by omega)]
    · rw [if_pos (by omega)]

theorem turnN_bd (x : KX) (h : QsOk x.gap x.qs) (hl : x.qs.length = x.regs.length) (t : Int) (t0 : 0 ≤ t) : 0 ≤ turnN x t ∧ turnN x t ≤ 4 := by
  have hl4 := h.l2
  by_cases ht : t = 0
  · unfold turnN; rw [if_pos ht]; omega
  · obtain ⟨k, r, hs⟩ := slot_is h (t - 1) (by omega)
    have := turn_next (t - 1) (by omega) k r hs
    rw [show t - 1 + 1 = t by omega] at this
    have hk := hs.kl
    have hm : (k + 1) % x.regs.length < x.regs.length := Nat.mod_lt _ (by omega)
    rw [this]
    split
    · omega
    · split <;> omega

set_option maxRecDepth 100000 in
set_option maxHeartbeats 1000000 in
theorem kturn_zero (w : World) (gap : Int) (v : Value) :
    Calls Try.prog 16 #[.int .i64 gap, v, .int .i64 0] w fun e w' => w' = w ∧ e = .returned (.int .i64 0) := by
  go_enter Try.func16, Try.ntmps16
  go_wp2_with fail
  go_ret
  exact ⟨rfl, rfl⟩

theorem kturn_all (w : World) (gap : Int) (hg : I64 gap) (g o n c : Nat) (l : List (Int × List Int)) (h : WdsAt w g o n c l) (n1 : 1 ≤ n) (n4 : n ≤ 4) (x : KX) (hx : XOf (keepImg gap l n) x) (hX : KXs x) (t : Nat) (t1 : t ≤ 1000000) :
    Calls Try.prog 16 #[.int .i64 gap, .slice (some ⟨g, o, none⟩) n c, .int .i64 t] w fun e w' => w' = w ∧ e = .returned (.int .i64 (turnN x t)) := by
  have hqs := keep_qs gap l n h.len x hx
  have hrl := keep_len gap l n x hx
  have hql := hX.ql
  by_cases ht : t = 0
  · subst ht
    refine (kturn_zero w gap _).mono ?_
    rintro e w' ⟨rfl, rfl⟩
    exact ⟨rfl, by unfold turnN; rfl⟩
  · refine (kturn_any w gap hg g o n c l h n1 n4 t (by omega) (by omega)).mono ?_
    rintro e w' ⟨rfl, k, hk, h1, h2, rfl⟩
    refine ⟨rfl, ?_⟩
    have hgp : x.gap = withinM gap 1 16 := hx.gap
    have hqn : x.qs.length = n := by omega
    rw [← hgp, ← hqs, ← hqn] at h1 h2
    have := turn_eq x hX.q hql t (by omega) k (by omega) h1 h2
    rw [← this, ← hgp, ← hqs, hqn, hrl]

/-- A machine in a loop of a statement. -/
structure Going (x : KX) (N : NM) (w wr : World) : Prop where
  l : ∃ s vL, Live x s N vL wr ∧ ∀ i, KA x vL i → w.heap.size ≤ i
  f : Fr (fun _ => False) w wr

theorem Going.fr {x : KX} {N : NM} {w wr w' : World} (h : Going x N w wr) (hf : Fr (fun _ => False) wr w') : Going x N w w' := by
  obtain ⟨s, vL, h1, h2⟩ := h.l
  exact ⟨⟨s, vL, h1.frF hf, h2⟩, h.f.step hf (fun _ h => .inl h)⟩

theorem Going.run {x : KX} {N : NM} {w wr : World} (h : Going x N w wr) (n : Int) (L : Nat) (hL : logMax N.devs L) (hLn : 4 * (L + (runN n).toNat) ≤ 140737488355328) (hc : N.ck + (runN n).toNat ≤ 9223372036854775807) (X : Nat) (hX : x.X = X) :
    Calls Try.prog 18 #[.pointer (some ⟨X, 0, none⟩), .int .i64 n] wr fun e w' => e = .returned (.int .i64 (runN n)) ∧ Going x (iterN x (runN n).toNat N) w w' := by
  subst hX
  obtain ⟨s, vL, h1, h2⟩ := h.l
  refine (h1.run n L hL hLn hc).mono ?_
  rintro e w' ⟨rfl, vL', h3, h4, h5⟩
  refine ⟨rfl, ⟨_, vL', h3, ?_⟩, h.f.step h5 (fun i hi => .inr (h2 i hi))⟩
  intro i hi
  rcases KA.mono h4 i hi with h6 | h6
  · exact h2 i h6
  · exact Nat.le_trans h.f.size h6

theorem Going.ckx {x : KX} {N : NM} {w wr : World} (h : Going x N w wr) (X : Nat) (hX : x.X = X) : Calls Try.prog 17 #[.pointer (some ⟨X, 0, none⟩)] wr fun e w' => e = .returned (.int .i64 N.ck) ∧ w' = wr := by
  subst hX
  obtain ⟨s, vL, h1, h2⟩ := h.l
  exact h1.clock
theorem Going.word {x : KX} {N : NM} {w wr : World} (h : Going x N w wr) (X : Nat) (hX : x.X = X) (i : Nat) (hi : i < x.n) : ∃ s, Sim x s N ∧ Calls Try.prog 15 #[.pointer (some ⟨X, 0, none⟩), .int .i64 i] wr fun e w' => e = .returned (.tuple #[.int .u32 (s.mem.getD i 0), .int .i64 0]) ∧ w' = wr := by
  subst hX
  obtain ⟨s, vL, h1, h2⟩ := h.l
  refine ⟨s, h1.n, ?_⟩
  have := h1.word i
  rw [if_pos (by omega), if_pos (by omega)] at this
  exact this
theorem Going.word0 {x : KX} {N : NM} {w wr : World} (h : Going x N w wr) (X : Nat) (hX : x.X = X) (hn : 64 ≤ x.n) : Calls Try.prog 15 #[.pointer (some ⟨X, 0, none⟩), .int .i64 0] wr fun e w' => e = .returned (.tuple #[.int .u32 (turnN x N.ck), .int .i64 0]) ∧ w' = wr := by
  obtain ⟨s, h1, h2⟩ := h.word X hX 0 (by omega)
  rw [h1.t0] at h2
  exact h2
theorem Going.word1 {x : KX} {N : NM} {w wr : World} (h : Going x N w wr) (X : Nat) (hX : x.X = X) (hn : 64 ≤ x.n) (hc : N.ck < 4294967296) : Calls Try.prog 15 #[.pointer (some ⟨X, 0, none⟩), .int .i64 1] wr fun e w' => e = .returned (.tuple #[.int .u32 N.ck, .int .i64 0]) ∧ w' = wr := by
  obtain ⟨s, h1, h2⟩ := h.word X hX 1 (by omega)
  rw [h1.t1, Int.emod_eq_of_lt h1.c0 hc] at h2
  exact h2

/-- The statements' image, as bytes. -/
def keepB (gap : Int) (l : List (Int × List Int)) (n : Nat) : List UInt8 := headB gap n 0 ++ (List.range n).flatMap (fun k : Nat => wardB (16 + 16 * n) k (l.getD k (0, [])).1 (l.getD k (0, [])).2) ++ (List.range n).flatMap (fun k : Nat => lowB (k : Int) 1)
theorem words_len (W : List Int) : (W.flatMap (fun x => lowB x 4)).length = 4 * W.length := by
  induction W with
  | nil => rfl
  | cons v W ih => simp only [List.flatMap_cons, List.length_append, lowB_len, ih, List.length_cons]; omega
theorem flat_le {α β : Type} (f : α → List β) (B : Nat) (h : ∀ a, (f a).length ≤ B) : ∀ l : List α, (l.flatMap f).length ≤ B * l.length := by
  intro l
  induction l with
  | nil => simp
  | cons a l ih => simp only [List.flatMap_cons, List.length_append, List.length_cons]; have := h a; rw [Nat.mul_succ]; omega
theorem keepB_len (gap : Int) (l : List (Int × List Int)) (n : Nat) (n4 : n ≤ 4) : (keepB gap l n).length ≤ 2000 := by
  unfold keepB headB
  have h1 := flat_le (fun k : Nat => wardB (16 + 16 * n) k (l.getD k (0, [])).1 (l.getD k (0, [])).2) 269 (by
    intro k
    unfold wardB
    simp only [List.length_append, lowB_len, words_len]
    have : ((l.getD k (0, [])).2.take 64).length ≤ 64 := by rw [List.length_take]; omega
    omega) (List.range n)
  have h2 := flat_le (fun k : Nat => lowB (k : Int) 1) 1 (by intro k; rw [lowB_len]; omega) (List.range n)
  simp only [List.length_append, lowB_len, List.length_range] at h1 h2 ⊢
  omega

theorem keepBoot (w : World) (gap : Int) (l : List (Int × List Int)) (n : Nat) (n1 : 1 ≤ n) (n4 : n ≤ 4) :
    Calls Try.prog 12 #[.string ⟨(keepB gap l n).toArray⟩] w fun e w' => ∃ x vL, e = .returned (.pointer (some ⟨x.X, 0, none⟩)) ∧ Live x (bootM (keepImg gap l n)) (bootN (keepImg gap l n)) vL w' ∧ XOf (keepImg gap l n) x ∧ Fr (fun _ => False) w w' ∧ (∀ i, KA x vL i → w.heap.size ≤ i) :=
  kboot_any ⟨(keepB gap l n).toArray⟩ (by have := keepB_len gap l n n4; show (keepB gap l n).toArray.size ≤ maxLen; simp only [List.size_toArray]; unfold maxLen; omega) w (keepImg gap l n) true (rimg_keep gap l n n1 n4) (keep_ok gap l n n1 n4)

set_option maxRecDepth 100000 in
set_option maxHeartbeats 4000000 in
theorem timed_any (w : World) (gap : Int) (hg : I64 gap) (v : Value) (l : List (Int × List Int)) (h : WdsV w v l) (cy : Int) (hcy : I64 cy) :
    Calls Try.prog 4 #[.int .i64 gap, v, .int .i64 cy] w fun e w' => e = .returned (.bool true) ∧ Fr (fun _ => False) w w' := by
  have HSO := hid (some_any w v l h)
  have hb := someL_bd l
  have hp := pickM_bd cy 500 (by omega)
  have HPK := hid (fun w1 => pick_any cy 500 w1 hcy (by omega) (by omega))
  generalize someL l = a at *
  generalize pickM cy 500 = pn at *
  obtain ⟨N, rfl⟩ := Int.eq_ofNat_of_zero_le hp.1
  obtain ⟨ao, cc, rfl, -, -, -⟩ := h
  go_enter Try.func4, Try.ntmps4
  go_wp2_with fail
  refine HSO.out.mono ?_
  rintro e w1 ⟨g, o, c, rfl, hW1, hf1⟩
  have HW1 := hid hW1
  have HF1 := hid hf1
  clear hW1 hf1 HSO
  go_wp2_with fail
  refine (image_nw w1 gap hg g o a.length c a HW1.out hb.1 hb.2).mono ?_
  rintro e w2 ⟨rfl, hf2⟩
  have HF2 := hid hf2
  have HBT := hid (fun w3 => keepBoot w3 gap a a.length hb.1 hb.2)
  clear hf2
  go_wp2_with fail
  refine (HBT.out _).mono ?_
  rintro e w3 ⟨x, vL, rfl, hl3, hx3, hf3, hk3⟩
  have hG0 : Going x (bootN (keepImg gap a a.length)) w2 w3 := ⟨⟨_, vL, hl3, hk3⟩, hf3⟩
  have HG0 := hid hG0
  have HX := hid hx3
  have HXS := hid hl3.x
  have hxn : 64 ≤ x.n := by rw [hx3.n]; simp [keepImg]
  obtain ⟨X, hXX⟩ : ∃ X, x.X = X := ⟨_, rfl⟩
  have HXX := hid hXX
  rw [hXX]
  have HW2 := hid (HW1.out.fr HF2.out)
  have HF12 := hid (HF1.out.step HF2.out (fun _ h => .inl h))
  clear hl3 hx3 hf3 hk3 HBT HW1 HF1 HF2 hG0 hXX
  go_wp2_with fail
  refine (HPK.out _).mono ?_
  rintro e w4 ⟨rfl, rfl⟩
  go_wp2_with fail
  go_loopw [10] (fun i wr => ∃ k : Nat, k ≤ N + 1 ∧ i = .int .i64 k ∧ Going x (iterN x k (bootN (keepImg gap a a.length))) w2 wr) (fun i _ => N + 1 - (intOf i).toNat)
  case atStart => exact ⟨0, Nat.zero_le _, rfl, HG0.out⟩
  case round =>
    obtain ⟨k, hk, rfl, hG⟩ := hrel
    clear HG0
    by_cases hlt : k < N + 1
    · have hki : (k : Int) ≤ (N : Int) := by omega
      have hck : (iterN x k (bootN (keepImg gap a a.length))).ck = (k : Int) := by rw [iterN_ck]; simp [bootN]
      have H0 := hG.word0 X HXX.out hxn
      have H1 := hG.word1 X HXX.out hxn (by rw [hck]; omega)
      have HC := hG.ckx X HXX.out
      rw [hck] at H0 H1 HC
      have HT := kturn_all wr gap hg g o a.length c a (HW2.out.fr hG.f) hb.1 hb.2 x HX.out HXS.out k (by omega)
      have hlog : logMax (iterN x k (bootN (keepImg gap a a.length))).devs k := by
        have := iterN_log x (bootN (keepImg gap a a.length)) 0 (by intro d hd; simp only [bootN, List.mem_replicate] at hd; rw [hd.2]; simp) k
        rw [Nat.zero_add] at this
        exact this
      have HR := hG.run 1 k hlog (by have : (runN 1).toNat = 1 := rfl; omega) (by have : (runN 1).toNat = 1 := rfl; rw [hck]; omega) X HXX.out
      have hr1 : runN 1 = 1 := rfl
      rw [hr1] at HR
      have hTb := turnN_bd x HXS.out.q HXS.out.ql k (by omega)
      have HH0 := hid H0
      have HH1 := hid H1
      have HHC := hid HC
      have HHT := hid HT
      have HHR := hid HR
      generalize turnN x (k : Int) = T at *
      obtain ⟨tn, rfl⟩ := Int.eq_ofNat_of_zero_le hTb.1
      have htn : tn ≤ 4 := by omega
      clear H0 H1 HC HT HR hlog hck hTb hr1 hG
      go_wp2_with fail
      refine HH0.out.mono ?_
      rintro e w5 ⟨rfl, rfl⟩
      go_wp2_with fail
      refine HH1.out.mono ?_
      rintro e w6 ⟨rfl, rfl⟩
      go_wp2_with fail
      refine HHT.out.mono ?_
      rintro e w7 ⟨rfl, rfl⟩
      go_wp2_with fail
      refine HHC.out.mono ?_
      rintro e w8 ⟨rfl, rfl⟩
      go_wp2_with fail
      refine HHR.out.mono ?_
      rintro e w9 ⟨rfl, hG9⟩
      have HG9 := hid hG9
      clear hG9
      go_wp2_with fail
      go_roundw
      case rel => exact ⟨k + 1, by omega, by go_num, HG9.out⟩
      case measure => simp [intOf]; omega
    · obtain rfl : k = N + 1 := by omega
      have hki : ¬ ((N + 1 : Nat) : Int) ≤ (N : Int) := by omega
      have HG := hid hG
      clear hG
      go_wp2_with fail
      go_ret
      exact ⟨rfl, HF12.out.step HG.out.f (fun _ h => .inl h)⟩

end Go.Proofs.Ythmcheoehcmglaa
