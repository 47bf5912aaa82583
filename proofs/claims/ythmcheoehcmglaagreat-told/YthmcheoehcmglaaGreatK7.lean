/- Rows: a slice of wards, opened. -/
import Derived.Test.YthmcheoehcmglaaGreatW3
import Derived.Test.YthmcheoehcmglaaGreatK5
import Derived.Test.YthmcheoehcmglaaGreatK1
namespace Go.Proofs.YthmcheoehcmglaaGreat
open Go.ChangeShapes Go.WideShapes Go.ChangeAt Go.RowKit Go.Deep
set_option linter.unusedVariables false

theorem wards_open {H : Type} {enc : TypeId × Value → H} {W : World} {fuel : Nat} {v : Value} {x : DataW H × List MemPlace} (h : DataW.trod enc Tryz.prog W 0 (fun _ => true) true fuel 42 [v] = some x) :
    ∃ l : List (Int × List Int), WdsV W v l ∧ l.length ≤ maxLen := by
  rcases open_slice_pairs Tryz.underlying42 Tryz.underlying41 (by kernel_rfl) (by kernel_rfl) (by kernel_rfl) (by kernel_rfl) (by kernel_rfl) h with ⟨h1, -⟩ | ⟨a, len, cap, m, n, V0, V1, D0, D1, P0, P1, h1, -, hlc, hcm, hm, -, hel⟩
  · simp only [List.cons.injEq, and_true] at h1
    subst h1
    exact ⟨[], ⟨none, 0, rfl, by simp, by omega, by simp⟩, by simp⟩
  · simp only [List.cons.injEq, and_true] at h1
    subst h1
    simp only [if_true] at hm
    have hcap : cap ≤ 9223372036854775807 := by unfold maxLen at hcm; omega
    have each : ∀ i, i < len → ∃ p : Int × List Int, V0 i = .int .i64 p.1 ∧ I64 p.1 ∧ IntsAt W (V1 i) p.2 ∧ ∀ z ∈ p.2, I64 z := by
      intro i hi
      obtain ⟨-, -, h3, h4⟩ := hel i (by omega)
      obtain ⟨q, hq, -, hwf⟩ := DataW.trod_int Tryz.underlying3 h3
      obtain ⟨ws, hws, hwb, -⟩ := ints_open h4
      simp only [List.cons.injEq, and_true] at hq
      exact ⟨(q, ws), hq, i64_of_wf hwf, hws, hwb⟩
    obtain ⟨f, hf⟩ := choose_lt each
    have hll : ((List.range len).map f).length = len := by simp
    refine ⟨(List.range len).map f, ⟨some a, cap, by rw [hll], by rw [hll]; exact hlc, hcap, ?_⟩, by rw [hll]; omega⟩
    intro h1
    rw [hll] at h1 ⊢
    have hc0 := (hel 0 (by omega)).1
    obtain ⟨b, off, spot⟩ := a
    have hspot : spot = none := by simpa [Addr.add] using World.cell?_spot hc0
    subst hspot
    refine ⟨b, off, rfl, by simp, ?_, ?_⟩
    · intro k q ws hk
      rw [List.getElem?_map] at hk
      simp only [Option.map_eq_some_iff] at hk
      obtain ⟨i, hi, hfi⟩ := hk
      obtain ⟨hil, hie⟩ := List.getElem?_eq_some_iff.1 hi
      simp only [List.length_range] at hil
      simp only [List.getElem_range] at hie
      subst hie
      obtain ⟨h2, h3, -, -⟩ := hel k (by omega)
      have h4 := hf k hil
      rw [hfi] at h4
      rw [add_plain] at h2 h3
      refine ⟨by rw [h2, h4.1], V1 k, by rw [← h3, Nat.add_assoc], h4.2.2.1⟩
    · intro q ws hm'
      simp only [List.mem_map, List.mem_range] at hm'
      obtain ⟨i, hi, hfi⟩ := hm'
      have h4 := hf i hi
      rw [hfi] at h4
      exact ⟨h4.2.1, h4.2.2.2⟩

end Go.Proofs.YthmcheoehcmglaaGreat
/- What the statements of wardskeep share: their image booted, their turn. -/
namespace Go.Proofs.YthmcheoehcmglaaGreat
open Go.RowKit
set_option linter.unusedVariables false
attribute [local go_sem ↓] Go.wp_at_zero Go.wp_at_succ

theorem keep_qs (gap : Int) (l : List (Int × List Int)) (n : Nat) (hl : l.length = n) (x : KX) (hx : XOf (keepImg gap l n) x) : x.qs = qsOf l := by
  rw [hx.qs]
  unfold keepImg qsOf
  simp only [List.map_map]
  apply List.ext_getElem?
  intro i
  rw [List.getElem?_map, List.getElem?_map]
  by_cases hi : i < n
  · rw [List.getElem?_range hi, List.getElem?_eq_getElem (by omega)]
    simp [wardOf, hl, hi]
  · rw [List.getElem?_eq_none (by simp; omega), List.getElem?_eq_none (by omega)]
    rfl
theorem keep_len (gap : Int) (l : List (Int × List Int)) (n : Nat) (x : KX) (hx : XOf (keepImg gap l n) x) : x.regs.length = n := by rw [hx.regs]; simp [keepImg]

/-- The statements' turn is the machine's. -/
theorem turn_eq (x : KX) (h : QsOk x.gap x.qs) (hl : x.qs.length = x.regs.length) (t : Int) (t0 : 0 < t) (k : Nat) (hk : k < x.qs.length) (h1 : accN x.gap x.qs k ≤ (t - 1) % accN x.gap x.qs x.qs.length) (h2 : (t - 1) % accN x.gap x.qs x.qs.length < accN x.gap x.qs (k + 1)) :
    turnV x.gap (x.qs.getD k 0) x.regs.length k ((t - 1) % accN x.gap x.qs x.qs.length - accN x.gap x.qs k) = turnN x t := by
  have hs : SlotIs x (t - 1) k ((t - 1) % accN x.gap x.qs x.qs.length - accN x.gap x.qs k) := slot_of h _ _ _ hk (by omega) (by simp only [accN] at h2; omega) (by unfold roundK; omega)
  have := turn_next (t - 1) (by omega) k _ hs
  rw [show t - 1 + 1 = t by omega] at this
  rw [this]
  have hr1 := hs.r1
  unfold turnV
  split
  · rfl
  · split
    · rw [if_neg (by omega)]
    · rw [if_pos (by omega)]

theorem turnN_bd (x : KX) (h : QsOk x.gap x.qs) (hl : x.qs.length = x.regs.length) (t : Int) (t0 : 0 ≤ t) : 0 ≤ turnN x t ∧ turnN x t ≤ 4 := by
  have hl4 := h.l2
  by_cases ht : t = 0
  · unfold turnN; rw [if_pos ht]; omega
  · obtain ⟨k, r, hs⟩ := slot_is h (t - 1) (by omega)
    have := turn_next (t - 1) (by omega) k r hs
    rw [show t - 1 + 1 = t by omega] at this
    have hk := hs.kl
    have hm : (k + 1) % x.regs.length < x.regs.length := Nat.mod_lt _ (by omega)
    rw [this]
    split
    · omega
    · split <;> omega

set_option maxRecDepth 100000 in
set_option maxHeartbeats 1000000 in
theorem kturn_zero (w : World) (gap : Int) (v : Value) :
    Calls Tryz.prog 28 #[.int .i64 gap, v, .int .i64 0] w fun e w' => w' = w ∧ e = .returned (.int .i64 0) := by
  go_enter Tryz.func28, Tryz.ntmps28
  go_wp2_with fail
  go_ret
  exact ⟨rfl, rfl⟩

theorem kturn_all (w : World) (gap : Int) (hg : I64 gap) (g o n c : Nat) (l : List (Int × List Int)) (h : WdsAt w g o n c l) (n1 : 1 ≤ n) (n4 : n ≤ 4) (x : KX) (hx : XOf (keepImg gap l n) x) (hX : KXs x) (t : Nat) (t1 : t ≤ 1000000) :
    Calls Tryz.prog 28 #[.int .i64 gap, .slice (some ⟨g, o, none⟩) n c, .int .i64 t] w fun e w' => w' = w ∧ e = .returned (.int .i64 (turnN x t)) := by
  have hqs := keep_qs gap l n h.len x hx
  have hrl := keep_len gap l n x hx
  have hql := hX.ql
  by_cases ht : t = 0
  · subst ht
    refine (kturn_zero w gap _).mono ?_
    rintro e w' ⟨rfl, rfl⟩
    exact ⟨rfl, by unfold turnN; rfl⟩
  · refine (kturn_any w gap hg g o n c l h n1 n4 t (by omega) (by omega)).mono ?_
    rintro e w' ⟨rfl, k, hk, h1, h2, rfl⟩
    refine ⟨rfl, ?_⟩
    have hgp : x.gap = withinM gap 1 16 := hx.gap
    have hqn : x.qs.length = n := by omega
    rw [← hgp, ← hqs, ← hqn] at h1 h2
    have := turn_eq x hX.q hql t (by omega) k (by omega) h1 h2
    rw [← this, ← hgp, ← hqs, hqn, hrl]

/-- A machine in a loop of a statement. -/
structure Going (x : KX) (N : NM) (w wr : World) : Prop where
  l : ∃ s vL, Live x s N vL wr ∧ ∀ i, KA x vL i → w.heap.size ≤ i
  f : Fr (fun _ => False) w wr

theorem Going.fr {x : KX} {N : NM} {w wr w' : World} (h : Going x N w wr) (hf : Fr (fun _ => False) wr w') : Going x N w w' := by
  obtain ⟨s, vL, h1, h2⟩ := h.l
  exact ⟨⟨s, vL, h1.frF hf, h2⟩, h.f.step hf (fun _ h => .inl h)⟩

theorem Going.run {x : KX} {N : NM} {w wr : World} (h : Going x N w wr) (n : Int) (L : Nat) (hL : logMax N.devs L) (hLn : 4 * (L + (runN n).toNat) ≤ 140737488355328) (hc : N.ck + (runN n).toNat ≤ 9223372036854775807) (X : Nat) (hX : x.X = X) :
    Calls Tryz.prog 21 #[.pointer (some ⟨X, 0, none⟩), .int .i64 n] wr fun e w' => e = .returned (.int .i64 (runN n)) ∧ Going x (iterN x (runN n).toNat N) w w' := by
  subst hX
  obtain ⟨s, vL, h1, h2⟩ := h.l
  refine (h1.run n L hL hLn hc).mono ?_
  rintro e w' ⟨rfl, vL', h3, h4, h5⟩
  refine ⟨rfl, ⟨_, vL', h3, ?_⟩, h.f.step h5 (fun i hi => .inr (h2 i hi))⟩
  intro i hi
  rcases KA.mono h4 i hi with h6 | h6
  · exact h2 i h6
  · exact Nat.le_trans h.f.size h6

theorem Going.ckx {x : KX} {N : NM} {w wr : World} (h : Going x N w wr) (X : Nat) (hX : x.X = X) : Calls Tryz.prog 60 #[.pointer (some ⟨X, 0, none⟩)] wr fun e w' => e = .returned (.int .i64 N.ck) ∧ w' = wr := by
  subst hX
  obtain ⟨s, vL, h1, h2⟩ := h.l
  exact h1.clock
theorem Going.word {x : KX} {N : NM} {w wr : World} (h : Going x N w wr) (X : Nat) (hX : x.X = X) (i : Nat) (hi : i < x.n) : ∃ s, Sim x s N ∧ Calls Tryz.prog 29 #[.pointer (some ⟨X, 0, none⟩), .int .i64 i] wr fun e w' => e = .returned (.tuple #[.int .u32 (s.mem.getD i 0), .int .i64 0]) ∧ w' = wr := by
  subst hX
  obtain ⟨s, vL, h1, h2⟩ := h.l
  refine ⟨s, h1.n, ?_⟩
  have := h1.word i
  rw [if_pos (by omega), if_pos (by omega)] at this
  exact this
theorem Going.word0 {x : KX} {N : NM} {w wr : World} (h : Going x N w wr) (X : Nat) (hX : x.X = X) (hn : 64 ≤ x.n) : Calls Tryz.prog 29 #[.pointer (some ⟨X, 0, none⟩), .int .i64 0] wr fun e w' => e = .returned (.tuple #[.int .u32 (turnN x N.ck), .int .i64 0]) ∧ w' = wr := by
  obtain ⟨s, h1, h2⟩ := h.word X hX 0 (by omega)
  rw [h1.t0] at h2
  exact h2
theorem Going.word1 {x : KX} {N : NM} {w wr : World} (h : Going x N w wr) (X : Nat) (hX : x.X = X) (hn : 64 ≤ x.n) (hc : N.ck < 4294967296) : Calls Tryz.prog 29 #[.pointer (some ⟨X, 0, none⟩), .int .i64 1] wr fun e w' => e = .returned (.tuple #[.int .u32 N.ck, .int .i64 0]) ∧ w' = wr := by
  obtain ⟨s, h1, h2⟩ := h.word X hX 1 (by omega)
  rw [h1.t1, Int.emod_eq_of_lt h1.c0 hc] at h2
  exact h2

/-- The statements' image, as bytes. -/
def keepB (gap : Int) (l : List (Int × List Int)) (n : Nat) : List UInt8 := headB gap n 0 ++ (List.range n).flatMap (fun k : Nat => wardB (16 + 16 * n) k (l.getD k (0, [])).1 (l.getD k (0, [])).2) ++ (List.range n).flatMap (fun k : Nat => lowB (k : Int) 1)
theorem words_len (W : List Int) : (W.flatMap (fun x => lowB x 4)).length = 4 * W.length := by
  induction W with
  | nil => rfl
  | cons v W ih => simp only [List.flatMap_cons, List.length_append, lowB_len, ih, List.length_cons]; omega
theorem flat_le {α β : Type} (f : α → List β) (B : Nat) (h : ∀ a, (f a).length ≤ B) : ∀ l : List α, (l.flatMap f).length ≤ B * l.length := by
  intro l
  induction l with
  | nil => simp
  | cons a l ih => simp only [List.flatMap_cons, List.length_append, List.length_cons]; have := h a; rw [Nat.mul_succ]; omega
theorem keepB_len (gap : Int) (l : List (Int × List Int)) (n : Nat) (n4 : n ≤ 4) : (keepB gap l n).length ≤ 2000 := by
  unfold keepB headB
  have h1 := flat_le (fun k : Nat => wardB (16 + 16 * n) k (l.getD k (0, [])).1 (l.getD k (0, [])).2) 269 (by
    intro k
    unfold wardB
    simp only [List.length_append, lowB_len, words_len]
    have : ((l.getD k (0, [])).2.take 64).length ≤ 64 := by rw [List.length_take]; omega
    omega) (List.range n)
  have h2 := flat_le (fun k : Nat => lowB (k : Int) 1) 1 (by intro k; rw [lowB_len]; omega) (List.range n)
  simp only [List.length_append, lowB_len, List.length_range] at h1 h2 ⊢
  omega

theorem keepBoot (w : World) (gap : Int) (l : List (Int × List Int)) (n : Nat) (n1 : 1 ≤ n) (n4 : n ≤ 4) :
    Calls Tryz.prog 19 #[.string ⟨(keepB gap l n).toArray⟩] w fun e w' => ∃ x vL, e = .returned (.pointer (some ⟨x.X, 0, none⟩)) ∧ Live x (bootM (keepImg gap l n)) (bootN (keepImg gap l n)) vL w' ∧ XOf (keepImg gap l n) x ∧ Fr (fun _ => False) w w' ∧ (∀ i, KA x vL i → w.heap.size ≤ i) :=
  kboot_any ⟨(keepB gap l n).toArray⟩ (by have := keepB_len gap l n n4; show (keepB gap l n).toArray.size ≤ maxLen; simp only [List.size_toArray]; unfold maxLen; omega) w (keepImg gap l n) true (rimg_keep gap l n n1 n4) (keep_ok gap l n n1 n4)

end Go.Proofs.YthmcheoehcmglaaGreat
/- An instruction's word. -/
namespace Go.Proofs.YthmcheoehcmglaaGreat
open Go.RowKit
set_option linter.unusedVariables false
attribute [local go_sem ↓] Go.wp_at_zero Go.wp_at_succ

theorem i64_join (i : Nat) (a b : Int) (h1 : 0 ≤ a) (h2 : a < 4294967296) (h3 : 0 ≤ b) (h4 : b < 2 ^ i) (hi : i ≤ 32) (hm : a.toNat % 2 ^ i = 0) : bits .or .i64 a b = a + b := by
  obtain ⟨A, rfl⟩ := Int.eq_ofNat_of_zero_le h1
  obtain ⟨B, rfl⟩ := Int.eq_ofNat_of_zero_le h3
  have hp : (2 : Nat) ^ i ≤ 2 ^ 32 := Nat.pow_le_pow_right (by omega) hi
  have hB : B < 2 ^ i := by
    have : ((2 ^ i : Nat) : Int) = (2 : Int) ^ i := by simp
    omega
  have hx := nat_join i A B (by simpa using hm) hB
  show IntKind.i64.wrap ((BitVec.ofInt 64 (A : Int) ||| BitVec.ofInt 64 (B : Int)).toNat : Int) = _
  rw [BitVec.toNat_or, ofInt_u64 A (by omega), ofInt_u64 B (by omega), hx, IntKind.wrap_i64]
  omega

set_option maxRecDepth 100000 in
set_option maxHeartbeats 1000000 in
theorem code_any (c a b n : Int) (w : World) (hc0 : 0 ≤ c) (hc1 : c < 256) (ha0 : 0 ≤ a) (ha1 : a < 16) (hb0 : 0 ≤ b) (hb1 : b < 16) (hn0 : 0 ≤ n) (hn1 : n < 65536) :
    Calls Tryz.prog 18 #[.int .i64 c, .int .i64 a, .int .i64 b, .int .i64 n] w fun e w' => e = .returned (.int .i64 (c * 16777216 + a * 1048576 + b * 65536 + n)) ∧ w' = w := by
  have e1 := i64_join 24 (c * 16777216) (a * 1048576) (by omega) (by omega) (by omega) (by omega) (by omega) (by omega)
  have e2 := i64_join 20 (c * 16777216 + a * 1048576) (b * 65536) (by omega) (by omega) (by omega) (by omega) (by omega) (by omega)
  have e3 := i64_join 16 (c * 16777216 + a * 1048576 + b * 65536) n (by omega) (by omega) (by omega) (by omega) (by omega) (by omega)
  go_enter Tryz.func18, Tryz.ntmps18
  go_wp2_with fail
  go_ret
  exact ⟨rfl, rfl⟩

end Go.Proofs.YthmcheoehcmglaaGreat
/- wardskeep: lives, saved. -/
namespace Go.Proofs.YthmcheoehcmglaaGreat
open Go.RowKit
set_option linter.unusedVariables false
attribute [local go_sem ↓] Go.wp_at_zero Go.wp_at_succ

theorem lives_net (x : KX) (hx : XOf (keepImg 1 [(2, [17825797])] 1) x) : ((iterN x 1 (bootN (keepImg 1 [(2, [17825797])] 1))).wn.getD 0 zeroWN).now = ⟨[0, 5, 0, 0, 0, 0, 0, 0], 1, 0, 0, 0, false⟩ := by
  obtain ⟨X, M, n, gap, qs, vQ, gK, cK, regs, vR, wires, vI, dvs, vD, gD, dn⟩ := x
  obtain ⟨h1, h2, h3, h4, h5, h6, h7⟩ := hx
  simp only at h1 h2 h3 h4 h5 h6 h7
  subst h1 h2 h3 h4 h5 h6 h7
  kernel_rfl

theorem Going.view {x : KX} {N : NM} {w wr : World} (h : Going x N w wr) (X : Nat) (hX : x.X = X) (k : Nat) (hk : k < x.regs.length) :
    Calls Tryz.prog 23 #[.pointer (some ⟨X, 0, none⟩), .int .i64 k] wr fun e w' => e = .returned (.tuple #[.agg (stCells (N.wn.getD k zeroWN).now).toArray, .int .i64 0]) ∧ Fr (fun _ => False) wr w' := by
  subst hX
  obtain ⟨s, vL, h1, h2⟩ := h.l
  have hk2 : k < N.wn.length := by have := h1.n.hi.wl; rw [List.length_map] at this; omega
  have hv : N.wn[k]? = some N.wn[k] := List.getElem?_eq_getElem hk2
  rw [getD_of hv]
  exact h1.view k _ hv

theorem lives_wds (w : World) : WdsAt ((w.alloc (.cells #[.int .i64 17825797] 3)).alloc (.cells #[.int .i64 2, .slice (some ⟨w.heap.size, 0, none⟩) 1 1] 41)) (w.heap.size + 1) 0 1 1 [(2, [17825797])] := by
  have h1 := heap_alloc2_new w (.cells #[.int .i64 17825797] 3) (.cells #[.int .i64 2, .slice (some ⟨w.heap.size, 0, none⟩) 1 1] 41)
  have h0 := heap_alloc_oldT w (.cells #[.int .i64 17825797] 3) (.cells #[.int .i64 2, .slice (some ⟨w.heap.size, 0, none⟩) 1 1] 41)
  refine ⟨rfl, ?_, ?_⟩
  · intro k q ws hk
    match k, hk with
    | 0, hk =>
      simp only [List.getElem?_cons_zero, Option.some.injEq, Prod.mk.injEq] at hk
      obtain ⟨rfl, rfl⟩ := hk
      refine ⟨row_cell h1 0, _, row_cell h1 1, some ⟨w.heap.size, 0, none⟩, 1, rfl, by simp, by omega, fun _ => ⟨w.heap.size, 0, rfl, ?_⟩⟩
      intro i x hi
      match i, hi with
      | 0, hi =>
        simp only [List.getElem?_cons_zero, Option.some.injEq] at hi
        subst hi
        exact row_cell h0 0
  · intro q ws hm
    simp only [List.mem_singleton, Prod.mk.injEq] at hm
    obtain ⟨rfl, rfl⟩ := hm
    refine ⟨by unfold I64; omega, ?_⟩
    intro x hx
    simp only [List.mem_singleton] at hx
    subst hx
    unfold I64; omega

set_option maxRecDepth 100000 in
set_option maxHeartbeats 4000000 in
theorem lives_any (w : World) : Calls Tryz.prog 26 #[] w fun e w' => e = .returned (.bool true) ∧ Fr (fun _ => False) w w' := by
  go_enter Tryz.func26, Tryz.ntmps26
  go_wp2_with fail
  refine (code_any 1 1 0 5 _ (by omega) (by omega) (by omega) (by omega) (by omega) (by omega) (by omega) (by omega)).mono ?_
  rintro e w1 ⟨rfl, rfl⟩
  go_wp2_with fail
  refine (image_nw _ 1 (by unfold I64; omega) (w1.heap.size + 1) 0 1 1 [(2, [17825797])] (lives_wds w1) (by omega) (by omega)).mono ?_
  rintro e w2 ⟨rfl, hf2⟩
  have HF2 := hid (((Fr.refl (fun _ => False) w1).alloc _).alloc _ |>.step hf2 (fun _ h => .inl h))
  have HBT := hid (fun w3 => keepBoot w3 1 [(2, [17825797])] 1 (by omega) (by omega))
  clear hf2
  go_wp2_with fail
  refine (HBT.out _).mono ?_
  rintro e w3 ⟨x, vL, rfl, hl3, hx3, hf3, hk3⟩
  have hG0 : Going x (bootN (keepImg 1 [(2, [17825797])] 1)) w2 w3 := ⟨⟨_, vL, hl3, hk3⟩, hf3⟩
  have HX := hid hx3
  have hrl : x.regs.length = 1 := keep_len _ _ _ x hx3
  obtain ⟨X, hXX⟩ : ∃ X, x.X = X := ⟨_, rfl⟩
  rw [hXX]
  have HR := hid (hG0.run 1 0 (by intro d hd; simp only [bootN, List.mem_replicate] at hd; rw [hd.2]; simp) (by have : (runN 1).toNat = 1 := rfl; omega) (by have : (runN 1).toNat = 1 := rfl; simp only [bootN]; omega) X hXX)
  have HXX := hid hXX
  have hr1 : runN 1 = 1 := rfl
  rw [hr1] at HR
  clear hl3 hx3 hf3 hk3 HBT hG0 hXX hr1
  go_wp2_with fail
  refine HR.out.mono ?_
  rintro e w4 ⟨rfl, hG4⟩
  have HG4 := hid hG4
  have HV := hid (hG4.view X HXX.out 0 (by omega))
  have hnow : ((iterN x (1 : Int).toNat (bootN (keepImg 1 [(2, [17825797])] 1))).wn.getD 0 zeroWN).now = ⟨[0, 5, 0, 0, 0, 0, 0, 0], 1, 0, 0, 0, false⟩ := lives_net x HX.out
  rw [hnow] at HV
  replace HV : Hid (Calls Tryz.prog 23 #[.pointer (some ⟨X, 0, none⟩), .int .i64 0] w4 fun e w' => e = .returned (.tuple #[.agg #[.int .u32 0, .int .u32 5, .int .u32 0, .int .u32 0, .int .u32 0, .int .u32 0, .int .u32 0, .int .u32 0, .int .u32 1, .int .i64 0, .int .i64 0, .int .i64 0, .bool false], .int .i64 0]) ∧ Fr (fun _ => False) w4 w') := HV
  clear hG4 hnow HR
  go_wp2_with fail
  refine HV.out.mono ?_
  rintro e w5 ⟨rfl, hf5⟩
  have HF5 := hid hf5
  clear hf5 HV
  go_wp2_with fail
  go_ret
  exact ⟨rfl, ((HF2.out.step HG4.out.f (fun _ h => .inl h)).step HF5.out (fun _ h => .inl h)).alloc _⟩

/-- The word i of a save area, told from a view. -/
def savedV (s : StV) (i : Nat) : Int := if i < 8 then s.regs.getD i 0 else if i = 8 then s.place else if i = 9 then s.status else if i = 10 then s.cause else if i = 11 then s.busy else 0

set_option maxRecDepth 100000 in
set_option maxHeartbeats 4000000 in
theorem saved_any (w : World) (s : StV) (hs : StB s) (i : Nat) (hi : i < 16) :
    Calls Tryz.prog 30 #[.agg (stCells s).toArray, .int .i64 i] w fun e w' => e = .returned (.int .u32 (savedV s i)) ∧ Fr (fun _ => False) w w' := by
  obtain ⟨r0, r1, r2, r3, r4, r5, r6, r7, hr, hc⟩ := st_lit s hs.l
  rw [hc]
  have HE : Hid (savedV s i = if i < 8 then [r0, r1, r2, r3, r4, r5, r6, r7].getD i 0 else if i = 8 then s.place else if i = 9 then s.status else if i = 10 then s.cause else if i = 11 then s.busy else 0) := by unfold Hid savedV; rw [hr]
  generalize savedV s i = sv at *
  have s0 := hs.s0
  have s1 := hs.s1
  have c0 := hs.c0
  have c1 := hs.c1
  have b0 := hs.b0
  have b1 := hs.b1
  clear hc hr hs
  generalize s.place = pl at *
  generalize s.status = stt at *
  generalize s.cause = ca at *
  generalize s.busy = bu at *
  generalize s.y = yy at *
  rcases (show i = 0 ∨ i = 1 ∨ i = 2 ∨ i = 3 ∨ i = 4 ∨ i = 5 ∨ i = 6 ∨ i = 7 ∨ i = 8 ∨ i = 9 ∨ i = 10 ∨ i = 11 ∨ i = 12 ∨ i = 13 ∨ i = 14 ∨ i = 15 by omega) with rfl | rfl | rfl | rfl | rfl | rfl | rfl | rfl | rfl | rfl | rfl | rfl | rfl | rfl | rfl | rfl
  all_goals
    simp only [Nat.reduceLT, if_true, if_false, Nat.reduceEqDiff, List.getD_cons_zero, List.getD_cons_succ] at HE
    go_enter Tryz.func30, Tryz.ntmps30
    go_wp2_with fail
    go_ret
    rw [HE.out]
    exact ⟨rfl, (Fr.refl _ w).alloc _⟩

end Go.Proofs.YthmcheoehcmglaaGreat
