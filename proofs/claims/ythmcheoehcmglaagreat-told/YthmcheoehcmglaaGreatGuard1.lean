/- wardskeep.Guarded, walked. -/
import Derived.Test.YthmcheoehcmglaaGreatGuard0
namespace Go.Proofs.YthmcheoehcmglaaGreat
open Go.RowKit
set_option linter.unusedVariables false
attribute [local go_sem ↓] Go.wp_at_zero Go.wp_at_succ

/-- append of m elements that lie in a block of their own, at a plain region's list. -/
theorem wpList_appM {P : Program} {w : World} {ops : Array Oper} {rest : List Oper} {o : Oper} {a : Act} {Q : Exit → Act → World → Prop} {t e : TypeId} {bytes : Nat} (T : SlT P t e 1 bytes)
    (hgd : o.guard = none) (s x : Operand) (ho : o.op = .call { callee := .builtin .append, args := #[s, x], argTypes := #[t, t] })
    (base : Nat) (v : Value) (n : Nat) (xs : List Value) (hs : a.eval s = v) (hown : w.ownsRow base e 1 v n xs)
    (B m : Nat) (cs : Array Value) (e' : TypeId) (hx : a.eval x = .slice (some ⟨B, 0, none⟩) m m) (hB : w.heap[B]? = some (.cells cs e' (0, 0))) (hl : cs.size = m) (hm : 0 < m) (h1 : ∀ u ∈ cs.toList, u.oneCell' = true)
    (hn : n + m ≤ 1073741824) (hby : bytes ≤ 4096) (hbase : base ≤ w.heap.size)
    (h : ∀ g cap w', w'.ownsRow base e 1 (.slice (some ⟨g, 0, none⟩) (n + m) cap) (n + m) (xs ++ cs.toList) → Fr (fun i => v.ownBlock = some i) w w' → (v.ownBlock = some g ∨ g = w.heap.size) → wpList P ops Q rest (a.put o.dst (.slice (some ⟨g, 0, none⟩) (n + m) cap)) w') :
    wpList P ops Q (o :: rest) a w := by
  obtain ⟨i, z, hi, hz, hsz, hb, hzs⟩ := T.info
  have hmul : (n + m) * bytes ≤ 1073741824 * 4096 := Nat.mul_le_mul hn hby
  exact wpList_append_lies w hgd s x t ho base e i z 1 bytes T.ht hi hz hsz hb hzs T.pos v n xs hs hown ⟨B, 0, none⟩ m m cs.toList hx (by simp [hl]) (World.news_of_block hB) h1
    hm (by unfold maxLen; omega) (by omega) hbase w.heap.size rfl
    (fun g cap w' h2 h3 h4 h5 => h g cap w' h2 ⟨h3.os, h3.tape, h3.output, h3.size, fun k hk hn => h3.block k hk (fun e => hn e.symm)⟩ h4)

theorem owns_lit {w : World} {base g n : Nat} {e : TypeId} {cs : Array Value} (hb : base ≤ g) (hg : w.heap[g]? = some (.cells cs e (0, 0))) (hn : cs.size = n) (hm : n ≤ maxLen) : w.ownsRow base e 1 (.slice (some ⟨g, 0, none⟩) n n) n cs.toList :=
  ⟨by simp [hn], .inr ⟨g, n, cs, rfl, hb, hg, Nat.le_refl _, hm, by omega, by rw [List.take_of_length_le (by simp [hn])]⟩⟩

/-- Two wards in a slice. -/
theorem wds_two {w : World} {B : Nat} {q0 q1 : Int} {v0 v1 : Value} {l0 l1 : List Int} (hB : w.heap[B]? = some (.cells #[.int .i64 q0, v0, .int .i64 q1, v1] 41 (0, 0))) (h0 : IntsAt w v0 l0) (h1 : IntsAt w v1 l1) (hq0 : I64 q0) (hq1 : I64 q1) (hl0 : ∀ x ∈ l0, I64 x) (hl1 : ∀ x ∈ l1, I64 x) : WdsAt w B 0 2 2 [(q0, l0), (q1, l1)] := by
  refine ⟨rfl, ?_, ?_⟩
  · intro k q ws hk
    match k, hk with
    | 0, hk =>
      simp only [List.getElem?_cons_zero, Option.some.injEq, Prod.mk.injEq] at hk
      obtain ⟨rfl, rfl⟩ := hk
      exact ⟨row_cell hB 0, v0, row_cell hB 1, h0⟩
    | 1, hk =>
      simp only [List.getElem?_cons_succ, List.getElem?_cons_zero, Option.some.injEq, Prod.mk.injEq] at hk
      obtain ⟨rfl, rfl⟩ := hk
      exact ⟨row_cell hB 2, v1, row_cell hB 3, h1⟩
  · intro q ws hm
    simp only [List.mem_cons, Prod.mk.injEq, List.not_mem_nil, or_false] at hm
    rcases hm with ⟨rfl, rfl⟩ | ⟨rfl, rfl⟩
    · exact ⟨hq0, hl0⟩
    · exact ⟨hq1, hl1⟩

/-- What came of the two wards. -/
structure GuardOut (x : KX) (N : NM) (ad v : Int) : Prop where
  n1 : (N.wn.getD 1 zeroWN).now = ⟨regs0, 1, 1, 0, 0, false⟩
  w1 : (N.wn.getD 1 zeroWN).ws = [keepW guardB]
  e0 : ad ≠ 5 → (N.wn.getD 0 zeroWN).now = (guardEnd (keepW (guardA ad v)) ad v).1 ∧ (N.wn.getD 0 zeroWN).ws = (guardEnd (keepW (guardA ad v)) ad v).2.1 ∧ [N.devs.getD 0 zeroD] = (guardEnd (keepW (guardA ad v)) ad v).2.2

theorem guard_out (gap q ad v : Int) (a0 : 0 ≤ ad) (a1 : ad < 4294967296) (x : KX) (hx : XOf (keepImg gap (guardL q ad v) 2) x) (hX : KXs x) : GuardOut x (iterN x 400 (bootN (keepImg gap (guardL q ad v) 2))) ad v := by
  have hxd := keep_xd gap (guardL q ad v) 2 (by omega) (by omega) x hx
  have hrl := keep_len gap (guardL q ad v) 2 x hx
  have hnet := keep_net gap (guardL q ad v) 2 x hx
  have hc := guard_cnt gap q ad v x hx hX
  have p0 := priv_iter x hX hxd 0 (by omega) _ hnet 400
  have p1 := priv_iter x hX hxd 1 (by omega) _ hnet 400
  rw [keep_priv gap (guardL q ad v) 2 (by omega) (by omega) x hx 0 (by omega)] at p0
  rw [keep_priv gap (guardL q ad v) 2 (by omega) (by omega) x hx 1 (by omega)] at p1
  have r0 : x.regs.getD 0 [] = rsK _ := keep_regs gap (guardL q ad v) 2 x hx 0 (by omega)
  have r1 : x.regs.getD 1 [] = rsK _ := keep_regs gap (guardL q ad v) 2 x hx 1 (by omega)
  have hck : (bootN (keepImg gap (guardL q ad v) 2)).ck = 0 := rfl
  rw [hck] at p0 p1
  have t1 := guardB_tr (16 + 16 * ((2 : Nat) : Int) + 64 * ((1 : Nat) : Int))
  rw [← r1] at t1
  have f1 := eq_spOf (trace_rest x 1 t1 (by simp) rfl 400 0 ⟨st0 0, st0 0, [keepW guardB], [zeroD]⟩ rfl hc.2)
  have hp1 : iterP x 1 0 400 ⟨st0 0, st0 0, [keepW guardB], [zeroD]⟩ = privOf x 1 (iterN x 400 (bootN (keepImg gap (guardL q ad v) 2))) := p1.symm
  rw [hp1] at f1
  refine ⟨f1.1, f1.2.1, ?_⟩
  intro h5
  obtain ⟨m, hm, t0⟩ := guard_tr (16 + 16 * ((2 : Nat) : Int) + 64 * ((0 : Nat) : Int)) ad v a0 a1 h5
  rw [← r0] at t0
  have hb : (guardEnd (keepW (guardA ad v)) ad v).1.status ≠ 0 ∧ (guardEnd (keepW (guardA ad v)) ad v).1.y = false := by
    unfold guardEnd
    split
    · simp
    · split <;> simp
  have f0 := eq_spOf (trace_rest x 0 t0 hb.1 hb.2 400 0 ⟨st0 0, st0 0, [keepW (guardA ad v)], [zeroD]⟩ rfl (by omega))
  have hp0 : iterP x 0 0 400 ⟨st0 0, st0 0, [keepW (guardA ad v)], [zeroD]⟩ = privOf x 0 (iterN x 400 (bootN (keepImg gap (guardL q ad v) 2))) := p0.symm
  rw [hp0] at f0
  refine ⟨f0.1, f0.2.1, ?_⟩
  rw [← f0.2.2]
  show _ = ownDv x 0 _
  unfold ownDv
  rw [keep_dv gap (guardL q ad v) 2 (by omega) (by omega) x hx 0, if_pos (by omega)]
  rfl

theorem Going.sb {x : KX} {N : NM} {w wr : World} (h : Going x N w wr) (k : Nat) (hk : k < x.regs.length) : StB (N.wn.getD k zeroWN).now := by
  obtain ⟨s, vL, h1, h2⟩ := h.l
  have hk2 : k < N.wn.length := by have := h1.n.hi.wl; rw [List.length_map] at this; omega
  have hv : N.wn[k]? = some N.wn[k] := List.getElem?_eq_getElem hk2
  rw [getD_of hv]
  exact (h1.n.sb _ (List.getElem_mem hk2)).1

theorem guardA_i64 (ad v : Int) : ∀ z ∈ guardA ad v, I64 z := by
  intro z hz
  simp only [guardA, wordI, List.cons_append, List.nil_append, List.mem_cons, List.not_mem_nil, or_false] at hz
  unfold I64
  rcases hz with rfl | rfl | rfl | rfl | rfl | rfl <;> omega

theorem logS_nil : logS [] = ⟨#[]⟩ := rfl
theorem logS_one (v : Int) : logS [v % 4294967296] = ⟨(lowB v 4).toArray⟩ := by
  unfold logS strOfNums logB wordB lowB lowB lowB lowB lowB byteN
  simp only [List.flatMap_cons, List.flatMap_nil, List.append_nil, List.map_cons, List.map_nil]
  have e1 : v % 4294967296 / 16777216 = v / 256 ^ 3 % 256 := by omega
  have e2 : v % 4294967296 / 65536 % 256 = v / 256 ^ 2 % 256 := by omega
  have e3 : v % 4294967296 / 256 % 256 = v / 256 ^ 1 % 256 := by omega
  have e4 : v % 4294967296 % 256 = v / 256 ^ 0 % 256 := by omega
  rw [e1, e2, e3, e4]

/-- The cases. -/
def GuardCase (s0 : StV) (d0 : DevV) (pw pe ad v : Int) : Prop :=
  (ad = 5) ∨ (ad < 64 ∧ ad ≠ 5 ∧ pw = v % 4294967296 ∧ pe = 0 ∧ s0.status = 1) ∨ (ad = 32769 ∧ logS d0.2 = ⟨(lowB v 4).toArray⟩ ∧ s0.status = 1) ∨ (¬ ad < 64 ∧ ad ≠ 32769 ∧ s0.status = 2 ∧ s0.cause = 3 ∧ s0.place = 4 ∧ logS d0.2 = ⟨#[]⟩ ∧ pe = 6)

theorem guard_case (b : Int) (s0 : StV) (ws0 : List (List Int)) (d0 : DevV) (ad v : Int) (a0 : 0 ≤ ad) (he : ad ≠ 5 → s0 = (guardEnd (keepW (guardA ad v)) ad v).1 ∧ ws0 = (guardEnd (keepW (guardA ad v)) ad v).2.1 ∧ [d0] = (guardEnd (keepW (guardA ad v)) ad v).2.2) :
    ∃ pw pe, peekV (readN (rsK b) 0 ws0 ad) = .tuple #[.int .u32 pw, .int .i64 pe] ∧ GuardCase s0 d0 pw pe ad v := by
  unfold GuardCase
  by_cases h5 : ad = 5
  · cases readN (rsK b) 0 ws0 ad with
    | none => exact ⟨0, 6, rfl, .inl h5⟩
    | some u => exact ⟨u, 0, rfl, .inl h5⟩
  · obtain ⟨h1, h2, h3⟩ := he h5
    have hl := keepW_len (guardA ad v)
    generalize keepW (guardA ad v) = L at *
    unfold guardEnd at h1 h2 h3
    by_cases h64 : ad < 64
    · rw [if_pos h64] at h1 h2 h3
      refine ⟨v % 4294967296, 0, ?_, .inr (.inl ⟨h64, h5, rfl, rfl, by rw [h1]⟩)⟩
      rw [h2]
      show peekV (readN [(0, 64, b, 7)] 0 [L.set ad.toNat (v % 4294967296)] ad) = _
      rw [readK b 0 (by omega) _ ad a0, if_pos h64, getD_set_eq, if_pos ⟨rfl, by omega⟩]
      rfl
    · rw [if_neg h64] at h1 h2 h3
      have hr : ∀ L', readN (rsK b) 0 [L'] ad = none := by
        intro L'
        show readN [(0, 64, b, 7)] 0 [L'] ad = _
        rw [readK b 0 (by omega) _ ad a0, if_neg h64]
      by_cases hd : ad = 32769
      · rw [if_pos hd] at h1 h2 h3
        rw [h2, hr]
        refine ⟨0, 6, rfl, .inr (.inr (.inl ⟨hd, ?_, by rw [h1]⟩))⟩
        have : d0 = (0, [v % 4294967296]) := by simpa using h3
        rw [this]
        exact logS_one v
      · rw [if_neg hd] at h1 h2 h3
        rw [h2, hr]
        refine ⟨0, 6, rfl, .inr (.inr (.inr ⟨h64, hd, by rw [h1], by rw [h1], by rw [h1], ?_, rfl⟩))⟩
        have : d0 = zeroD := by simpa using h3
        rw [this]
        rfl

set_option maxRecDepth 100000 in
set_option maxHeartbeats 4000000 in
theorem guarded_any (w : World) (gap adr v q : Int) (hg : I64 gap) (ha : I64 adr) (hv : I64 v) (hq : I64 q) :
    Calls Tryz.prog 7 #[.int .i64 gap, .int .i64 adr, .int .i64 v, .int .i64 q] w fun e w' => e = .returned (.bool true) ∧ Fr (fun _ => False) w w' := by
  have hp := pickM_bd adr 4294967296 (by omega)
  have HPK := hid (fun w1 => pick_any adr 4294967296 w1 ha (by omega) (by omega))
  generalize pickM adr 4294967296 = ad at *
  have hadi : I64 ad := by unfold I64; omega
  have HW1 := hid (fun w1 => kword_any w1 1 ad (by omega) (by omega) hadi)
  have HW2 := hid (fun w1 => kword_any w1 2 v (by omega) (by omega) hv)
  have HGA : Hid (guardA ad v = [16777216 + 1 * 1048576 + ad / 65536 % 65536, 33554432 + 1 * 1048576 + ad % 65536, 16777216 + 2 * 1048576 + v / 65536 % 65536, 33554432 + 2 * 1048576 + v % 65536, 237043712, 301989888]) := rfl
  generalize 16777216 + 1 * 1048576 + ad / 65536 % 65536 = A1 at *
  generalize 33554432 + 1 * 1048576 + ad % 65536 = A2 at *
  generalize 16777216 + 2 * 1048576 + v / 65536 % 65536 = B1 at *
  generalize 33554432 + 2 * 1048576 + v % 65536 = B2 at *
  have HC1 := hid (fun w1 => code_any 14 2 1 0 w1 (by omega) (by omega) (by omega) (by omega) (by omega) (by omega) (by omega) (by omega))
  have HC2 := hid (fun w1 => code_any 18 0 0 0 w1 (by omega) (by omega) (by omega) (by omega) (by omega) (by omega) (by omega) (by omega))
  go_enter Tryz.func7, Tryz.ntmps7
  go_wp2_with fail
  refine (HPK.out _).mono ?_
  rintro e w1 ⟨rfl, rfl⟩
  go_wp2_with fail
  refine (HW1.out _).mono ?_
  rintro e w2 ⟨rfl, rfl⟩
  go_wp2_with fail
  refine (HW2.out _).mono ?_
  rintro e w3 ⟨rfl, rfl⟩
  have HBA : Hid (((w1.alloc (.cells #[.int .i64 A1, .int .i64 A2] 3)).alloc (.cells #[.int .i64 B1, .int .i64 B2] 3)).heap[w1.heap.size]? = some (.cells #[.int .i64 A1, .int .i64 A2] 3 (0, 0))) := get_alloc (heap_alloc_new w1 _) _
  have HBB : Hid (((w1.alloc (.cells #[.int .i64 A1, .int .i64 A2] 3)).alloc (.cells #[.int .i64 B1, .int .i64 B2] 3)).heap[(w1.alloc (.cells #[.int .i64 A1, .int .i64 A2] 3)).heap.size]? = some (.cells #[.int .i64 B1, .int .i64 B2] 3 (0, 0))) := heap_alloc_new _ _
  have HF2 : Hid (Fr (fun _ => False) w1 ((w1.alloc (.cells #[.int .i64 A1, .int .i64 A2] 3)).alloc (.cells #[.int .i64 B1, .int .i64 B2] 3))) := ((Fr.refl _ w1).alloc _).alloc _
  have HSZ : Hid ((w1.alloc (.cells #[.int .i64 A1, .int .i64 A2] 3)).heap.size = w1.heap.size + 1) := by unfold Hid; simp
  generalize (w1.alloc (.cells #[.int .i64 A1, .int .i64 A2] 3)).alloc (.cells #[.int .i64 B1, .int .i64 B2] 3) = wb at *
  generalize (w1.alloc (.cells #[.int .i64 A1, .int .i64 A2] 3)).heap.size = b2 at *
  have HO1 : Hid (wb.ownsRow w1.heap.size 3 1 (.slice (some ⟨w1.heap.size, 0, none⟩) 2 2) 2 [.int .i64 A1, .int .i64 A2]) := owns_lit (Nat.le_refl _) HBA.out rfl (by unfold maxLen; omega)
  go_wp2_with (first
    | (refine wpList_appM slInt (by rfl) _ _ (by rfl) w1.heap.size (.slice (some ⟨w1.heap.size, 0, none⟩) 2 2) 2 _ (by rfl) HO1.out b2 2 #[.int .i64 B1, .int .i64 B2] _ (by rfl) HBB.out rfl (by omega) (by simp [Value.oneCell']) (by omega) (by decide) HF2.out.size ?_; intro g4 c4 w4 hown4 hf4 hat4; have HO4 := hid hown4; have HF4 := hid (HF2.out.step hf4 (fun i hi => .inr (HO1.out.lt i hi).1)); clear hown4 hf4 hat4))
  refine (HC1.out _).mono ?_
  rintro e w5 ⟨rfl, rfl⟩
  go_wp2_with fail
  refine (HC2.out _).mono ?_
  rintro e w6 ⟨rfl, rfl⟩
  go_wp2_with (first
    | (refine wpList_appM slInt (by rfl) _ _ (by rfl) w1.heap.size (.slice (some ⟨g4, 0, none⟩) 4 c4) 4 _ (by rfl) (HO4.out.alloc _) w6.heap.size 2 #[.int .i64 237043712, .int .i64 301989888] _ (by rfl) (heap_alloc_new w6 _) rfl (by omega) (by simp [Value.oneCell']) (by omega) (by decide) (le_alloc HF4.out.size _) ?_; intro g7 c7 w7 hown7 hf7 hat7; have HO7 := hid hown7; have HF7 := hid ((HF4.out.alloc _).step hf7 (fun i hi => .inr (HO4.out.lt i hi).1)); clear hown7 hf7 hat7))
  refine (HC2.out _).mono ?_
  rintro e w8 ⟨rfl, rfl⟩
  go_wp2_with fail
  have HWD : Hid (WdsAt ((w8.alloc (.cells #[.int .i64 301989888, .int .i64 77] 3)).alloc (.cells #[.int .i64 q, .slice (some ⟨g7, 0, none⟩) 6 c7, .int .i64 1, .slice (some ⟨w8.heap.size, 0, none⟩) 2 2] 41)) (w8.heap.size + 1) 0 2 2 (guardL q ad v)) := by
    have hb := heap_alloc2_new w8 (.cells #[.int .i64 301989888, .int .i64 77] 3) (.cells #[.int .i64 q, .slice (some ⟨g7, 0, none⟩) 6 c7, .int .i64 1, .slice (some ⟨w8.heap.size, 0, none⟩) 2 2] 41)
    have h0 : IntsAt ((w8.alloc (.cells #[.int .i64 301989888, .int .i64 77] 3)).alloc (.cells #[.int .i64 q, .slice (some ⟨g7, 0, none⟩) 6 c7, .int .i64 1, .slice (some ⟨w8.heap.size, 0, none⟩) 2 2] 41)) (.slice (some ⟨g7, 0, none⟩) 6 c7) (guardA ad v) := by
      rw [HGA.out]
      exact ints_of_owns ((HO7.out.alloc _).alloc _)
    have h1 : IntsAt ((w8.alloc (.cells #[.int .i64 301989888, .int .i64 77] 3)).alloc (.cells #[.int .i64 q, .slice (some ⟨g7, 0, none⟩) 6 c7, .int .i64 1, .slice (some ⟨w8.heap.size, 0, none⟩) 2 2] 41)) (.slice (some ⟨w8.heap.size, 0, none⟩) 2 2) guardB := ints_of_owns (base := 0) (owns_lit (cs := #[.int .i64 301989888, .int .i64 77]) (Nat.zero_le _) (heap_alloc_oldT w8 _ _) rfl (by unfold maxLen; omega))
    exact wds_two hb h0 h1 hq (by unfold I64; omega) (guardA_i64 ad v) (by intro z hz; simp only [guardB, List.mem_cons, List.not_mem_nil, or_false] at hz; unfold I64; omega)
  have HF8 : Hid (Fr (fun _ => False) w1 ((w8.alloc (.cells #[.int .i64 301989888, .int .i64 77] 3)).alloc (.cells #[.int .i64 q, .slice (some ⟨g7, 0, none⟩) 6 c7, .int .i64 1, .slice (some ⟨w8.heap.size, 0, none⟩) 2 2] 41))) := (HF7.out.alloc _).alloc _
  have HSB : Hid (((w8.alloc (.cells #[.int .i64 301989888, .int .i64 77] 3)).alloc (.cells #[.int .i64 q, .slice (some ⟨g7, 0, none⟩) 6 c7, .int .i64 1, .slice (some ⟨w8.heap.size, 0, none⟩) 2 2] 41)).heap[w8.heap.size]? = some (.cells #[.int .i64 301989888, .int .i64 77] 3 (0, 0))) := heap_alloc_oldT w8 _ _
  generalize (w8.alloc (.cells #[.int .i64 301989888, .int .i64 77] 3)).alloc (.cells #[.int .i64 q, .slice (some ⟨g7, 0, none⟩) 6 c7, .int .i64 1, .slice (some ⟨w8.heap.size, 0, none⟩) 2 2] 41) = w9 at *
  generalize w8.heap.size = S at *
  refine (image_nw w9 gap hg (S + 1) 0 2 2 (guardL q ad v) HWD.out (by omega) (by omega)).mono ?_
  rintro e w10 ⟨rfl, hf10⟩
  have HF10 := hid (HF8.out.step hf10 (fun _ h => .inl h))
  have HS10 := hid (hf10.get HSB.out id)
  have HBT := hid (fun w3 => keepBoot w3 gap (guardL q ad v) 2 (by omega) (by omega))
  clear hf10 HWD HSB HF8
  go_wp2_with fail
  refine (HBT.out _).mono ?_
  rintro e w11 ⟨x, vL, rfl, hl3, hx3, hf3, hk3⟩
  have hG0 : Going x (bootN (keepImg gap (guardL q ad v) 2)) w10 w11 := ⟨⟨_, vL, hl3, hk3⟩, hf3⟩
  have hrl : x.regs.length = 2 := keep_len _ _ _ x hx3
  have hdn : x.dn = 2 := keep_dn _ _ _ x hx3
  have HOUT := hid (guard_out gap q ad v hp.1 hp.2 x hx3 hl3.x)
  have HR0 : Hid (x.regs.getD 0 [] = rsK (16 + 16 * ((2 : Nat) : Int) + 64 * ((0 : Nat) : Int))) := keep_regs gap (guardL q ad v) 2 x hx3 0 (by omega)
  have HR1 : Hid (x.regs.getD 1 [] = rsK (16 + 16 * ((2 : Nat) : Int) + 64 * ((1 : Nat) : Int))) := keep_regs gap (guardL q ad v) 2 x hx3 1 (by omega)
  obtain ⟨X, hXX⟩ : ∃ X, x.X = X := ⟨_, rfl⟩
  rw [hXX]
  have HXX := hid hXX
  have hrN : runN 400 = 400 := rfl
  have HR := hid (hG0.run 400 0 (by intro d hd; simp only [bootN, List.mem_replicate] at hd; rw [hd.2]; simp) (by have : (runN 400).toNat = 400 := rfl; omega) (by have : (runN 400).toNat = 400 := rfl; simp only [bootN]; omega) X hXX)
  rw [hrN] at HR
  replace HR : Hid (Calls Tryz.prog 21 #[.pointer (some ⟨X, 0, none⟩), .int .i64 400] w11 fun e w' => e = .returned (.int .i64 400) ∧ Going x (iterN x 400 (bootN (keepImg gap (guardL q ad v) 2))) w10 w') := HR
  generalize iterN x 400 (bootN (keepImg gap (guardL q ad v) 2)) = N at *
  clear hl3 hx3 hf3 hk3 HBT hG0 hXX hrN
  go_wp2_with fail
  refine HR.out.mono ?_
  rintro e w12 ⟨rfl, hG⟩
  have HG12 := hid hG
  clear hG HR
  go_wp2_with fail
  go_loopw [13] (fun i wr => ∃ k : Nat, k ≤ 64 ∧ i = .int .i64 k ∧ Going x N w10 wr) (fun i _ => 64 - (intOf i).toNat)
  case atStart => exact ⟨0, Nat.zero_le _, rfl, HG12.out⟩
  case round =>
    obtain ⟨k, hk, rfl, hG⟩ := hrel
    clear HG12
    by_cases hlt : k < 64
    · have hki : (k : Int) < 64 := by omega
      have HPE := hid (hG.peek X HXX.out 1 (by omega) k (by omega) (by omega))
      rw [HR1.out, HOUT.out.w1] at HPE
      have hread : readN (rsK (16 + 16 * ((2 : Nat) : Int) + 64 * ((1 : Nat) : Int))) 0 [keepW guardB] (k : Int) = some (if k < 2 then guardB.getD k 0 else 0) := by
        unfold rsK
        rw [readK _ 0 (by omega) _ _ (by omega), if_pos (by omega), Int.toNat_natCast, keepW_get guardB (by simp [guardB])]
        have e : guardB.length = 2 := rfl
        rw [e]
        by_cases h2 : k < 2
        · rw [if_pos h2, if_pos h2]
          rcases (show k = 0 ∨ k = 1 by omega) with rfl | rfl <;> rfl
        · rw [if_neg h2, if_neg h2]
      rw [hread] at HPE
      have HG := hid hG
      have HSC := hid (hG.f.get HS10.out id)
      clear hG hread
      by_cases h2 : k < 2
      · rw [if_pos h2] at HPE
        rcases (show k = 0 ∨ k = 1 by omega) with rfl | rfl
        · replace HPE : Hid (Calls Tryz.prog 22 #[.pointer (some ⟨X, 0, none⟩), .int .i64 1, .int .u32 0] wr fun e w' => e = .returned (.tuple #[.int .u32 301989888, .int .i64 0]) ∧ Fr (fun _ => False) wr w') := HPE
          go_wp2_with fail
          refine HPE.out.mono ?_
          rintro e w13 ⟨rfl, hf13⟩
          have HG13 := hid (HG.out.fr hf13)
          have cS : w13.cell? ⟨S, 0, none⟩ = some (.int .i64 301989888) := row_cell (hf13.get HSC.out id) 0
          clear hf13
          go_wp2_with fail
          go_roundw
          case rel => exact ⟨1, by omega, by go_num, HG13.out⟩
          case measure => simp [intOf]
        · replace HPE : Hid (Calls Tryz.prog 22 #[.pointer (some ⟨X, 0, none⟩), .int .i64 1, .int .u32 1] wr fun e w' => e = .returned (.tuple #[.int .u32 77, .int .i64 0]) ∧ Fr (fun _ => False) wr w') := HPE
          go_wp2_with fail
          refine HPE.out.mono ?_
          rintro e w13 ⟨rfl, hf13⟩
          have HG13 := hid (HG.out.fr hf13)
          have cS : w13.cell? ⟨S, 1, none⟩ = some (.int .i64 77) := row_cell (hf13.get HSC.out id) 1
          clear hf13
          go_wp2_with fail
          go_roundw
          case rel => exact ⟨2, by omega, by go_num, HG13.out⟩
          case measure => simp [intOf]
      · rw [if_neg h2] at HPE
        replace HPE : Hid (Calls Tryz.prog 22 #[.pointer (some ⟨X, 0, none⟩), .int .i64 1, .int .u32 k] wr fun e w' => e = .returned (.tuple #[.int .u32 0, .int .i64 0]) ∧ Fr (fun _ => False) wr w') := HPE
        have h2i : ¬ (k : Int) < 2 := by omega
        go_wp2_with fail
        refine HPE.out.mono ?_
        rintro e w13 ⟨rfl, hf13⟩
        have HG13 := hid (HG.out.fr hf13)
        clear hf13
        go_wp2_with fail
        go_roundw
        case rel => exact ⟨k + 1, by omega, by go_num, HG13.out⟩
        case measure => simp [intOf]; omega
    · obtain rfl : k = 64 := by omega
      have HG := hid hG
      have HV0 := hid (hG.view X HXX.out 0 (by omega))
      have HV1 := hid (fun (w1 : World) (h1 : Going x N w10 w1) => h1.view X HXX.out 1 (by omega))
      rw [HOUT.out.n1] at HV1
      replace HV1 : Hid (∀ w1, Going x N w10 w1 → Calls Tryz.prog 23 #[.pointer (some ⟨X, 0, none⟩), .int .i64 1] w1 fun e w' => e = .returned (.tuple #[.agg #[.int .u32 0, .int .u32 0, .int .u32 0, .int .u32 0, .int .u32 0, .int .u32 0, .int .u32 0, .int .u32 0, .int .u32 1, .int .i64 1, .int .i64 0, .int .i64 0, .bool false], .int .i64 0]) ∧ Fr (fun _ => False) w1 w') := HV1
      have HPE := hid (fun (w1 : World) (h1 : Going x N w10 w1) => h1.peek X HXX.out 0 (by omega) ad hp.1 hp.2)
      have HLG := hid (fun (w1 : World) (h1 : Going x N w10 w1) => h1.log X HXX.out 0 (by omega))
      have hB := hG.sb 0 (by omega)
      obtain ⟨r0, r1, r2, r3, r4, r5, r6, r7, hr, hc⟩ := st_lit _ hB.l
      have HE0 := hid HOUT.out.e0
      rw [HR0.out] at HPE
      obtain ⟨s0, hs0⟩ : ∃ s0, (N.wn.getD 0 zeroWN).now = s0 := ⟨_, rfl⟩
      obtain ⟨ws0, hws0⟩ : ∃ ws0, (N.wn.getD 0 zeroWN).ws = ws0 := ⟨_, rfl⟩
      obtain ⟨d0, hd0⟩ : ∃ d0, N.devs.getD 0 zeroD = d0 := ⟨_, rfl⟩
      rw [hs0] at HV0 HE0 hc
      rw [hws0] at HPE HE0
      rw [hd0] at HLG HE0
      rw [hc] at HV0
      clear hG hB hr hs0 hws0 hd0 HOUT
      go_wp2_with fail
      refine HV0.out.mono ?_
      rintro e w13 ⟨rfl, hf13⟩
      have HG13 := hid (HG.out.fr hf13)
      clear hf13 HV0 HG
      have HG14 := hid (HG13.out.fr ((Fr.refl _ w13).alloc (.cells #[.int .u32 r0, .int .u32 r1, .int .u32 r2, .int .u32 r3, .int .u32 r4, .int .u32 r5, .int .u32 r6, .int .u32 r7, .int .u32 s0.place, .int .i64 s0.status, .int .i64 s0.cause, .int .i64 s0.busy, .bool s0.y] 48)))
      have HB14 := hid (heap_alloc_new w13 (.cells #[.int .u32 r0, .int .u32 r1, .int .u32 r2, .int .u32 r3, .int .u32 r4, .int .u32 r5, .int .u32 r6, .int .u32 r7, .int .u32 s0.place, .int .i64 s0.status, .int .i64 s0.cause, .int .i64 s0.busy, .bool s0.y] 48))
      clear HG13
      go_wp2_with fail
      generalize w13.alloc (.cells #[.int .u32 r0, .int .u32 r1, .int .u32 r2, .int .u32 r3, .int .u32 r4, .int .u32 r5, .int .u32 r6, .int .u32 r7, .int .u32 s0.place, .int .i64 s0.status, .int .i64 s0.cause, .int .i64 s0.busy, .bool s0.y] 48) = w14 at *
      generalize w13.heap.size = B at *
      refine (HV1.out _ HG14.out).mono ?_
      rintro e w15 ⟨rfl, hf15⟩
      have HG15 := hid ((HG14.out.fr hf15).fr ((Fr.refl _ w15).alloc (.cells #[.int .u32 0, .int .u32 0, .int .u32 0, .int .u32 0, .int .u32 0, .int .u32 0, .int .u32 0, .int .u32 0, .int .u32 1, .int .i64 1, .int .i64 0, .int .i64 0, .bool false] 48)))
      have HB15 := hid (get_alloc (hf15.get HB14.out id) (.cells #[.int .u32 0, .int .u32 0, .int .u32 0, .int .u32 0, .int .u32 0, .int .u32 0, .int .u32 0, .int .u32 0, .int .u32 1, .int .i64 1, .int .i64 0, .int .i64 0, .bool false] 48))
      clear hf15 HV1 HG14 HB14
      go_wp2_with fail
      obtain ⟨pw, pe, hpv, hca⟩ := guard_case _ s0 ws0 d0 ad v hp.1 HE0.out
      rw [hpv] at HPE
      clear hpv HE0
      refine (HPE.out _ HG15.out).mono ?_
      rintro e w16 ⟨rfl, hf16⟩
      have HG16 := hid (HG15.out.fr hf16)
      have hB16 := hf16.get HB15.out id
      have HB16 := hid hB16
      have d9 := row_cell hB16 9
      have d10 := row_cell hB16 10
      have d8 := row_cell hB16 8
      have HFR := hid (HF10.out.step HG16.out.f (fun _ h => .inl h))
      clear hf16 HPE HG15 HB15 hB16
      go_wp2_with fail
      refine (HLG.out _ HG16.out).mono ?_
      rintro e w17 ⟨rfl, rfl⟩
      clear HG16 HLG
      unfold GuardCase at hca
      rcases hca with h5 | ⟨h64, h5, h1, h2, h3⟩ | ⟨hd, h1, h2⟩ | ⟨h64, hd, h1, h2, h3, h4, h6⟩
      · subst h5
        go_wp2_with fail
        go_ret
        exact ⟨rfl, HFR.out⟩
      · subst h1 h2
        rw [h3] at d9
        go_wp2_with fail
        go_ret
        exact ⟨rfl, HFR.out⟩
      · subst hd
        rw [h2] at d9
        rw [h1]
        go_wp2_with fail
        refine (bytes4 v _ hv).mono ?_
        rintro e w18 ⟨rfl, hf18⟩
        have HFR2 := hid (HFR.out.step hf18 (fun _ h => .inl h))
        replace d9 := row_cell (hf18.get HB16.out id) 9
        rw [h2] at d9
        clear hf18
        go_wp2_with fail
        go_ret
        exact ⟨rfl, HFR2.out⟩
      · rw [h1] at d9
        rw [h2] at d10
        rw [h3] at d8
        rw [h4]
        subst h6
        go_wp2_with fail
        go_ret
        exact ⟨rfl, HFR.out⟩

end Go.Proofs.YthmcheoehcmglaaGreat
