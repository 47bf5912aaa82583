/- Deeds: the image of one ward. -/
import Derived.Test.YthmcheoehcmglaaGreatG11
import Derived.Test.YthmcheoehcmglaaGreatG13
namespace Go.Proofs.YthmcheoehcmglaaGreat
open Go.RowKit
set_option linter.unusedVariables false
attribute [local go_sem ↓] Go.wp_at_zero Go.wp_at_succ
attribute [local go_sem] conv1

set_option maxRecDepth 100000 in
set_option maxHeartbeats 1000000 in
theorem lbytes_any (v : Int) (n : Nat) (w : World) (hv : I64 v) (hn : n ≤ 4) :
    Calls Tryz.prog 41 #[.int .i64 v, .int .i64 n] w fun e w' => (∃ l : List UInt8, l.length = n ∧ e = .returned (.string ⟨l.toArray⟩)) ∧ Fr (fun _ => False) w w' := by
  have HV := hid hv
  clear hv
  go_enter Tryz.func41, Tryz.ntmps41
  go_wp2_with fail
  go_loopw [0, 1, 5] (fun a b c wr => ∃ k : Nat, k ≤ n ∧ b = .int .i64 ((n - k : Nat) : Int) ∧ ∃ (u : Int) (acc : List UInt8), I64 u ∧ acc.length = k ∧ a = .int .i64 u ∧ c = .string ⟨acc.toArray⟩ ∧ Fr (fun _ => False) w wr) (fun _ b _ _ => (intOf b).toNat)
  case atStart => exact ⟨0, Nat.zero_le _, rfl, v, [], HV.out, rfl, rfl, rfl, Fr.refl _ _⟩
  case round =>
    obtain ⟨k, hk, rfl, u, acc, hu, hacc, rfl, rfl, hf⟩ := hrel
    have HF := hid hf
    clear hf
    by_cases hlt : k < n
    · obtain ⟨j, hj⟩ : ∃ j, n - k = j + 1 := ⟨n - k - 1, by omega⟩
      have hj1 : (0 : Int) < ((n - k : Nat) : Int) := by omega
      have HU : Hid (I64 (u.tdiv 256)) := by
        unfold Hid I64
        obtain ⟨hv0, hv1⟩ := hu
        have hs : Int.sign 256 = 1 := rfl
        rw [Int.tdiv_eq_ediv, hs]
        split <;> omega
      obtain ⟨hv0, hv1⟩ := hu
      have hsz : ¬ (9223372036854775807 < 1 + acc.length) := by omega
      go_wp2_with fail
      refine ⟨⟨k + 1, by omega, by go_num, _, UInt8.ofNat (u.tmod 256 % 256).toNat :: acc, HU.out, by simp [hacc], rfl, ?_, HF.out.alloc _⟩, ?_⟩
      · rw [ByteArray.mk_append_mk]
        simp
      · simp [intOf]
        omega
    · obtain rfl : k = n := by omega
      have hj1 : ¬ ((0 : Int) < ((k - k : Nat) : Int)) := by omega
      go_wp2_with fail
      go_ret
      exact ⟨⟨_, hacc, rfl⟩, HF.out⟩
theorem lbytes2 (v : Int) (w : World) (hv : I64 v) : Calls Tryz.prog 41 #[.int .i64 v, .int .i64 2] w fun e w' => (∃ l : List UInt8, l.length = 2 ∧ e = .returned (.string ⟨l.toArray⟩)) ∧ Fr (fun _ => False) w w' :=
  lbytes_any v 2 w hv (by omega)
theorem lbytes4 (v : Int) (w : World) (hv : I64 v) : Calls Tryz.prog 41 #[.int .i64 v, .int .i64 4] w fun e w' => (∃ l : List UInt8, l.length = 4 ∧ e = .returned (.string ⟨l.toArray⟩)) ∧ Fr (fun _ => False) w w' :=
  lbytes_any v 4 w hv (by omega)

attribute [local go_sem] mk_app
set_option maxRecDepth 100000 in
set_option maxHeartbeats 2000000 in
theorem alone_any (w : World) (a : Option Addr) (c : Nat) (ws : List Int) (h : IntsAt w (.slice a ws.length c) ws) (hi : ∀ n ∈ ws, I64 n) (hl : ws.length ≤ 300) :
    Calls Tryz.prog 16 #[.slice a ws.length c] w fun e w' => (∃ t, e = .returned (.string t) ∧ t.size ≤ maxLen) ∧ Fr (fun _ => False) w w' := by
  have H := hid h
  have HI := hid hi
  obtain ⟨n, hn⟩ : ∃ n, ws.length = n := ⟨_, rfl⟩
  rw [hn] at hl H ⊢
  have HN := hid hn
  have HN1 : Hid (I64 ((n : Int) + 16)) := by unfold Hid I64; omega
  have HN2 : Hid (I64 (n : Int)) := by unfold Hid I64; omega
  clear h hi hn
  go_enter Tryz.func16, Tryz.ntmps16
  go_wp2_with fail
  refine (lbytes2 _ _ HN1.out).mono ?_
  rintro e w1 ⟨⟨l1, hl1, rfl⟩, hf1⟩
  have HF1 := hid hf1
  clear hf1
  go_wp2_with fail
  refine (lbytes2 _ _ HN2.out).mono ?_
  rintro e w2 ⟨⟨l2, hl2, rfl⟩, hf2⟩
  have HF2 := hid (HF1.out.step hf2 (fun _ h => .inl h))
  clear hf2 HF1
  go_wp2_with fail
  go_loopw [3, 4] (fun a b wr => ∃ k : Nat, k ≤ n ∧ b = .int .i64 k ∧ ∃ acc : List UInt8, a = .string ⟨acc.toArray⟩ ∧ acc.length = 19 + 4 * k ∧ Fr (fun _ => False) w wr) (fun _ b _ => n - (intOf b).toNat)
  case atStart =>
    refine ⟨0, Nat.zero_le _, rfl, [1, 1, 4, 0, 0, 0, 64, 1, 0, 0, 0, 0] ++ l1 ++ [0, 32, 7] ++ l2, ?_, by simp [hl1, hl2], HF2.out⟩
    simp
  case round =>
    obtain ⟨k, hk, rfl, acc, rfl, hacc, hf⟩ := hrel
    have HF := hid hf
    clear hf HF2
    by_cases hlt : k < n
    · have hlti : (k : Int) < (n : Int) := by omega
      obtain ⟨a', c', hv, hc1, hc2, hrd⟩ := H.out
      have hv' : a = a' := by rw [HN.out] at hv; simp at hv; exact hv.1
      subst hv'
      obtain ⟨b, o, rfl, hcell⟩ := hrd (by rw [HN.out]; omega)
      have hg : ws[k]? = some (ws[k]'(by rw [HN.out]; omega)) := List.getElem?_eq_getElem _
      have hck := cell_fr (hcell k _ hg) HF.out
      have HIK := hid (HI.out _ (List.mem_of_getElem? hg))
      generalize ws[k]'(by rw [HN.out]; omega) = x at *
      clear hv hc1 hc2 hrd hcell hg
      go_wp2_with fail
      refine (lbytes4 _ _ HIK.out).mono ?_
      rintro e w3 ⟨⟨l3, hl3, rfl⟩, hf3⟩
      have HF3 := hid (HF.out.step hf3 (fun _ h => .inl h))
      clear hf3
      go_wp2_with fail
      go_roundw
      case rel => exact ⟨k + 1, by omega, by go_num, acc ++ l3, rfl, by simp [hacc, hl3]; omega, HF3.out⟩
      case measure => simp [intOf]; omega
    · have hlti : ¬ (k : Int) < (n : Int) := by omega
      go_wp2_with fail
      go_ret
      exact ⟨⟨_, rfl, by show acc.toArray.size ≤ _; rw [List.size_toArray, hacc]; unfold maxLen; omega⟩, HF.out⟩

end Go.Proofs.YthmcheoehcmglaaGreat
/- The statement Deeds. -/
namespace Go.Proofs.YthmcheoehcmglaaGreat
open Go.RowKit
set_option linter.unusedVariables false
attribute [local go_sem ↓] Go.wp_at_zero Go.wp_at_succ

theorem slStep : SlT Tryz.prog 25 28 4 32 := SlT.mk' (z := .agg #[.int .i64 0, .int .i64 0, .int .i64 0, .int .i64 0]) Tryz.underlying25 (by kernel_rfl) rfl (by omega)

theorem wpList_app2 {P : Program} {w : World} {ops : Array Oper} {rest : List Oper} {o : Oper} {a : Act} {Q : Exit → Act → World → Prop} {t e : TypeId} (T : SlT P t e 4 32)
    (hgd : o.guard = none) (s x : Operand) (ho : o.op = .call { callee := .builtin .append, args := #[s, x], argTypes := #[t, t] })
    (base : Nat) (v : Value) (n : Nat) (xs : List Value) (hs : a.eval s = v) (hown : w.ownsRow base e 4 v n xs)
    (B : Nat) (cs : Array Value) (e' : TypeId) (hx : a.eval x = .slice (some ⟨B, 0, none⟩) 2 2) (hB : w.heap[B]? = some (.cells cs e' (0, 0))) (hl : cs.size = 8) (h1 : ∀ u ∈ cs.toList, u.oneCell' = true)
    (hn : n + 2 ≤ 1048576) (hbase : base ≤ w.heap.size)
    (h : ∀ g cap w', w'.ownsRow base e 4 (.slice (some ⟨g, 0, none⟩) (n + 2) cap) (n + 2) (xs ++ cs.toList) → Fr (fun i => v.ownBlock = some i) w w' → wpList P ops Q rest (a.put o.dst (.slice (some ⟨g, 0, none⟩) (n + 2) cap)) w') :
    wpList P ops Q (o :: rest) a w := by
  obtain ⟨i, z, hi, hz, hsz, hb, hzs⟩ := T.info
  exact wpList_append_lies w hgd s x t ho base e i z 4 32 T.ht hi hz hsz hb hzs T.pos v n xs hs hown ⟨B, 0, none⟩ 2 2 cs.toList hx (by simp [hl]) (World.news_of_block hB) h1
    (by omega) (by unfold maxLen; omega) (by omega) hbase w.heap.size rfl
    (fun g cap w' h2 h3 h4 h5 => h g cap w' h2 ⟨h3.os, h3.tape, h3.output, h3.size, fun k hk hn => h3.block k hk (fun e => hn e.symm)⟩)

theorem ints_ofo {w : World} {base : Nat} {v : Value} {ws : List Int} (h : w.ownsRow base 3 1 v ws.length (ws.map (Value.int .i64))) : IntsAt w v ws := by
  have h2 := h
  rcases h.2 with ⟨rfl, h1⟩ | ⟨g, cap, cur, rfl, _, hg, hc, hm, _⟩
  · have e : ws = [] := List.eq_nil_of_length_eq_zero h1
    subst e
    exact ⟨none, 0, rfl, by simp, by omega, by simp⟩
  · refine ⟨some ⟨g, 0, none⟩, cap, rfl, hc, by unfold maxLen at hm; omega, fun hl => ⟨g, 0, rfl, ?_⟩⟩
    intro i x hx
    have hi := (List.getElem?_eq_some_iff.1 hx).1
    rw [Nat.zero_add, h2.cellAt i (by omega), List.getElem?_map, hx]
    rfl

theorem steps_of_owns {w : World} {base : Nat} {v : Value} {sc : List Stp} (h : w.ownsRow base 28 4 v sc.length (sc.flatMap stpCells)) (hok : ∀ x ∈ sc, StpOk x) : ∃ a c, v = .slice a sc.length c ∧ StepsAt w a sc := by
  have h2 := h
  rcases h.2 with ⟨rfl, h1⟩ | ⟨g, cap, cur, rfl, _, hg, hc, hm, _⟩
  · have e : sc = [] := List.eq_nil_of_length_eq_zero h1
    subst e
    exact ⟨none, 0, rfl, by simp, hok⟩
  · refine ⟨some ⟨g, 0, none⟩, cap, rfl, fun hl => ⟨g, 0, rfl, ?_⟩, hok⟩
    intro i x hx j v hv
    have hi := (List.getElem?_eq_some_iff.1 hx).1
    have hj : j < 4 := (List.getElem?_eq_some_iff.1 hv).1
    rw [Nat.zero_add, h2.cellAt (i * 4 + j) (by omega), flat_getM stpCells 4 sc (fun _ _ => rfl) i j hi hj, (List.getElem?_eq_some_iff.1 hx).2]
    exact hv

theorem owns_litH {w : World} {base g n : Nat} {e : TypeId} {cs : Array Value} (hb : base ≤ g) (hg : w.heap[g]? = some (.cells cs e (0, 0))) (hn : cs.size = n) (hm : n ≤ maxLen) : w.ownsRow base e 1 (.slice (some ⟨g, 0, none⟩) n n) n cs.toList :=
  ⟨by simp [hn], .inr ⟨g, n, cs, rfl, hb, hg, Nat.le_refl _, hm, by omega, by rw [List.take_of_length_le (by simp [hn])]⟩⟩

/-- The words so far. -/
def WsI (w0 : World) (i : Nat) (v : Value) (wr : World) : Prop := ∃ xs : List Int, xs.length = i ∧ wr.ownsRow w0.heap.size 3 1 v i (xs.map (Value.int .i64)) ∧ (∀ x ∈ xs, I64 x) ∧ Fr (fun _ => False) w0 wr
/-- The script so far. -/
def ScI (w0 : World) (i : Nat) (v : Value) (wr : World) : Prop := ∃ sc : List Stp, sc.length = i ∧ wr.ownsRow w0.heap.size 28 4 v i (sc.flatMap stpCells) ∧ (∀ x ∈ sc, StpOk x) ∧ Fr (fun _ => False) w0 wr

theorem WsI.add {w0 : World} {i : Nat} {v : Value} {wr : World} (h : WsI w0 i v wr) (x : Int) (hx : I64 x) : ∃ xs, wr.ownsRow w0.heap.size 3 1 v i xs ∧ w0.heap.size ≤ wr.heap.size ∧ ∀ (o : Obj) (v' : Value) (w5 : World), w5.ownsRow w0.heap.size 3 1 v' (i + 1) (xs ++ [.int .i64 x]) → Fr (fun i => v.ownBlock = some i) (wr.alloc o) w5 → WsI w0 (i + 1) v' w5 := by
  obtain ⟨xs, h1, h2, h3, h4⟩ := h
  refine ⟨_, h2, h4.size, ?_⟩
  intro o v' w5 ho hf
  refine ⟨xs ++ [x], by simp [h1], by simpa using ho, ?_, (h4.alloc o).step hf (fun b hb => .inr (h2.lt b hb).1)⟩
  intro y hy
  rcases List.mem_append.1 hy with hy | hy
  · exact h3 y hy
  · rw [List.mem_singleton.1 hy]; exact hx
theorem WsI.frF {w0 : World} {i : Nat} {v : Value} {wr w' : World} (h : WsI w0 i v wr) (hf : Fr (fun _ => False) wr w') : WsI w0 i v w' := by
  obtain ⟨xs, h1, h2, h3, h4⟩ := h
  exact ⟨xs, h1, hf.ownsF _ h2, h3, h4.step hf (fun _ h => .inl h)⟩
theorem ScI.add {w0 : World} {i : Nat} {v : Value} {wr : World} (h : ScI w0 i v wr) (a b : Stp) (ha : StpOk a) (hb : StpOk b) : ∃ xs, wr.ownsRow w0.heap.size 28 4 v i xs ∧ w0.heap.size ≤ wr.heap.size ∧ ∀ (o : Obj) (v' : Value) (w5 : World), w5.ownsRow w0.heap.size 28 4 v' (i + 2) (xs ++ (stpCells a ++ stpCells b)) → Fr (fun i => v.ownBlock = some i) (wr.alloc o) w5 → ScI w0 (i + 2) v' w5 := by
  obtain ⟨sc, h1, h2, h3, h4⟩ := h
  refine ⟨_, h2, h4.size, ?_⟩
  intro o v' w5 ho hf
  refine ⟨sc ++ [a, b], by simp [h1], by simpa using ho, ?_, (h4.alloc o).step hf (fun b hb => .inr (h2.lt b hb).1)⟩
  intro y hy
  rcases List.mem_append.1 hy with hy | hy
  · exact h3 y hy
  · simp only [List.mem_cons, List.not_mem_nil, or_false] at hy
    rcases hy with rfl | rfl
    · exact ha
    · exact hb

set_option maxRecDepth 100000 in
set_option maxHeartbeats 2000000 in
theorem deeds_any (w : World) (a b cy : Int) (ha : I64 a) (hb : I64 b) (hcy : I64 cy) (aw : Option Addr) (cw : Nat) (ws : List Int) (h : IntsAt w (.slice aw ws.length cw) ws) (hi : ∀ n ∈ ws, I64 n) :
    Calls Tryz.prog 3 #[.int .i64 a, .int .i64 b, .slice aw ws.length cw, .int .i64 cy] w fun e w' => e = .returned (.bool true) ∧ Fr (fun _ => False) w w' := by
  have H : Hid (1 ≤ ws.length → ∃ b o, aw = some ⟨b, o, none⟩ ∧ ∀ i x, ws[i]? = some x → w.cell? ⟨b, o + i, none⟩ = some (.int .i64 x)) := by
    obtain ⟨a', c', hv, hc1, hc2, hrd⟩ := h
    cases hv
    exact hrd
  have hwc : ws.length ≤ cw ∧ cw ≤ 9223372036854775807 := by
    obtain ⟨a', c', hv, hc1, hc2, hrd⟩ := h
    cases hv
    exact ⟨hc1, hc2⟩
  obtain ⟨hwc, hcm⟩ := hwc
  have HI := hid hi
  have HA := hid ha
  have HB := hid hb
  have HC := hid hcy
  obtain ⟨N, hN⟩ : ∃ N, min 200 ws.length = N := ⟨_, rfl⟩
  have HNL : Hid (N ≤ ws.length) := by unfold Hid; omega
  have hN200 : N ≤ 200 := by omega
  obtain ⟨wl, hwl⟩ : ∃ wl, ws.length = wl := ⟨_, rfl⟩
  rw [hwl] at hN hwc HNL H ⊢
  have HWL := hid hwl
  clear ha hb hcy h hi hwl
  go_enter Tryz.func3, Tryz.ntmps3
  go_wp2_with fail
  refine (known_any _).mono ?_
  rintro e w0 ⟨rfl, hf0⟩
  have HF0 := hid hf0
  clear hf0
  rcases Nat.lt_or_ge 200 wl with hw | hw
  case' inl =>
    have hwi : (200 : Int) < (wl : Int) := by omega
    have hcw2 : (200 : Int) ≤ (cw : Int) := by omega
    have HE9 : Hid (Value.slice aw 200 cw = Value.slice aw N cw) := by unfold Hid; rw [show N = 200 by omega]
    go_upto_region 4 with fail
    rw [HE9.out]
    clear HE9 hwi hcw2
  case' inr =>
    have hwi : ¬ ((200 : Int) < (wl : Int)) := by omega
    have HE9 : Hid (Value.slice aw wl cw = Value.slice aw N cw) := by unfold Hid; rw [show N = wl by omega]
    go_upto_region 4 with fail
    rw [HE9.out]
    clear HE9 hwi
  all_goals
    clear hw hN
    go_wp2_with fail
    refine (laddress_any _ _ HA.out).mono ?_
    rintro e w1 ⟨rfl, hw1⟩
    obtain rfl := hw1.symm
    have hx0 : 0 ≤ a % 4294967296 := by omega
    have hx1 : a % 4294967296 < 4294967296 := by omega
    generalize a % 4294967296 = x at *
    go_wp2_with fail
    refine (laddress_any _ _ HB.out).mono ?_
    rintro e w1 ⟨rfl, hw1⟩
    obtain rfl := hw1.symm
    have hy0 : 0 ≤ b % 4294967296 := by omega
    have hy1 : b % 4294967296 < 4294967296 := by omega
    generalize b % 4294967296 = y at *
    go_upto_region 7 with fail
    have HW0 : Hid (WsI w0 4 (.slice (some ⟨w0.heap.size, 0, none⟩) 4 4) (w0.alloc (.cells #[.int .i64 (17825792 + x / 65536), .int .i64 (34603008 + x % 65536), .int .i64 (18874368 + y / 65536), .int .i64 (35651584 + y % 65536)] 3))) := by
      refine ⟨[17825792 + x / 65536, 34603008 + x % 65536, 18874368 + y / 65536, 35651584 + y % 65536], rfl, owns_litH (Nat.le_refl _) (heap_alloc_new w0 _) rfl (by unfold maxLen; omega), ?_, (Fr.refl _ w0).alloc _⟩
      intro z hz
      simp only [List.mem_cons, List.not_mem_nil, or_false] at hz
      unfold I64
      rcases hz with rfl | rfl | rfl | rfl <;> omega
    generalize w0.alloc (.cells #[.int .i64 (17825792 + x / 65536), .int .i64 (34603008 + x % 65536), .int .i64 (18874368 + y / 65536), .int .i64 (35651584 + y % 65536)] 3) = w2 at *
    generalize Value.slice (some ⟨w0.heap.size, 0, none⟩) 4 4 = v4 at *
    clear hx0 hx1 hy0 hy1
    go_wp2_with fail
    go_loopw [12, 13] (fun v i wr => ∃ k : Nat, k ≤ N ∧ i = .int .i64 k ∧ WsI w0 (4 + k) v wr) (fun _ i _ => N - (intOf i).toNat)
    case atStart => exact ⟨0, Nat.zero_le _, rfl, HW0.out⟩
    case round =>
      obtain ⟨k, hk, rfl, hWk⟩ := hrel
      clear HW0
      have HWk := hid hWk
      clear hWk
      by_cases hlt : k < N
      · have hlti : (k : Int) < (N : Int) := by omega
        obtain ⟨gb, go, hae, hcell⟩ := H.out (by have := HNL.out; omega)
        subst hae
        have hg : ws[k]? = some (ws[k]'(by rw [HWL.out]; have := HNL.out; omega)) := List.getElem?_eq_getElem _
        have HFW : Hid (Fr (fun _ => False) w0 wr) := by obtain ⟨xs, _, _, _, h4⟩ := HWk.out; exact h4
        have hck := cell_fr (cell_fr (hcell k _ hg) HF0.out) HFW.out
        have HIK := hid (HI.out _ (List.mem_of_getElem? hg))
        generalize ws[k]'(by rw [HWL.out]; have := HNL.out; omega) = z at *
        clear hcell hg
        go_wp2_with fail
        refine (laddress_any _ _ HIK.out).mono ?_
        rintro e w3 ⟨rfl, hw3⟩
        obtain rfl := hw3.symm
        have hz0 : 0 ≤ z % 4294967296 := by omega
        have hz1 : z % 4294967296 < 4294967296 := by omega
        generalize z % 4294967296 = u at *
        obtain ⟨xs, how, hsz, hadd⟩ := HWk.out.add (u / 16777216 % 20 * 16777216 + u % 16777216) (by unfold I64; omega)
        have HOW := hid how
        have HADD := hid hadd
        have hi1 : 4 + k + 1 ≤ 1073741824 := by omega
        clear how hadd HWk hck
        go_wp2_with (first
          | (refine wpList_app slInt (by rfl) _ _ (by rfl) w0.heap.size u12 (4 + k) _ (by rfl) (HOW.out.alloc _) wr.heap.size #[.int .i64 (u / 16777216 % 20 * 16777216 + u % 16777216)] _ (by rfl) (heap_alloc_new wr _) rfl (by simp [Value.oneCell']) hi1 (by decide) (le_alloc hsz _) ?_; intro gg cap w7 hown7 hf7 hat7; have HN7 := hid (HADD.out _ _ w7 hown7 hf7); clear hown7 hf7 hat7))
        go_roundw
        case rel => exact ⟨k + 1, by omega, by go_num, HN7.out⟩
        case measure => simp [intOf]; omega
      · have hlti : ¬ (k : Int) < (N : Int) := by omega
        obtain rfl : k = N := by omega
        obtain ⟨xs, hxl, hxo, hxi, hxf⟩ := HWk.out
        obtain ⟨av, cv, rfl⟩ := owns_shape hxo
        have HXO := hid hxo
        have HXI := hid hxi
        have HXF := hid hxf
        have HXL := hid hxl
        clear hxo hxi hxf HWk H HI hxl
        go_wp2_with fail
        refine (lpick_any cy 60 _ HC.out (by omega) (by omega)).mono ?_
        rintro e w3 ⟨rfl, hw3⟩
        obtain rfl := hw3.symm
        obtain ⟨hp0, hp1⟩ := pickM_bd cy 60 (by omega)
        obtain ⟨p, hp⟩ := Int.eq_ofNat_of_zero_le hp0
        rw [hp] at hp1 ⊢
        have hp60 : p < 60 := by omega
        clear hp0 hp1 hp
        go_wp2_with fail
        obtain ⟨wx, rfl⟩ : ∃ wx, wx = wr := ⟨wr, rfl⟩
        go_loopw [15, 17] (fun v i wq => ∃ q : Nat, q ≤ 12 + p ∧ i = .int .i64 q ∧ ScI wx (2 * q) v wq) (fun _ i _ => 12 + p - (intOf i).toNat)
        case atStart => exact ⟨0, Nat.zero_le _, rfl, [], rfl, World.ownsRow_nil _ _ _ _, by simp, Fr.refl _ _⟩
        case round =>
          obtain ⟨q, hq, rfl, hSq⟩ := hrel
          have HSq := hid hSq
          clear hSq
          by_cases hlt2 : q < 12 + p
          · have hlt2i : (q : Int) < 12 + (p : Int) := by omega
            obtain ⟨xs2, how, hsz, hadd⟩ := HSq.out.add ⟨0, 1, 1, 0⟩ ⟨0, 5, 0, 0⟩ (by unfold StpOk I64; simp only; omega) (by unfold StpOk I64; simp only; omega)
            have HOW := hid how
            have HADD := hid hadd
            have hi1 : 2 * q + 2 ≤ 1048576 := by omega
            clear how hadd HSq
            go_wp2_with (first
              | (refine wpList_app2 slStep (by rfl) _ _ (by rfl) wx.heap.size u15 (2 * q) _ (by rfl) (HOW.out.alloc _) wr.heap.size #[.int .i64 0, .int .i64 1, .int .i64 1, .int .i64 0, .int .i64 0, .int .i64 5, .int .i64 0, .int .i64 0] _ (by rfl) (heap_alloc_new wr _) rfl (by simp [Value.oneCell']) hi1 (le_alloc hsz _) ?_; intro gg cap w7 hown7 hf7; have HN7 := hid (HADD.out _ _ w7 hown7 hf7); clear hown7 hf7))
            go_roundw
            case rel => exact ⟨q + 1, by omega, by go_num, HN7.out⟩
            case measure => simp [intOf]; omega
          · have hlt2i : ¬ (q : Int) < 12 + (p : Int) := by omega
            obtain ⟨sc, hsl, hso, hsk, hsf⟩ := HSq.out
            rw [← hsl] at hso
            obtain ⟨asc, csc, rfl, hst⟩ := steps_of_owns hso hsk
            have HST := hid hst
            have HSF := hid hsf
            have HSL := hid hsl
            have HAL : Hid (Calls Tryz.prog 16 #[.slice av (4 + k) cv] wr fun e w' => (∃ t, e = .returned (.string t) ∧ t.size ≤ maxLen) ∧ Fr (fun _ => False) wr w') := by
              have ho := hsf.ownsF _ HXO.out
              rw [← HXL.out] at ho ⊢
              exact alone_any wr av cv xs (ints_ofo ho) HXI.out (by rw [HXL.out]; omega)
            obtain ⟨m, hm⟩ : ∃ m, sc.length = m := ⟨_, rfl⟩
            have hm2 : m ≤ 150 := by omega
            rw [hm]
            have HM := hid hm
            clear hsl hso hst hsf hsk HSq hm
            go_wp2_with fail
            refine HAL.out.mono ?_
            rintro e w4 ⟨⟨t, rfl, htl⟩, hf4⟩
            have hf5 := hf4.alloc (.cells #[.string t] 9)
            have HF5 := hid hf5
            have HTS : Hid (StrsAt (w4.alloc (.cells #[.string t] 9)) (some ⟨w4.heap.size, 0, none⟩) [t]) := by
              intro _
              refine ⟨w4.heap.size, 0, rfl, ?_⟩
              intro i s' hi
              match i, hi with
              | 0, hi =>
                simp at hi
                subst hi
                exact row_cell (heap_alloc_new w4 _) 0
              | i + 1, hi => simp at hi
            have HP := hid (plays_34 bootC_false (w4.alloc (.cells #[.string t] 9)) (some ⟨w4.heap.size, 0, none⟩) asc 1 csc [t] sc HTS.out (HST.out.fr hf5) (by intro s' hs'; rw [List.mem_singleton.1 hs']; exact htl) (by simp) (by rw [HM.out]; omega) (.inl (by simp)) (.inl (by rw [HM.out]; omega)))
            rw [HM.out] at HP
            clear hf5 htl HTS hf4 HAL
            go_wp2_with fail
            refine HP.out.mono ?_
            rintro e w5 ⟨rfl, hf6⟩
            have HF6 := hid ((((HF0.out.step HXF.out (fun _ h => .inl h)).step HSF.out (fun _ h => .inl h)).step HF5.out (fun _ h => .inl h)).step hf6 (fun _ h => .inl h))
            clear hf6 HP
            go_wp2_with fail
            go_ret
            exact ⟨rfl, HF6.out⟩

end Go.Proofs.YthmcheoehcmglaaGreat
