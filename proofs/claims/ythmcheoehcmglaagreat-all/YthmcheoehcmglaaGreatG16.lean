/- Rows: a script, opened. -/
import Derived.Test.YthmcheoehcmglaaGreatQ2
import Derived.Test.YthmcheoehcmglaaGreatG11
import Derived.SizedLaws
import Derived.Test.YthmcheoehcmglaaGreatL0
import Derived.Test.YthmcheoehcmglaaGreatI1
namespace Go.Proofs.YthmcheoehcmglaaGreat
open Go.ChangeShapes Go.WideShapes Go.ChangeAt Go.RowKit Go.Deep
set_option linter.unusedVariables false

theorem len4 {α : Type} (l : List α) (h : l.length = 4) : ∃ a b c d, l = [a, b, c, d] := by
  match l, h with
  | [a, b, c, d], _ => exact ⟨a, b, c, d, rfl⟩

set_option maxRecDepth 100000 in
theorem steps_open {H : Type} {enc : TypeId × Value → H} {W : World} {fuel : Nat} {v : Value} {x : DataW H × List MemPlace} (h : DataW.trod enc Tryz.prog W 0 (fun _ => true) true fuel 25 [v] = some x) :
    ∃ (a : Option Addr) (c : Nat) (sc : List Stp), v = .slice a sc.length c ∧ StepsAt W a sc ∧ (sc = [] ∨ ∃ el sp, x.1 = .slice el sp ∧ sc.length ≤ el.length) := by
  rcases open_slice Tryz.underlying25 h with ⟨h1, -⟩ | ⟨a, len, cap, m, n, D, Pl, h1, hb, hlc, hcm, hm, hx, hel⟩
  · simp only [List.cons.injEq, and_true] at h1
    subst h1
    exact ⟨none, 0, [], rfl, ⟨by simp, by simp⟩, .inl rfl⟩
  · simp only [List.cons.injEq, and_true] at h1
    subst h1
    simp only [if_true] at hm
    have ce : Tryz.prog.cellsOf 28 = 4 := by kernel_rfl
    have each : ∀ i, i < len → ∃ p : Stp, StpOk p ∧ ∀ j u, (stpCells p)[j]? = some u → W.cell? (a.add (i * 4 + j)) = some u := by
      intro i hi
      obtain ⟨cs', h2, h3⟩ := hel i (by omega)
      rw [ce] at h2
      obtain ⟨_, hlen, hcell⟩ := World.cells?_some h2
      obtain ⟨xs, k, hk, hxy, _, hxl, hf⟩ := DataW.trod_struct Tryz.underlying28 h3
      have hxl4 : xs.length = 4 := hxl
      obtain ⟨y0, y1, y2, y3, rfl⟩ := len4 xs hxl4
      obtain ⟨v0, v1, v2, v3, rfl⟩ := len4 cs' hlen
      have e0 := hcell 0 (by omega)
      have e1 := hcell 1 (by omega)
      have e2 := hcell 2 (by omega)
      have e3 := hcell 3 (by omega)
      rw [add_add] at e0 e1 e2 e3
      have g0 := hf 0 _ rfl
      have g1 := hf 1 _ rfl
      have g2 := hf 2 _ rfl
      have g3 := hf 3 _ rfl
      have ci : Tryz.prog.cellsOf 3 = 1 := by kernel_rfl
      simp [ci] at g0 g1 g2 g3
      obtain ⟨z0, q0, -, w0⟩ := DataW.trod_int Tryz.underlying3 g0
      obtain ⟨z1, q1, -, w1⟩ := DataW.trod_int Tryz.underlying3 g1
      obtain ⟨z2, q2, -, w2⟩ := DataW.trod_int Tryz.underlying3 g2
      obtain ⟨z3, q3, -, w3⟩ := DataW.trod_int Tryz.underlying3 g3
      simp only [List.cons.injEq, and_true] at q0 q1 q2 q3
      subst q0 q1 q2 q3
      refine ⟨⟨z0, z1, z2, z3⟩, ⟨i64_of_wf w0, i64_of_wf w1, i64_of_wf w2, i64_of_wf w3⟩, ?_⟩
      intro j u hu
      match j, hu with
      | 0, hu => simp [stpCells] at hu; subst hu; simpa using e0
      | 1, hu => simp [stpCells] at hu; subst hu; simpa using e1
      | 2, hu => simp [stpCells] at hu; subst hu; simpa using e2
      | 3, hu => simp [stpCells] at hu; subst hu; simpa using e3
      | j + 4, hu => simp [stpCells] at hu
    have hin : Inhabited Stp := ⟨⟨0, 0, 0, 0⟩⟩
    obtain ⟨f, hf⟩ := choose_lt each
    have hll : ((List.range len).map f).length = len := by simp
    refine ⟨some a, cap, (List.range len).map f, by rw [hll], ⟨?_, ?_⟩, .inr ⟨_, _, by rw [hx], by simp⟩⟩
    · intro h1
      rw [hll] at h1
      have hc0 := (hf 0 (by omega)).2 0 _ rfl
      obtain ⟨b, off, spot⟩ := a
      have hspot : spot = none := by simpa [Addr.add] using World.cell?_spot hc0
      subst hspot
      refine ⟨b, off, rfl, ?_⟩
      intro k ws hk j u hu
      rw [List.getElem?_map] at hk
      simp only [Option.map_eq_some_iff] at hk
      obtain ⟨i, hi, hfi⟩ := hk
      obtain ⟨hil, hie⟩ := List.getElem?_eq_some_iff.1 hi
      simp only [List.length_range] at hil
      simp only [List.getElem_range] at hie
      subst hie
      rw [← hfi] at hu
      have h2 := (hf k hil).2 j u hu
      rw [add_plain] at h2
      rw [Nat.add_assoc]
      exact h2
    · intro p hp
      simp only [List.mem_map, List.mem_range] at hp
      obtain ⟨i, hi, rfl⟩ := hp
      exact (hf i hi).1

end Go.Proofs.YthmcheoehcmglaaGreat
/- The reference's Log. -/
namespace Go.Proofs.YthmcheoehcmglaaGreat
open Go.RowKit
set_option linter.unusedVariables false
attribute [local go_sem ↓] Go.wp_at_zero Go.wp_at_succ

/-- A byte is appended. -/
theorem wpList_app1 {P : Program} {w : World} {ops : Array Oper} {rest : List Oper} {o : Oper} {a : Act} {Q : Exit → Act → World → Prop} {t e : TypeId} (T : SlT P t e 1 1)
    (hgd : o.guard = none) (s x : Operand) (ho : o.op = .call { callee := .builtin .append, args := #[s, x], argTypes := #[t, t] })
    (base : Nat) (v : Value) (n : Nat) (xs : List Value) (hs : a.eval s = v) (hown : w.ownsRow base e 1 v n xs)
    (B : Nat) (cs : Array Value) (e' : TypeId) (hx : a.eval x = .slice (some ⟨B, 0, none⟩) 1 1) (hB : w.heap[B]? = some (.cells cs e' (0, 0))) (hl : cs.size = 1) (h1 : ∀ u ∈ cs.toList, u.oneCell' = true)
    (hn : n + 1 ≤ 140737488355328) (hbase : base ≤ w.heap.size)
    (h : ∀ g cap w', w'.ownsRow base e 1 (.slice (some ⟨g, 0, none⟩) (n + 1) cap) (n + 1) (xs ++ cs.toList) → Fr (fun i => v.ownBlock = some i) w w' → wpList P ops Q rest (a.put o.dst (.slice (some ⟨g, 0, none⟩) (n + 1) cap)) w') :
    wpList P ops Q (o :: rest) a w := by
  obtain ⟨i, z, hi, hz, hsz, hb, hzs⟩ := T.info
  exact wpList_append_lies w hgd s x t ho base e i z 1 1 T.ht hi hz hsz hb hzs T.pos v n xs hs hown ⟨B, 0, none⟩ 1 1 cs.toList hx (by simp [hl]) (World.news_of_block hB) h1
    (by omega) (by unfold maxLen; omega) (by omega) hbase w.heap.size rfl
    (fun g cap w' h2 h3 h4 h5 => h g cap w' h2 ⟨h3.os, h3.tape, h3.output, h3.size, fun k hk hn => h3.block k hk (fun e => hn e.symm)⟩)

/-- Bytes in a slice of one's own. -/
structure BsI (w0 : World) (bs : List Int) (v : Value) (wr : World) : Prop where
  o : wr.ownsRow w0.heap.size 5 1 v bs.length (bs.map (Value.int .u8))
  f : Fr (fun _ => False) w0 wr
theorem BsI.add {w0 : World} {bs : List Int} {v : Value} {wr : World} (h : BsI w0 bs v wr) {ob : Obj} {v' : Value} {w5 : World} {c : Int} (ho : w5.ownsRow w0.heap.size 5 1 v' (bs.length + 1) (bs.map (Value.int .u8) ++ (#[Value.int .u8 c]).toList)) (hf : Fr (fun i => v.ownBlock = some i) (wr.alloc ob) w5) : BsI w0 (bs ++ [c]) v' w5 :=
  ⟨by simpa using ho, (h.f.alloc ob).step hf (fun b hb => .inr (h.o.lt b hb).1)⟩

set_option maxRecDepth 100000 in
set_option maxHeartbeats 1000000 in
theorem rlog_no (x : RX) (N : NM) (vL : List Value) (w : World) (h : RefAt x N vL w) (d : Int) (hd : hasB N.devs.length d = false) :
    Calls Tryz.prog 81 #[.pointer (some ⟨x.Y, 0, none⟩), .int .i64 d] w fun e w' => e = .returned (.tuple #[.string ⟨#[]⟩, .int .i64 5]) ∧ w' = w := by
  obtain ⟨a3, q3, ea⟩ := owns_shape h.dd
  have c4 : w.cell? ⟨x.Y, 4, none⟩ = some (.slice a3 N.devs.length q3) := by rw [← ea]; exact row_cell h.n.hy 4
  clear h ea
  by_cases h0 : d < 0
  · clear hd
    go_enter Tryz.func81, Tryz.ntmps81
    go_wp2_with fail
    go_ret2
    exact ⟨rfl, rfl⟩
  · have h1 : (N.devs.length : Int) ≤ d := by simp [hasB] at hd; omega
    clear hd
    go_enter Tryz.func81, Tryz.ntmps81
    go_wp2_with fail
    go_ret2
    exact ⟨rfl, rfl⟩

set_option maxRecDepth 100000 in
set_option maxHeartbeats 2000000 in
theorem rlog_yes (x : RX) (N : NM) (vL : List Value) (w : World) (h : RefAt x N vL w) (hb : NLen x N) (hx : RXok x) (i : Nat) (d : DevV) (hd : N.devs[i]? = some d) (hw : ∀ v ∈ d.2, bdW v) (hl : 4 * d.2.length ≤ 140737488355328) :
    Calls Tryz.prog 81 #[.pointer (some ⟨x.Y, 0, none⟩), .int .i64 i] w fun e w' => e = .returned (.tuple #[.string (logS d.2), .int .i64 0]) ∧ Fr (fun _ => False) w w' := by
  have hil := (List.getElem?_eq_some_iff.1 hd).1
  obtain ⟨g, cap, hD⟩ := h.vds (by omega)
  have c4 : w.cell? ⟨x.Y, 4, none⟩ = some (.slice (some ⟨g, 0, none⟩) N.devs.length cap) := by rw [← hD]; exact row_cell h.n.hy 4
  obtain ⟨-, d1, -⟩ := h.dcell g cap hD i d hd
  obtain ⟨vo, hvo, d1⟩ := d1
  have hlg := h.lg i d vo hd hvo
  obtain ⟨ao, co, rfl⟩ := owns_shape hlg
  obtain ⟨l, hle⟩ : ∃ l, d.2 = l := ⟨_, rfl⟩
  rw [hle] at hlg hw hl d1 ⊢
  obtain ⟨n, hn⟩ : ∃ n, l.length = n := ⟨_, rfl⟩
  have HLG := hid hlg
  have HW := hid hw
  have HN := hid hn
  rw [hn] at d1 hl
  have hii : (i : Int) < (N.devs.length : Int) := by omega
  have hii2 : ¬ (N.devs.length : Int) ≤ (i : Int) := by omega
  have hd8 := hx.d8
  have hi8 : i < 8 := by rw [hb.l4] at hil; omega
  have hdl8 : N.devs.length ≤ 8 := by rw [hb.l4]; exact hd8
  generalize N.devs.length = dl at *
  have C4 := hid c4
  have D1 := hid d1
  clear h hb hx hd hD hlg hw hn hle hvo hd8 c4 d1
  go_enter Tryz.func81, Tryz.ntmps81
  have c4 := C4.out
  go_wp2_with fail
  clear c4
  go_loopw [6, 7] (fun v b wr => ∃ k : Nat, k ≤ n ∧ b = .int .i64 k ∧ BsI w (logB (l.take k)) v wr) (fun _ b _ => n - (intOf b).toNat)
  case atStart => exact ⟨0, Nat.zero_le _, rfl, ⟨World.ownsRow_nil _ _ _ _, Fr.refl _ _⟩⟩
  case round =>
    obtain ⟨k, hk, rfl, hB⟩ := hrel
    have HB := hid hB
    have c4 := cell_fr C4.out hB.f
    have d1 := cell_fr D1.out hB.f
    have hws := hB.f.size
    have HFB := hid hB.f
    clear hB
    by_cases hlt : k < n
    · have hlti : (k : Int) < (n : Int) := by omega
      have ho := HLG.out
      rw [HN.out] at ho
      obtain ⟨g2, c2, hv, -, -⟩ := ho.form (by omega)
      cases hv
      have hg : l[k]? = some (l[k]'(by rw [HN.out]; omega)) := List.getElem?_eq_getElem _
      have hck := ho.cellAt k (by omega)
      rw [List.getElem?_map, hg] at hck
      have hck2 := cell_fr hck HFB.out
      have hvw := HW.out _ (List.mem_of_getElem? hg)
      have HTK : Hid (logB (l.take (k + 1)) = logB (l.take k) ++ wordB (l[k]'(by rw [HN.out]; omega))) := by
        unfold Hid
        rw [List.take_add_one, hg]
        exact logB_snoc _ _
      generalize l[k]'(by rw [HN.out]; omega) = z at *
      have hck2 : wr.cell? ⟨g2, k, none⟩ = some (.int .i64 z) := hck2
      have HBL0 : Hid ((logB (l.take k)).length = 4 * k) := by unfold Hid; rw [logB_len, List.length_take, HN.out, Nat.min_eq_left (by omega)]
      generalize logB (l.take k) = bs at *
      obtain ⟨hz0, hz1⟩ := hvw
      have hbl2 : 4 * k + 4 ≤ 140737488355328 := by omega
      clear ho hck hg
      clear hlt
      go_upto_region 9 with (first
        | (refine wpList_app1 slU8 (by rfl) _ _ (by rfl) w.heap.size u6 bs.length _ (by rfl) (HB.out.o.alloc _) wr.heap.size #[.int .u8 (z / 16777216)] _ (by rfl) (heap_alloc_new wr _) rfl (by simp [Value.oneCell']) (by have := HBL0.out; omega) (le_alloc hws _) ?_; intro gg1 cap1 x1 hown1 hf1; have HN1 := hid (HB.out.add hown1 hf1); clear hown1 hf1))
      generalize Value.slice (some ⟨gg1, 0, none⟩) (bs.length + 1) cap1 = v1 at *
      have HBL1 : Hid ((bs ++ [z / 16777216]).length = 4 * k + 1) := by unfold Hid; rw [List.length_append, HBL0.out]; rfl
      obtain ⟨b1, hb1⟩ : ∃ b, bs ++ [z / 16777216] = b := ⟨_, rfl⟩
      rw [hb1] at HN1 HBL1
      have HE1 := hid hb1
      have hws1 : w.heap.size ≤ x1.heap.size := HN1.out.f.size
      clear hb1
      clear c4 d1 hck2 HB
      go_upto_region 10 with (first
        | (refine wpList_app1 slU8 (by rfl) _ _ (by rfl) w.heap.size v1 b1.length _ (by rfl) (HN1.out.o.alloc _) x1.heap.size #[.int .u8 (z / 65536 % 256)] _ (by rfl) (heap_alloc_new x1 _) rfl (by simp [Value.oneCell']) (by have := HBL1.out; omega) (le_alloc hws1 _) ?_; intro gg2 cap2 x2 hown2 hf2; have HN2 := hid (HN1.out.add hown2 hf2); clear hown2 hf2))
      generalize Value.slice (some ⟨gg2, 0, none⟩) (b1.length + 1) cap2 = v2 at *
      have HBL2 : Hid ((b1 ++ [z / 65536 % 256]).length = 4 * k + 2) := by unfold Hid; rw [List.length_append, HBL1.out]; rfl
      obtain ⟨b2, hb2⟩ : ∃ b, b1 ++ [z / 65536 % 256] = b := ⟨_, rfl⟩
      rw [hb2] at HN2 HBL2
      have HE2 := hid hb2
      have hws2 : w.heap.size ≤ x2.heap.size := HN2.out.f.size
      clear hb2
      clear HN1
      go_upto_region 11 with (first
        | (refine wpList_app1 slU8 (by rfl) _ _ (by rfl) w.heap.size v2 b2.length _ (by rfl) (HN2.out.o.alloc _) x2.heap.size #[.int .u8 (z / 256 % 256)] _ (by rfl) (heap_alloc_new x2 _) rfl (by simp [Value.oneCell']) (by have := HBL2.out; omega) (le_alloc hws2 _) ?_; intro gg3 cap3 x3 hown3 hf3; have HN3 := hid (HN2.out.add hown3 hf3); clear hown3 hf3))
      generalize Value.slice (some ⟨gg3, 0, none⟩) (b2.length + 1) cap3 = v3 at *
      have HBL3 : Hid ((b2 ++ [z / 256 % 256]).length = 4 * k + 3) := by unfold Hid; rw [List.length_append, HBL2.out]; rfl
      obtain ⟨b3, hb3⟩ : ∃ b, b2 ++ [z / 256 % 256] = b := ⟨_, rfl⟩
      rw [hb3] at HN3 HBL3
      have HE3 := hid hb3
      have hws3 : w.heap.size ≤ x3.heap.size := HN3.out.f.size
      clear hb3
      clear HN2
      go_wp2_with (first
        | (refine wpList_app1 slU8 (by rfl) _ _ (by rfl) w.heap.size v3 b3.length _ (by rfl) (HN3.out.o.alloc _) x3.heap.size #[.int .u8 (z % 256)] _ (by rfl) (heap_alloc_new x3 _) rfl (by simp [Value.oneCell']) (by have := HBL3.out; omega) (le_alloc hws3 _) ?_; intro gg4 cap4 x4 hown4 hf4; have HN4 := hid (HN3.out.add hown4 hf4); clear hown4 hf4))
      have HRE : Hid (b3 ++ [z % 256] = logB (l.take (k + 1))) := by
        unfold Hid
        rw [HTK.out, ← HE3.out, ← HE2.out, ← HE1.out]
        simp [wordB]
      rw [HRE.out] at HN4
      go_roundw
      case rel => exact ⟨k + 1, by omega, by go_num, HN4.out⟩
      case measure => simp [intOf]; omega
    · have hlti : ¬ (k : Int) < (n : Int) := by omega
      have htk : l.take k = l := List.take_of_length_le (by rw [HN.out]; omega)
      have hB := HB.out
      rw [htk] at hB
      have hcv := log_conv wr u6 l (owns_base hB.o (Nat.zero_le _))
      clear hB htk
      go_wp2_with fail
      go_ret2
      exact ⟨rfl, HFB.out⟩

end Go.Proofs.YthmcheoehcmglaaGreat
/- A kernel beside the net: Log, Latch; all steps. -/
namespace Go.Proofs.YthmcheoehcmglaaGreat
open Go.RowKit
set_option linter.unusedVariables false
attribute [local go_sem ↓] Go.wp_at_zero Go.wp_at_succ

set_option maxRecDepth 100000 in
set_option maxHeartbeats 1000000 in
theorem plog_of (w : World) (P X Y : Nat) (i ec : Int) (S : ByteArray) (hp : PairAt w P X Y)
    (h1 : Calls Tryz.prog 31 #[.pointer (some ⟨X, 0, none⟩), .int .i64 i] w fun e w' => e = .returned (.tuple #[.string S, .int .i64 ec]) ∧ w' = w)
    (h2 : Calls Tryz.prog 81 #[.pointer (some ⟨Y, 0, none⟩), .int .i64 i] w fun e w' => e = .returned (.tuple #[.string S, .int .i64 ec]) ∧ Fr (fun _ => False) w w') :
    Calls Tryz.prog 56 #[.pointer (some ⟨P, 0, none⟩), .int .i64 i] w fun e w' => e = .returned (.bool true) ∧ Fr (fun _ => False) w w' := by
  have c0 : w.cell? ⟨P, 0, none⟩ = some (.pointer (some ⟨X, 0, none⟩)) := row_cell hp 0
  have c1 : w.cell? ⟨P, 1, none⟩ = some (.pointer (some ⟨Y, 0, none⟩)) := row_cell hp 1
  have H1 := hid h1
  have H2 := hid h2
  clear hp h1 h2
  go_enter Tryz.func56, Tryz.ntmps56
  go_wp2_with fail
  refine H1.out.mono ?_
  rintro e w1 ⟨rfl, hw⟩
  obtain rfl := hw.symm
  go_wp2_with fail
  refine H2.out.mono ?_
  rintro e w2 ⟨rfl, hf⟩
  have HF := hid hf
  clear hf c0 c1
  go_wp2_with fail
  refine (num_any _ _).mono ?_
  rintro e w3 ⟨rfl, hw⟩
  obtain rfl := hw.symm
  go_wp2_with fail
  go_ret
  exact ⟨rfl, HF.out⟩

theorem PairOk.log {d : PD} {w : World} (h : PairOk d w) {T : Nat} (hb : BdD d T) (hT : TOk d T) (i : Int) :
    Calls Tryz.prog 56 #[.pointer (some ⟨d.P, 0, none⟩), .int .i64 i] w fun e w' => e = .returned (.bool true) ∧ Fr (fun _ => False) w w' := by
  obtain ⟨L, hL, hL2⟩ := log_cases h hb hT
  cases hB : hasB d.x.dn i with
  | false => exact plog_of w d.P d.kx.X d.x.Y i 5 _ h.p (log_no d.kx _ _ w (KerF.r h.l.k) i (by rw [h.dk]; exact hB)) ((rlog_no d.x d.N d.vR w h.r i (by rw [h.dn]; exact hB)).mono (fun e w' ⟨h1, h2⟩ => ⟨h1, by rw [h2]; exact Fr.refl _ _⟩))
  | true =>
    simp only [hasB, Bool.and_eq_true, decide_eq_true_eq] at hB
    obtain ⟨j, rfl⟩ := Int.eq_ofNat_of_zero_le hB.1
    have hj : j < d.N.devs.length := by rw [h.dn]; omega
    have hd : d.N.devs[j]? = some d.N.devs[j] := List.getElem?_eq_getElem hj
    have hm := List.mem_of_getElem? hd
    have hd2 : d.s.devs[j]? = some d.N.devs[j] := by rw [h.l.n.dv]; exact hd
    exact plog_of w d.P d.kx.X d.x.Y j 0 _ h.p (log_yes d.kx _ _ _ _ _ w h.l.k j _ hd2) (rlog_yes d.x d.N d.vR w h.r h.nbd.len h.x j _ hd (hb.2.2 _ hm) (by have := hL _ hm; omega))

/-- Latch: the kernel's, then the net's. -/
theorem PairOk.latch {d : PD} {w : World} (h : PairOk d w) {T : Nat} (hb : BdD d T) (a v : Int) (v0 : 0 ≤ v) (v1 : v < 4294967296) :
    ∃ (ec : Int) (M : World → Prop), (Calls Tryz.prog 33 #[.pointer (some ⟨d.kx.X, 0, none⟩), .int .i64 a, .int .u32 v] w fun e w' => e = .returned (.int .i64 ec) ∧ M w') ∧
      (∀ w1, M w1 → PairAt w1 d.P d.kx.X d.x.Y ∧ Fr (PWr d) w w1) ∧ (∀ w1 w2, M w1 → Fr (fun _ => False) w1 w2 → M w2) ∧
      ∀ w1, M w1 → Calls Tryz.prog 55 #[.pointer (some ⟨d.x.Y, 0, none⟩), .int .i64 a, .int .i64 v] w1 fun e w' => e = .returned (.int .i64 ec) ∧ StepTo d T w w' := by
  cases hB : hasB d.x.dn a with
  | false =>
    refine ⟨5, fun w1 => Fr (fun _ => False) w w1, ?_, ?_, ?_, ?_⟩
    · exact (latch_no d.kx _ _ w (KerF.r h.l.k) a (by rw [h.dk]; exact hB) v).mono (fun e w' ⟨h1, h2⟩ => ⟨h1, by rw [h2]; exact Fr.refl _ _⟩)
    · exact fun w1 hf => ⟨hf.get h.p id, hf.mono (fun _ h => h.elim)⟩
    · exact fun w1 w2 h1 h2 => h1.step h2 (fun _ h => .inl h)
    · exact fun w1 hf => (rlatch_no d.x d.N d.vR w1 (h.r.frF hf) a v (by rw [h.dn]; exact hB)).mono (fun e w' ⟨h1, h2⟩ => ⟨h1, by rw [h2]; exact StepTo.same h hb hf⟩)
  | true =>
    simp only [hasB, Bool.and_eq_true, decide_eq_true_eq] at hB
    obtain ⟨j, rfl⟩ := Int.eq_ofNat_of_zero_le hB.1
    have hj : j < d.N.devs.length := by rw [h.dn]; omega
    have hd : d.N.devs[j]? = some d.N.devs[j] := List.getElem?_eq_getElem hj
    have hm := List.mem_of_getElem? hd
    have hd2 : d.s.devs[j]? = some d.N.devs[j] := by rw [h.l.n.dv]; exact hd
    generalize d.N.devs[j] = dv at *
    refine ⟨0, fun w1 => Live d.kx { d.s with devs := d.s.devs.set j (v, dv.2) } { d.N with devs := d.N.devs.set j (v, dv.2) } d.vK w1 ∧ RefAt d.x d.N d.vR w1 ∧ PairAt w1 d.P d.kx.X d.x.Y ∧ Fr (PWr d) w w1, ?_, ?_, ?_, ?_⟩
    · refine (latch_yes d.kx _ _ _ _ _ w h.l.k j dv hd2 v v0 v1).mono ?_
      rintro e w' ⟨rfl, h3, h4⟩
      have hK : ∀ b, b = d.kx.gD → KB d.kx d.vK b := fun b hb => .inl (by rw [hb]; exact .inr (.inr (.inr (.inl rfl))))
      refine ⟨rfl, ⟨h3, ?_, h.l.x⟩, h.r.frS h4 (fun b hr hk => h.sep b (hK b hk) hr), h4.get h.p (fun hk => h.s1 (hK _ hk)), h4.mono (fun b hk => .inl (by rw [hk]; exact .inr (.inr (.inr (.inl rfl)))))⟩
      have hn := h.l.n
      refine ⟨hn.ck, hn.c0, hn.hi, by show d.s.devs.set j (v, dv.2) = _; rw [hn.dv], hn.sl, hn.t0, hn.t1, hn.lo, hn.ar, hn.st, hn.sb, hn.nw, hn.ni, ?_⟩
      intro c hc
      rcases List.mem_or_eq_of_mem_set hc with h5 | h5
      · exact hn.nd c h5
      · rw [h5]; exact ⟨v0, v1⟩
    · exact fun w1 hM => ⟨hM.2.2.1, hM.2.2.2⟩
    · exact fun w1 w2 hM hf => ⟨hM.1.frF hf, hM.2.1.frF hf, hf.get hM.2.2.1 id, hM.2.2.2.step hf (fun _ h => h.elim)⟩
    · intro w1 hM
      obtain ⟨m1, m2, m3, m4⟩ := hM
      refine (rlatch_yes d.x d.N d.vR w1 m2 h.nbd.len h.x j dv hd v).mono ?_
      rintro e w' ⟨rfl, g1, g2⟩
      refine ⟨rfl, ⟨⟨d.P, d.kx, d.x, { d.s with devs := d.s.devs.set j (v, dv.2) }, d.vK, d.vR, { d.N with devs := d.N.devs.set j (v, dv.2) }⟩, ⟨rfl, rfl⟩, ?_, ?_, fun b hb => .inl hb, fun b hb => .inl hb⟩, m4.step g2 (fun b hr => .inl (.inr hr))⟩
      · refine ⟨m1.frS g2 (fun b hk hr => h.sep b hk (.inl hr)), g1, h.k, h.x, ?_, h.dk, h.wf, g2.get m3 (fun hr => h.s2 (.inl hr)), h.m, h.sep, h.s1, h.s2⟩
        show (d.N.devs.set j (v, dv.2)).length = d.x.dn
        rw [List.length_set]
        exact h.dn
      · refine ⟨by have := hb.1; show d.N.ck ≤ _; omega, ?_, ?_⟩
        · intro c hc
          rcases List.mem_or_eq_of_mem_set hc with h5 | h5
          · exact Nat.le_trans (hb.2.1 c h5) (by omega)
          · rw [h5]; exact Nat.le_trans (hb.2.1 dv hm) (by omega)
        · intro c hc
          rcases List.mem_or_eq_of_mem_set hc with h5 | h5
          · exact hb.2.2 c h5
          · rw [h5]; exact hb.2.2 dv hm

end Go.Proofs.YthmcheoehcmglaaGreat
/- The statements' step: Latch, Log, all that is to be seen. -/
namespace Go.Proofs.YthmcheoehcmglaaGreat
open Go.RowKit
set_option linter.unusedVariables false
attribute [local go_sem ↓] Go.wp_at_zero Go.wp_at_succ

set_option maxRecDepth 100000 in
set_option maxHeartbeats 2000000 in
theorem step_log (d : PD) (w : World) (h : PairOk d w) (T : Nat) (hb : BdD d T) (hT : TOk d T) (wh a b : Int) :
    Calls Tryz.prog 39 #[.pointer (some ⟨d.P, 0, none⟩), stepV wh 3 a b] w fun e w' => e = .returned (.bool true) ∧ StepTo d T w w' := by
  have hfa : Fr (fun _ => False) w (w.alloc (.cells #[.int .i64 wh, .int .i64 3, .int .i64 a, .int .i64 b] 28)) := (Fr.refl _ w).alloc _
  have HBX := hid (heap_alloc_new w (.cells #[.int .i64 wh, .int .i64 3, .int .i64 a, .int .i64 b] 28))
  have hw := h.frF hfa
  have HP := hid hw.p
  have hPs := lt_of_get h.p
  have hne : ¬ d.P = w.heap.size := by omega
  have HBC := hid (fun (w' : World) (hs : StepTo d T (w.alloc (.cells #[.int .i64 wh, .int .i64 3, .int .i64 a, .int .i64 b] 28)) w') => StepTo.back hfa hs)
  unfold stepV
  clear hfa
  go_enter Tryz.func39, Tryz.ntmps39
  go_upto_region 1 with fail
  generalize w.alloc (.cells #[.int .i64 wh, .int .i64 3, .int .i64 a, .int .i64 b] 28) = wa at *
  have k1 := row_cell HBX.out 1
  have k2 := row_cell HBX.out 2
  have HSM := hid (fun (w' : World) (hf : Fr (fun _ => False) wa w') => HBC.out w' (StepTo.same hw hb hf))
  have HW := hid (hw.log hb hT a)
  clear hw h hb hT hPs HBC
  go_wp2_with fail
  refine HW.out.mono ?_
  rintro e w2 ⟨rfl, hf2⟩
  have HS := hid (HSM.out w2 hf2)
  clear hf2
  go_wp2_with fail
  go_ret
  exact ⟨rfl, HS.out⟩

set_option maxRecDepth 100000 in
set_option maxHeartbeats 2000000 in
theorem step_looks (d : PD) (w : World) (h : PairOk d w) (T : Nat) (hb : BdD d T) (hT : TOk d T) (wh a b : Int) :
    Calls Tryz.prog 39 #[.pointer (some ⟨d.P, 0, none⟩), stepV wh 8 a b] w fun e w' => e = .returned (.bool true) ∧ StepTo d T w w' := by
  have hfa : Fr (fun _ => False) w (w.alloc (.cells #[.int .i64 wh, .int .i64 8, .int .i64 a, .int .i64 b] 28)) := (Fr.refl _ w).alloc _
  have HBX := hid (heap_alloc_new w (.cells #[.int .i64 wh, .int .i64 8, .int .i64 a, .int .i64 b] 28))
  have hw := h.frF hfa
  have HP := hid hw.p
  have hPs := lt_of_get h.p
  have hne : ¬ d.P = w.heap.size := by omega
  have HBC := hid (fun (w' : World) (hs : StepTo d T (w.alloc (.cells #[.int .i64 wh, .int .i64 8, .int .i64 a, .int .i64 b] 28)) w') => StepTo.back hfa hs)
  unfold stepV
  clear hfa
  go_enter Tryz.func39, Tryz.ntmps39
  go_upto_region 1 with fail
  generalize w.alloc (.cells #[.int .i64 wh, .int .i64 8, .int .i64 a, .int .i64 b] 28) = wa at *
  have k1 := row_cell HBX.out 1
  have k2 := row_cell HBX.out 2
  have HSM := hid (fun (w' : World) (hf : Fr (fun _ => False) wa w') => HBC.out w' (StepTo.same hw hb hf))
  have HW := hid (hw.looks (by have := hb.1; have := hT.1; omega) true (fun _ w1 hf1 i => (hw.frF hf1).log hb hT i))
  clear hw h hb hT hPs HBC
  go_wp2_with fail
  refine HW.out.mono ?_
  rintro e w2 ⟨rfl, hf2⟩
  have HS := hid (HSM.out w2 hf2)
  clear hf2
  go_wp2_with fail
  go_ret
  exact ⟨rfl, HS.out⟩

set_option maxRecDepth 100000 in
set_option maxHeartbeats 2000000 in
theorem step_latch (d : PD) (w : World) (h : PairOk d w) (T : Nat) (hb : BdD d T) (hT : TOk d T) (wh a b : Int) (hbi : I64 b) :
    Calls Tryz.prog 39 #[.pointer (some ⟨d.P, 0, none⟩), stepV wh 2 a b] w fun e w' => e = .returned (.bool true) ∧ StepTo d T w w' := by
  have hfa : Fr (fun _ => False) w (w.alloc (.cells #[.int .i64 wh, .int .i64 2, .int .i64 a, .int .i64 b] 28)) := (Fr.refl _ w).alloc _
  have HBX := hid (heap_alloc_new w (.cells #[.int .i64 wh, .int .i64 2, .int .i64 a, .int .i64 b] 28))
  have hw := h.frF hfa
  have HP := hid hw.p
  have hPs := lt_of_get h.p
  have hne : ¬ d.P = w.heap.size := by omega
  have HPB : Hid (¬ PB d w.heap.size) := fun hh => by have := h.lt _ hh; omega
  have HBC := hid (fun (w' : World) (hs : StepTo d T (w.alloc (.cells #[.int .i64 wh, .int .i64 2, .int .i64 a, .int .i64 b] 28)) w') => StepTo.back hfa hs)
  have HAD := hid (fun w => laddress_any b w hbi)
  have hv0 : 0 ≤ b % 4294967296 := by omega
  have hv1 : b % 4294967296 < 4294967296 := by omega
  unfold stepV
  clear hfa
  go_enter Tryz.func39, Tryz.ntmps39
  go_upto_region 1 with fail
  generalize w.alloc (.cells #[.int .i64 wh, .int .i64 2, .int .i64 a, .int .i64 b] 28) = wa at *
  obtain ⟨v, hv⟩ : ∃ v, b % 4294967296 = v := ⟨_, rfl⟩
  rw [hv] at HAD hv0 hv1
  have hwp : IntKind.u32.wrap v = v := by rw [IntKind.wrap_u32]; omega
  obtain ⟨ec, M, hm1, hm2, hm3, hm4⟩ := (hw.frF (Fr.refl _ wa).drew).latch hb a v hv0 hv1
  have HM1 := hid hm1
  have HM2 := hid hm2
  have HM3 := hid hm3
  have HM4 := hid hm4
  have k1 := row_cell HBX.out 1
  have k3 := row_cell HBX.out 3
  have p0 : wa.drew.cell? ⟨d.P, 0, none⟩ = some (.pointer (some ⟨d.kx.X, 0, none⟩)) := row_cell HP.out 0
  have k2 : wa.drew.cell? ⟨w.heap.size, 2, none⟩ = some (.int .i64 a) := row_cell HBX.out 2
  clear hw h hb hT hPs hm1 hm2 hm3 hm4 hv
  go_wp2_with fail
  refine (HAD.out _).mono ?_
  rintro e w1 ⟨rfl, hw1⟩
  obtain rfl := hw1.symm
  clear HAD k3
  go_wp2_with fail
  go_region_law
    (first
      | (refine step_call Tryz.func33 (by kernel_rfl) (by kernel_rfl) (by rfl) (by rfl) [.pointer (some ⟨d.kx.X, 0, none⟩), .int .i64 a, .int .u32 v] (by rfl) (HM1.out.mono ?_); rintro e w2 ⟨rfl, hM⟩; refine ⟨_, rfl, ?_⟩))
  all_goals
    obtain ⟨hp2, hf2⟩ := HM2.out w2 hM
    have hBX2 := hf2.get (show wa.drew.heap[w.heap.size]? = _ from HBX.out) (fun hh => HPB.out hh.pb)
    have q0 : w2.drew.cell? ⟨d.P, 1, none⟩ = some (.pointer (some ⟨d.x.Y, 0, none⟩)) := row_cell hp2 1
    have q2 : w2.drew.cell? ⟨w.heap.size, 2, none⟩ = some (.int .i64 a) := row_cell hBX2 2
    have HR3 := hid (HM4.out w2.drew (HM3.out w2 w2.drew hM (Fr.refl _ w2).drew))
    clear hBX2 hp2 hf2 hM k1 p0 k2 HM1 HM2 HM3 HM4
    go_wp2_with fail
    go_region_law
      (first
        | (refine step_call Tryz.func38 (by kernel_rfl) (by kernel_rfl) (by rfl) (by rfl) [.int .i64 ec] (by rfl) ((num_any ec _).mono ?_); rintro e wy ⟨rfl, hwy⟩; obtain rfl := hwy.symm; refine ⟨_, rfl, ?_⟩)
        | (refine step_call Tryz.func55 (by kernel_rfl) (by kernel_rfl) (by rfl) (by rfl) [.pointer (some ⟨d.x.Y, 0, none⟩), .int .i64 a, .int .i64 v] (by rfl) (HR3.out.mono ?_); rintro e w3 ⟨rfl, hS⟩; have HS := hid (HBC.out w3 (StepTo.back (Fr.refl _ wa).drew hS)); clear hS; refine ⟨_, rfl, ?_⟩))
    all_goals
      clear q0 q2
      go_wp2_with fail
      go_ret
      exact ⟨rfl, HS.out⟩

theorem stepC_2 : StepC 2 := fun d w h T hb hT wh a b ha hbb => step_latch d w h T hb hT wh a b hbb
theorem stepC_3 : StepC 3 := fun d w h T hb hT wh a b ha hbb => step_log d w h T hb hT wh a b
theorem stepC_8 : StepC 8 := fun d w h T hb hT wh a b ha hbb => step_looks d w h T hb hT wh a b
theorem log_any {d : PD} {w w1 : World} {T : Nat} (h : PairOk d w) (hb : BdD d T) (hT : TOk d T) (hf : Fr (fun _ => False) w w1) (i : Int) : Calls Tryz.prog 56 #[.pointer (some ⟨d.P, 0, none⟩), .int .i64 i] w1 fun e w' => e = .returned (.bool true) ∧ Fr (fun _ => False) w1 w' :=
  (h.frF hf).log hb hT i

end Go.Proofs.YthmcheoehcmglaaGreat
