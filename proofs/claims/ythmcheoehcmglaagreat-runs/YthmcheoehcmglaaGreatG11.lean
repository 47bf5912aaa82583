/- A kernel beside the net: Run. -/
import Derived.Test.YthmcheoehcmglaaGreatI1
import Derived.Test.YthmcheoehcmglaaGreatK2
namespace Go.Proofs.YthmcheoehcmglaaGreat
open Go.RowKit
set_option linter.unusedVariables false
attribute [local go_sem ↓] Go.wp_at_zero Go.wp_at_succ

def BdD (d : PD) (T : Nat) : Prop := d.N.ck ≤ 100000 * T ∧ logMax d.N.devs (100000 * T) ∧ logW d.N.devs
theorem BdD.mono {d : PD} {T T' : Nat} (h : BdD d T) (hT : T ≤ T') : BdD d T' := ⟨by have := h.1; omega, fun e he => Nat.le_trans (h.2.1 e he) (by omega), h.2.2⟩

/-- So many steps can be borne. -/
def TOk (d : PD) (T : Nat) : Prop := T ≤ 80000000000000 ∧ (d.x.dn = 0 ∨ T ≤ 100000000)
theorem log_cases {d : PD} {w : World} (h : PairOk d w) {T : Nat} (hb : BdD d T) (hT : TOk d T) : ∃ L, logMax d.N.devs L ∧ L + 200000 ≤ 17592186044416 := by
  rcases hT.2 with h0 | h0
  · refine ⟨0, ?_, by omega⟩
    have hn := h.dn
    rw [h0] at hn
    intro e he
    rw [List.eq_nil_of_length_eq_zero hn] at he
    cases he
  · exact ⟨100000 * T, hb.2.1, by omega⟩

/-- What a step may write. -/
def PWr (d : PD) (b : Nat) : Prop := KA d.kx d.vK b ∨ RA d.x d.vR b
theorem PWr.pb {d : PD} {b : Nat} (h : PWr d b) : PB d b := by
  rcases h with h | h
  · exact .inl (.inl h)
  · exact .inr (.inl (.inl h))
/-- What a step leaves of a pair. -/
structure StepTo (d : PD) (T : Nat) (w w' : World) : Prop where
  e : ∃ d' : PD, (d'.P = d.P ∧ d'.x.dn = d.x.dn) ∧ PairOk d' w' ∧ BdD d' (T + 1) ∧ (∀ b, PB d' b → PB d b ∨ w.heap.size ≤ b) ∧ ∀ b, PWr d' b → PWr d b ∨ w.heap.size ≤ b
  f : Fr (PWr d) w w'
theorem StepTo.same {d : PD} {T : Nat} {w w' : World} (h : PairOk d w) (hb : BdD d T) (hf : Fr (fun _ => False) w w') : StepTo d T w w' :=
  ⟨⟨d, ⟨rfl, rfl⟩, h.frF hf, hb.mono (by omega), fun b hb => .inl hb, fun b hb => .inl hb⟩, hf.mono (fun _ h => h.elim)⟩

theorem StepTo.back {d : PD} {T : Nat} {w wa w' : World} (hf : Fr (fun _ => False) w wa) (h : StepTo d T wa w') : StepTo d T w w' := by
  obtain ⟨d', h1, h2, h3, h4, h6⟩ := h.e
  refine ⟨⟨d', h1, h2, h3, ?_, ?_⟩, (hf.mono (fun _ h => h.elim)).step h.f (fun b hb => .inl hb)⟩
  · intro b hb
    rcases h4 b hb with h5 | h5
    · exact .inl h5
    · exact .inr (Nat.le_trans hf.size h5)
  · intro b hb
    rcases h6 b hb with h5 | h5
    · exact .inl h5
    · exact .inr (Nat.le_trans hf.size h5)
theorem StepTo.more {d : PD} {T : Nat} {w w' w2 : World} (h : StepTo d T w w') (hf : Fr (fun _ => False) w' w2) : StepTo d T w w2 := by
  obtain ⟨d', h1, h2, h3, h4⟩ := h.e
  exact ⟨⟨d', h1, h2.frF hf, h3, h4⟩, h.f.step hf (fun _ h => h.elim)⟩

/-- The kernel has run, the net not yet. -/
structure Mid (d : PD) (m : Nat) (w wr : World) : Prop where
  e : ∃ vK', Live d.kx (iterK d.kx m d.s) (iterN d.kx m d.N) vK' wr ∧ RefAt d.x d.N d.vR wr ∧ PairAt wr d.P d.kx.X d.x.Y ∧ LogsIn d.vK vK' w.heap.size
  f : Fr (PWr d) w wr
theorem Mid.frF {d : PD} {m : Nat} {w wr w' : World} (h : Mid d m w wr) (hf : Fr (fun _ => False) wr w') : Mid d m w w' := by
  obtain ⟨vK', h1, h2, h3, h4⟩ := h.e
  exact ⟨⟨vK', h1.frF hf, h2.frF hf, h3.fr hf, h4⟩, h.f.step hf (fun _ h => h.elim)⟩

theorem PairOk.run1 {d : PD} {w0 w : World} (h0 : PairOk d w0) (hf0 : Fr (fun _ => False) w0 w) (T : Nat) (hb : BdD d T) (hT : TOk d T) (n : Int) (m : Nat) (hm : runN n = (m : Int)) :
    Calls Tryz.prog 21 #[.pointer (some ⟨d.kx.X, 0, none⟩), .int .i64 n] w fun e w' => e = .returned (.int .i64 (m : Int)) ∧ Mid d m w0 w' := by
  have h := h0.frF hf0
  have hmt : (runN n).toNat = m := by rw [hm]; simp
  have hb100 := (runN_bd n).2
  obtain ⟨L, hL, hL2⟩ := log_cases h hb hT
  refine (h.l.run n L hL (by omega) (by have := hb.1; have := hT.1; omega)).mono ?_
  rintro e w' ⟨rfl, vL', h1, h2, h3⟩
  rw [hm]
  rw [hmt] at h1
  refine ⟨rfl, ⟨vL', h1, ?_, ?_, ?_⟩, ?_⟩
  · exact h.r.frS h3 (fun b hr hk => h.sep b (.inl hk) hr)
  · exact h3.get h.p (fun hk => h.s1 (.inl hk))
  · intro v hv b hbb
    rcases h2 v hv b hbb with h5 | h5
    · exact .inl h5
    · exact .inr (Nat.le_trans hf0.size h5)
  · exact (hf0.mono (fun _ h => h.elim)).step h3 (fun b hk => .inl (.inl hk))

theorem netok_of {d : PD} {w : World} (h : PairOk d w) : NetOk d.kx d.N := ⟨by have := h.l.n.hi.wl; rw [List.length_map] at this; exact this, by rw [h.dn, h.dk], h.l.n.c0⟩

theorem Mid.run2 {d : PD} {w0 wr : World} (h0 : PairOk d w0) (T : Nat) (hb : BdD d T) (hT : TOk d T) (n : Int) (m : Nat) (hm : runN n = (m : Int)) (h : Mid d m w0 wr) :
    Calls Tryz.prog 54 #[.pointer (some ⟨d.x.Y, 0, none⟩), .int .i64 n] wr fun e w' => e = .returned (.int .i64 (m : Int)) ∧ StepTo d T w0 w' := by
  obtain ⟨vK', h1, h2, h3, h4⟩ := h.e
  have hb100 := (runN_bd n).2
  have hm100 : m ≤ 100000 := by omega
  obtain ⟨L, hL, hL2⟩ := log_cases h0 hb hT
  have hno := netok_of h0
  have hall : ∀ i, i ≤ m → NBd d.x (iterN d.kx i d.N) := fun i hi => nbd_of h0.k h0.x (h0.l.n.iter h0.l.x i) (by rw [← h0.dk]; exact (hno.iter i).2)
  have hlog : ∀ i, i ≤ m → ∀ e ∈ (iterN d.kx i d.N).devs, e.2.length + 1 ≤ 17592186044416 := by
    intro i hi e he
    have := iterN_log d.kx d.N L hL i e he
    omega
  refine (rrun_any d.x d.kx h0.k d.N d.vR wr h2 h0.x n m hm hall (by have := hb.1; have := hT.1; omega) hlog h0.l.x.q).mono ?_
  rintro e w' ⟨rfl, hR⟩
  obtain ⟨vR', g1, g2⟩ := hR.r
  refine ⟨rfl, ⟨⟨d.P, d.kx, d.x, iterK d.kx m d.s, vK', vR', iterN d.kx m d.N⟩, ⟨rfl, rfl⟩, ?_, ?_, ?_, ?_⟩, ?_⟩
  · -- the pair
    have hKnew : ∀ b, KB d.kx vK' b → KB d.kx d.vK b ∨ w0.heap.size ≤ b := by
      rintro b (hk | hk)
      · rcases KA.mono h4 b hk with h5 | h5
        · exact .inl (.inl h5)
        · exact .inr h5
      · exact .inl (.inr hk)
    have hRlt : ∀ b, RAll d.x d.vR b → b < w0.heap.size := fun b hr => h0.r.lt h0.nbd.len b hr
    have hsep1 : ∀ b, KB d.kx vK' b → ¬ RAll d.x d.vR b := by
      intro b hk hr
      rcases hKnew b hk with h5 | h5
      · exact h0.sep b h5 hr
      · have := hRlt b hr; omega
    have hRnew : ∀ b, RAll d.x vR' b → RAll d.x d.vR b ∨ wr.heap.size ≤ b := by
      rintro b (hr | hr)
      · rcases RA.mono g2 b hr with h5 | h5
        · exact .inl (.inl h5)
        · exact .inr h5
      · exact .inl (.inr hr)
    have hP := lt_of_get h0.p
    refine ⟨h1.frS hR.f (fun b hk hr => hsep1 b hk (.inl hr)), g1, h0.k, h0.x, by rw [← h0.dk]; exact (hno.iter m).2, h0.dk, h0.wf.iter m, ?_, h0.m, ?_, ?_, ?_⟩
    · exact hR.f.get h3 (fun hr => h0.s2 (.inl hr))
    · intro b hk hr
      rcases hRnew b hr with h5 | h5
      · exact hsep1 b hk h5
      · have := h1.ltB b hk; omega
    · intro hk
      rcases hKnew _ hk with h5 | h5
      · exact h0.s1 h5
      · simp only at h5; omega
    · intro hr
      rcases hRnew _ hr with h5 | h5
      · exact h0.s2 h5
      · have := lt_of_get h3; simp only at h5; omega
  · refine ⟨?_, ?_, iterN_logW d.kx d.N hb.2.2 m (fun i hi v hv => ((hall i (by omega)).sb v hv).1)⟩
    · show (iterN d.kx m d.N).ck ≤ _
      rw [iterN_ck]
      have := hb.1
      omega
    · intro e he
      have := iterN_log d.kx d.N (100000 * T) hb.2.1 m e he
      omega
  · rintro b ((hk | hk) | (hr | hr) | hp)
    · rcases KA.mono h4 b hk with h5 | h5
      · exact .inl (.inl (.inl h5))
      · exact .inr h5
    · exact .inl (.inl (.inr hk))
    · rcases RA.mono g2 b hr with h5 | h5
      · exact .inl (.inr (.inl (.inl h5)))
      · exact .inr (Nat.le_trans h.f.size h5)
    · exact .inl (.inr (.inl (.inr hr)))
    · exact .inl (.inr (.inr hp))
  · rintro b (hk | hr)
    · rcases KA.mono h4 b hk with h5 | h5
      · exact .inl (.inl h5)
      · exact .inr h5
    · rcases RA.mono g2 b hr with h5 | h5
      · exact .inl (.inr h5)
      · exact .inr (Nat.le_trans h.f.size h5)
  · exact h.f.step hR.f (fun b hr => .inl (.inr hr))

end Go.Proofs.YthmcheoehcmglaaGreat
/- The statements' step: Run, Word, View, Peek, Clock. -/
namespace Go.Proofs.YthmcheoehcmglaaGreat
open Go.RowKit
set_option linter.unusedVariables false
attribute [local go_sem ↓] Go.wp_at_zero Go.wp_at_succ

def stepV (wh kd a b : Int) : Value := .agg #[.int .i64 wh, .int .i64 kd, .int .i64 a, .int .i64 b]

set_option maxRecDepth 100000 in
set_option maxHeartbeats 2000000 in
theorem step_run (d : PD) (w : World) (h : PairOk d w) (T : Nat) (hb : BdD d T) (hT : TOk d T) (wh a b : Int) :
    Calls Tryz.prog 39 #[.pointer (some ⟨d.P, 0, none⟩), stepV wh 1 a b] w fun e w' => e = .returned (.bool true) ∧ StepTo d T w w' := by
  obtain ⟨m, hm⟩ := Int.eq_ofNat_of_zero_le (runN_bd a).1
  have hfa : Fr (fun _ => False) w (w.alloc (.cells #[.int .i64 wh, .int .i64 1, .int .i64 a, .int .i64 b] 28)) := (Fr.refl _ w).alloc _
  have HFA := hid hfa
  have HBX := hid (heap_alloc_new w (.cells #[.int .i64 wh, .int .i64 1, .int .i64 a, .int .i64 b] 28))
  have hw := h.frF hfa
  have HP := hid hw.p
  have hPs := lt_of_get h.p
  have hne : ¬ d.P = w.heap.size := by omega
  have HPB : Hid (¬ PB d w.heap.size) := fun hh => by have := h.lt _ hh; omega
  have HBC := hid (fun (w' : World) (hs : StepTo d T (w.alloc (.cells #[.int .i64 wh, .int .i64 1, .int .i64 a, .int .i64 b] 28)) w') => StepTo.back hfa hs)
  unfold stepV
  clear hfa
  go_enter Tryz.func39, Tryz.ntmps39
  go_upto_region 1 with fail
  generalize w.alloc (.cells #[.int .i64 wh, .int .i64 1, .int .i64 a, .int .i64 b] 28) = wa at *
  have HR1 := hid (hw.run1 (Fr.refl _ wa).drew T hb hT a m hm)
  have HR2 := hid (fun (w1 : World) (hM : Mid d m wa w1) => hM.run2 hw T hb hT a m hm)
  have k1 := row_cell HBX.out 1
  have p0 : wa.drew.cell? ⟨d.P, 0, none⟩ = some (.pointer (some ⟨d.kx.X, 0, none⟩)) := row_cell HP.out 0
  have k2 : wa.drew.cell? ⟨w.heap.size, 2, none⟩ = some (.int .i64 a) := row_cell HBX.out 2
  clear hw h hb hT hm hPs
  go_wp2_with fail
  go_region_law
    (first
      | (refine step_call Tryz.func21 (by kernel_rfl) (by kernel_rfl) (by rfl) (by rfl) [.pointer (some ⟨d.kx.X, 0, none⟩), .int .i64 a] (by rfl) (HR1.out.mono ?_); rintro e w2 ⟨rfl, hM⟩; refine ⟨_, rfl, ?_⟩))
  all_goals
    have hBX2 := hM.f.get HBX.out (fun hh => HPB.out hh.pb)
    obtain ⟨vK', -, -, hp2, -⟩ := hM.e
    have q0 : w2.drew.cell? ⟨d.P, 1, none⟩ = some (.pointer (some ⟨d.x.Y, 0, none⟩)) := row_cell hp2 1
    have q2 : w2.drew.cell? ⟨w.heap.size, 2, none⟩ = some (.int .i64 a) := row_cell hBX2 2
    have HR3 := hid (HR2.out w2.drew (hM.frF (Fr.refl _ w2).drew))
    clear hBX2 hp2 hM k1 p0 k2 HR1 HR2
    go_wp2_with fail
    go_region_law
      (first
        | (refine step_call Tryz.func54 (by kernel_rfl) (by kernel_rfl) (by rfl) (by rfl) [.pointer (some ⟨d.x.Y, 0, none⟩), .int .i64 a] (by rfl) (HR3.out.mono ?_); rintro e w3 ⟨rfl, hS⟩; refine ⟨_, rfl, ?_⟩))
    all_goals
      have HS := hid (HBC.out w3 hS)
      clear hS q0 q2
      go_wp2_with fail
      go_ret
      exact ⟨rfl, HS.out⟩

set_option maxRecDepth 100000 in
set_option maxHeartbeats 2000000 in
theorem step_word (d : PD) (w : World) (h : PairOk d w) (T : Nat) (hb : BdD d T) (hT : TOk d T) (wh a b : Int) (hbi : I64 b) :
    Calls Tryz.prog 39 #[.pointer (some ⟨d.P, 0, none⟩), stepV wh 4 a b] w fun e w' => e = .returned (.bool true) ∧ StepTo d T w w' := by
  have hfa : Fr (fun _ => False) w (w.alloc (.cells #[.int .i64 wh, .int .i64 4, .int .i64 a, .int .i64 b] 28)) := (Fr.refl _ w).alloc _
  have HBX := hid (heap_alloc_new w (.cells #[.int .i64 wh, .int .i64 4, .int .i64 a, .int .i64 b] 28))
  have hw := h.frF hfa
  have HP := hid hw.p
  have hPs := lt_of_get h.p
  have hne : ¬ d.P = w.heap.size := by omega
  have HBC := hid (fun (w' : World) (hs : StepTo d T (w.alloc (.cells #[.int .i64 wh, .int .i64 4, .int .i64 a, .int .i64 b] 28)) w') => StepTo.back hfa hs)
  unfold stepV
  clear hfa
  go_enter Tryz.func39, Tryz.ntmps39
  go_upto_region 1 with fail
  generalize w.alloc (.cells #[.int .i64 wh, .int .i64 4, .int .i64 a, .int .i64 b] 28) = wa at *
  have k1 := row_cell HBX.out 1
  have k2 := row_cell HBX.out 2
  have k3 := row_cell HBX.out 3
  have HSM := hid (fun (w' : World) (hf : Fr (fun _ => False) wa w') => HBC.out w' (StepTo.same hw hb hf))
  have hck : d.N.ck ≤ 9223372036854775807 := by have := hb.1; have := hT.1; omega
  have HW := hid (hw.word hck a)
  clear hw h hb hT hPs HBC
  go_wp2_with fail
  refine HW.out.mono ?_
  rintro e w2 ⟨rfl, hf2⟩
  have HS := hid (HSM.out w2 hf2)
  clear hf2
  go_wp2_with fail
  go_ret
  exact ⟨rfl, HS.out⟩

set_option maxRecDepth 100000 in
set_option maxHeartbeats 2000000 in
theorem step_view (d : PD) (w : World) (h : PairOk d w) (T : Nat) (hb : BdD d T) (hT : TOk d T) (wh a b : Int) (hbi : I64 b) :
    Calls Tryz.prog 39 #[.pointer (some ⟨d.P, 0, none⟩), stepV wh 5 a b] w fun e w' => e = .returned (.bool true) ∧ StepTo d T w w' := by
  have hfa : Fr (fun _ => False) w (w.alloc (.cells #[.int .i64 wh, .int .i64 5, .int .i64 a, .int .i64 b] 28)) := (Fr.refl _ w).alloc _
  have HBX := hid (heap_alloc_new w (.cells #[.int .i64 wh, .int .i64 5, .int .i64 a, .int .i64 b] 28))
  have hw := h.frF hfa
  have HP := hid hw.p
  have hPs := lt_of_get h.p
  have hne : ¬ d.P = w.heap.size := by omega
  have HBC := hid (fun (w' : World) (hs : StepTo d T (w.alloc (.cells #[.int .i64 wh, .int .i64 5, .int .i64 a, .int .i64 b] 28)) w') => StepTo.back hfa hs)
  unfold stepV
  clear hfa
  go_enter Tryz.func39, Tryz.ntmps39
  go_upto_region 1 with fail
  generalize w.alloc (.cells #[.int .i64 wh, .int .i64 5, .int .i64 a, .int .i64 b] 28) = wa at *
  have k1 := row_cell HBX.out 1
  have k2 := row_cell HBX.out 2
  have k3 := row_cell HBX.out 3
  have HSM := hid (fun (w' : World) (hf : Fr (fun _ => False) wa w') => HBC.out w' (StepTo.same hw hb hf))
  have hck : d.N.ck ≤ 9223372036854775807 := by have := hb.1; have := hT.1; omega
  have HW := hid (hw.view a)
  clear hw h hb hT hPs HBC
  go_wp2_with fail
  refine HW.out.mono ?_
  rintro e w2 ⟨rfl, hf2⟩
  have HS := hid (HSM.out w2 hf2)
  clear hf2
  go_wp2_with fail
  go_ret
  exact ⟨rfl, HS.out⟩

set_option maxRecDepth 100000 in
set_option maxHeartbeats 2000000 in
theorem step_peek (d : PD) (w : World) (h : PairOk d w) (T : Nat) (hb : BdD d T) (hT : TOk d T) (wh a b : Int) (hbi : I64 b) :
    Calls Tryz.prog 39 #[.pointer (some ⟨d.P, 0, none⟩), stepV wh 6 a b] w fun e w' => e = .returned (.bool true) ∧ StepTo d T w w' := by
  have hfa : Fr (fun _ => False) w (w.alloc (.cells #[.int .i64 wh, .int .i64 6, .int .i64 a, .int .i64 b] 28)) := (Fr.refl _ w).alloc _
  have HBX := hid (heap_alloc_new w (.cells #[.int .i64 wh, .int .i64 6, .int .i64 a, .int .i64 b] 28))
  have hw := h.frF hfa
  have HP := hid hw.p
  have hPs := lt_of_get h.p
  have hne : ¬ d.P = w.heap.size := by omega
  have HBC := hid (fun (w' : World) (hs : StepTo d T (w.alloc (.cells #[.int .i64 wh, .int .i64 6, .int .i64 a, .int .i64 b] 28)) w') => StepTo.back hfa hs)
  unfold stepV
  clear hfa
  go_enter Tryz.func39, Tryz.ntmps39
  go_upto_region 1 with fail
  generalize w.alloc (.cells #[.int .i64 wh, .int .i64 6, .int .i64 a, .int .i64 b] 28) = wa at *
  have k1 := row_cell HBX.out 1
  have k2 := row_cell HBX.out 2
  have k3 := row_cell HBX.out 3
  have HSM := hid (fun (w' : World) (hf : Fr (fun _ => False) wa w') => HBC.out w' (StepTo.same hw hb hf))
  have hck : d.N.ck ≤ 9223372036854775807 := by have := hb.1; have := hT.1; omega
  have HAD := hid (fun w1 => laddress_any b w1 hbi)
  have HW := hid ((hw.frF (Fr.refl _ wa).drew).peek a (b % 4294967296) (by omega) (by omega))
  have k2d : wa.drew.cell? ⟨w.heap.size, 2, none⟩ = some (.int .i64 a) := k2
  have k3d : wa.drew.cell? ⟨w.heap.size, 3, none⟩ = some (.int .i64 b) := k3
  clear hw h hb hT hPs HBC
  generalize b % 4294967296 = ad at *
  go_wp2_with fail
  go_region_law
    (first
      | (refine step_call Tryz.func13 (by kernel_rfl) (by kernel_rfl) (by rfl) (by rfl) [.int .i64 b] (by rfl) ((HAD.out _).mono ?_); rintro e w2 ⟨rfl, rfl⟩; refine ⟨_, rfl, ?_⟩)
      | (refine step_call Tryz.func59 (by kernel_rfl) (by kernel_rfl) (by rfl) (by rfl) [.pointer (some ⟨d.P, 0, none⟩), .int .i64 a, .int .i64 ad] (by rfl) (HW.out.mono ?_); rintro e w3 ⟨rfl, hf3⟩; refine ⟨_, rfl, ?_⟩))
  all_goals
    have HS := hid (HSM.out w3 hf3.undrew)
    clear hf3
    go_wp2_with fail
    go_ret
    exact ⟨rfl, HS.out⟩

set_option maxRecDepth 100000 in
set_option maxHeartbeats 2000000 in
theorem step_clock (d : PD) (w : World) (h : PairOk d w) (T : Nat) (hb : BdD d T) (hT : TOk d T) (wh a b : Int) (hbi : I64 b) :
    Calls Tryz.prog 39 #[.pointer (some ⟨d.P, 0, none⟩), stepV wh 7 a b] w fun e w' => e = .returned (.bool true) ∧ StepTo d T w w' := by
  have hfa : Fr (fun _ => False) w (w.alloc (.cells #[.int .i64 wh, .int .i64 7, .int .i64 a, .int .i64 b] 28)) := (Fr.refl _ w).alloc _
  have HBX := hid (heap_alloc_new w (.cells #[.int .i64 wh, .int .i64 7, .int .i64 a, .int .i64 b] 28))
  have hw := h.frF hfa
  have HP := hid hw.p
  have hPs := lt_of_get h.p
  have hne : ¬ d.P = w.heap.size := by omega
  have HBC := hid (fun (w' : World) (hs : StepTo d T (w.alloc (.cells #[.int .i64 wh, .int .i64 7, .int .i64 a, .int .i64 b] 28)) w') => StepTo.back hfa hs)
  unfold stepV
  clear hfa
  go_enter Tryz.func39, Tryz.ntmps39
  go_upto_region 1 with fail
  generalize w.alloc (.cells #[.int .i64 wh, .int .i64 7, .int .i64 a, .int .i64 b] 28) = wa at *
  have k1 := row_cell HBX.out 1
  have k2 := row_cell HBX.out 2
  have k3 := row_cell HBX.out 3
  have HSM := hid (fun (w' : World) (hf : Fr (fun _ => False) wa w') => HBC.out w' (StepTo.same hw hb hf))
  have hck : d.N.ck ≤ 9223372036854775807 := by have := hb.1; have := hT.1; omega
  have HW := hid hw.l.clock
  have p0 : wa.cell? ⟨d.P, 0, none⟩ = some (.pointer (some ⟨d.kx.X, 0, none⟩)) := row_cell HP.out 0
  have p1 : wa.cell? ⟨d.P, 1, none⟩ = some (.pointer (some ⟨d.x.Y, 0, none⟩)) := row_cell HP.out 1
  have p5 : wa.cell? ⟨d.x.Y, 5, none⟩ = some (.int .i64 d.N.ck) := row_cell hw.r.n.hy 5
  have HS := hid (HSM.out wa (Fr.refl _ _))
  clear hw h hb hT hPs HBC HSM
  go_wp2_with fail
  refine HW.out.mono ?_
  rintro e w2 ⟨rfl, hw2⟩
  obtain rfl := hw2.symm
  go_wp2_with fail
  go_ret
  exact ⟨rfl, HS.out⟩

end Go.Proofs.YthmcheoehcmglaaGreat
/- A kernel is booted and the document's net is read: a pair. -/
namespace Go.Proofs.YthmcheoehcmglaaGreat
open Go.RowKit
set_option linter.unusedVariables false
attribute [local go_sem ↓] Go.wp_at_zero Go.wp_at_succ

def rstOf (y : RWard) : RSt := ⟨y.q, y.vR, y.vD, y.regs.map (fun r => (r.r, r.g)), y.devs⟩

theorem devs_same (ow : List Int) (k : Nat) : ∀ j, j ≤ ow.length → devsN ow k j = devsOf ow k j := by
  intro j
  induction j with
  | zero => intro _; rfl
  | succ j ih =>
    intro hj
    rw [devsOf_succ, devsN, ih (by omega)]
    have hg : ow[j]? = some ow[j] := List.getElem?_eq_getElem (by omega)
    rw [getD_of hg, hg]
    by_cases h : ow[j] = (k : Int)
    · rw [if_pos (by rw [h]), if_pos h]
    · rw [if_neg (by simpa using h), if_neg h, List.append_nil]

theorem zip_back (l : List RReg) : List.zipWith rregOf (l.map (fun r => (r.r, r.g))) (l.map (·.ws)) = l := by
  induction l with
  | nil => rfl
  | cons r l ih => simp only [List.map_cons, List.zipWith_cons_cons, ih]; rfl
theorem rw_back (m : Img) (rws : List RWard) (wi : List (Int × Int × Int × Int)) (h : NetOf m rws wi) : List.zipWith rwOf (rws.map rstOf) (m.ws.map bootW) = rws := by
  have hl := key_len h.key
  apply List.ext_getElem?
  intro k
  rw [List.getElem?_zipWith, List.getElem?_map, List.getElem?_map]
  by_cases hk : k < rws.length
  · have hy : rws[k]? = some rws[k] := List.getElem?_eq_getElem hk
    have hx : m.ws[k]? = some (m.ws[k]'(by omega)) := List.getElem?_eq_getElem _
    have key := key_at h.key k _ _ hy hx
    rw [hy, hx]
    simp only [Option.map_some, Option.some.injEq]
    simp only [rkey, wkey, Prod.mk.injEq] at key
    obtain ⟨k1, k2, k3, k4, k5⟩ := key
    unfold rwOf rstOf bootW wordsOf
    simp only
    rw [← k5, zip_back, ← k2]
    generalize rws[k] = y at *
    obtain ⟨q, vR, vD, now, th, regs, devs⟩ := y
    simp only at k2 k3 ⊢
    rw [k2, k3]
  · rw [List.getElem?_eq_none (by omega), List.getElem?_eq_none (by omega)]
    rfl

theorem rdev_zero (n : Nat) : rdevCells (List.replicate n (0, [])) (List.replicate n (.slice none 0 0)) = devZ n := by
  induction n with
  | zero => rfl
  | succ n ih =>
    unfold rdevCells at ih ⊢
    rw [List.replicate_succ, List.replicate_succ, List.zip_cons_cons, List.flatMap_cons, ih]
    unfold devZ
    rw [List.replicate_succ, List.flatten_cons]

/-- The pair. -/
theorem mk_pair {w w1 w2 : World} {m : Img} {kx : KX} {vK : List Value} (hL : Live kx (bootM m) (bootN m) vK w1) (hX : XOf m kx) (hm64 : 0 ≤ m.mem) {Y : Nat} {rws : List RWard} {wi : List (Int × Int × Int × Int)} {vW vI vD : Value} (hf2 : Fr (fun _ => False) w1 w2)
    (hN : NetAt w2 Y m.gap m.mem 0 rws wi vW vI vD m.ow.length) (hO : NetOf m rws wi) (hE : RdEx w1 Y rws vW vI vD m.ow.length w2) :
    ∃ x vR, x.Y = Y ∧ (∀ b, RAll x vR b → w1.heap.size ≤ b) ∧ ∀ (P : Nat) (w3 : World), Fr (fun _ => False) w2 w3 → w2.heap.size ≤ P → PairAt w3 P kx.X Y → PairOk ⟨P, kx, x, bootM m, vK, vR, bootN m⟩ w3 := by
  have hr := KerF.r hL.k
  have hl := key_len hO.key
  have hq := hL.x.q
  have hrl : kx.regs.length = m.ws.length := by rw [hX.regs]; simp
  have hws1 : 1 ≤ rws.length := by have := hq.l1; have := hL.x.ql; omega
  obtain ⟨gW, cW, rfl, -, -⟩ := hN.ow.form (by omega)
  obtain ⟨B, hB1, hD⟩ := hE.dI
  have hat : ∀ y ∈ rws, ∃ (k : Nat) (xw : WardV), rws[k]? = some y ∧ m.ws[k]? = some xw ∧ rkey y = wkey xw := by
    intro y hy
    obtain ⟨k, hk⟩ := List.getElem?_of_mem hy
    have hx : m.ws[k]? = some (m.ws[k]'(by have := (List.getElem?_eq_some_iff.1 hk).1; omega)) := List.getElem?_eq_getElem _
    exact ⟨k, _, hk, hx, key_at hO.key k y _ hk hx⟩
  have hregs : ∀ y ∈ rws, y.regs.map (·.r) ∈ kx.regs := by
    intro y hy
    obtain ⟨k, xw, h1, h2, h3⟩ := hat y hy
    simp only [rkey, wkey, Prod.mk.injEq] at h3
    rw [hX.regs, h3.2.2.2.1]
    exact List.mem_map.2 ⟨xw, List.mem_of_getElem? h2, rfl⟩
  let x : RX := ⟨Y, m.gap, m.mem, gW, cW, vI, vD, rws.map rstOf, m.wi, m.ow.length⟩
  have ex1 : rwsOf x (bootN m) = rws := rw_back m rws wi hO
  have ex2 : wisOf x (bootN m) = wi := by
    show List.zipWith _ m.wi (m.wi.map (fun _ => ((0 : Int), (0 : Int)))) = wi
    rw [hO.wi]
    have : ∀ l : List (Int × Int), List.zipWith (fun p c => (p.1, p.2, c.1, c.2)) l (l.map (fun _ => ((0 : Int), (0 : Int)))) = l.map (fun x => (x.1, x.2, 0, 0)) := by
      intro l
      induction l with
      | nil => rfl
      | cons a l ih => simp only [List.map_cons, List.zipWith_cons_cons, ih]
    exact this m.wi
  have hvR : ∀ v ∈ (List.replicate m.ow.length (Value.slice none 0 0)), ∀ b, v.ownBlock ≠ some b := by
    intro v hv b
    rw [(List.mem_replicate.1 hv).2]
    simp [Value.ownBlock]
  have hRef : RefAt x (bootN m) (List.replicate m.ow.length (.slice none 0 0)) w2 := by
    refine ⟨?_, ?_, ?_, ?_, ?_, ?_⟩
    · rw [ex1, ex2]
      have hlx : x.st.length = rws.length := by show (rws.map rstOf).length = _; simp
      rw [hlx]
      show NetAt w2 Y m.gap m.mem 0 rws wi _ vI vD (List.replicate m.ow.length ((0 : Int), ([] : List Int))).length
      rw [List.length_replicate]
      exact hN
    · show w2.ownsRow 0 _ 2 vD (List.replicate m.ow.length ((0 : Int), ([] : List Int))).length (rdevCells (List.replicate m.ow.length (0, [])) (List.replicate m.ow.length (.slice none 0 0)))
      rw [List.length_replicate, rdev_zero]
      exact hE.dz
    · show (List.replicate m.ow.length (Value.slice none 0 0)).length = (List.replicate m.ow.length ((0 : Int), ([] : List Int))).length
      simp
    · intro i d v hd hv
      have e1 := (List.mem_replicate.1 (List.mem_of_getElem? hd)).2
      have e2 := (List.mem_replicate.1 (List.mem_of_getElem? hv)).2
      rw [e1, e2]
      exact World.ownsRow_nil _ _ _ _
    · intro v hv b hb
      exact absurd hb (hvR v hv b)
    · intro i j v v' b _ h1 _ h3
      exact absurd h3 (hvR v (List.mem_of_getElem? h1) b)
  have hst : ∀ z ∈ x.st, ∃ y ∈ rws, z = rstOf y := by
    intro z hz
    obtain ⟨y, hy, rfl⟩ := List.mem_map.1 hz
    exact ⟨y, hy, rfl⟩
  have hK : RKx x kx := by
    refine ⟨hX.gap, ?_, ?_, hX.wires, ?_⟩
    · rw [hX.qs]
      show m.ws.map (·.q) = (rws.map rstOf).map (·.q)
      have := congrArg (List.map (fun z : Int × StV × StV × List Reg × List (List Int) => z.1)) hO.key
      simp only [List.map_map] at this ⊢
      exact this.symm
    · rw [hX.regs]
      show m.ws.map (·.regs) = (rws.map rstOf).map (fun y => y.regs.map (·.1))
      have := congrArg (List.map (fun z : Int × StV × StV × List Reg × List (List Int) => z.2.2.2.1)) hO.key
      simp only [List.map_map] at this ⊢
      rw [← show m.ws.map ((fun z : Int × StV × StV × List Reg × List (List Int) => z.2.2.2.1) ∘ wkey) = m.ws.map (·.regs) from rfl, ← this]
      apply List.map_congr_left
      intro y hy
      simp [rstOf, rkey]
    · rw [hX.dvs]
      show _ = (rws.map rstOf).map (·.devs)
      apply List.ext_getElem?
      intro k
      rw [List.getElem?_map, List.getElem?_map, List.getElem?_map]
      by_cases hk : k < m.ws.length
      · have hy : rws[k]? = some (rws[k]'(by omega)) := List.getElem?_eq_getElem _
        rw [List.getElem?_range hk, hy]
        simp only [Option.map_some, rstOf]
        rw [hO.dev k _ hy, devs_same m.ow k _ (Nat.le_refl _)]
      · rw [List.getElem?_eq_none (by simpa using hk), List.getElem?_eq_none (by omega)]
        rfl
  have hblk : ∀ y ∈ rws, ∀ p ∈ (rstOf y).regs, ∃ r ∈ y.regs, p = (r.r, r.g) := by
    intro y hy p hp
    obtain ⟨r, hr2, rfl⟩ := List.mem_map.1 hp
    exact ⟨r, hr2, rfl⟩
  have hXok : RXok x := by
    refine ⟨?_, ?_, ?_, ?_, ?_, ?_, ?_, ?_, ?_, ?_, ?_, ?_, ?_⟩
    · show 1 ≤ (rws.map rstOf).length; simpa using hws1
    · show (rws.map rstOf).length ≤ 4; simp; have := hr.wl; omega
    · show m.wi.length ≤ 8; have := hr.wi8; rw [hX.wires] at this; exact this
    · intro z hz
      obtain ⟨y, hy, rfl⟩ := hst z hz
      have := (hr.fit _ (hregs y hy)).1
      simpa [rstOf] using this
    · intro z hz p hp
      obtain ⟨y, hy, rfl⟩ := hst z hz
      obtain ⟨r, hr2, rfl⟩ := hblk y hy p hp
      exact ((hr.fit _ (hregs y hy)).2 r.r (List.mem_map.2 ⟨r, hr2, rfl⟩)).1
    · intro z hz
      obtain ⟨y, hy, rfl⟩ := hst z hz
      have hm : (rstOf y).devs ∈ kx.dvs := by rw [hK.dvs]; exact List.mem_map.2 ⟨_, hz, rfl⟩
      exact (hr.db _ hm).1
    · intro z hz
      have hm : z.q ∈ kx.qs := by rw [hK.qs]; exact List.mem_map.2 ⟨_, hz, rfl⟩
      exact hq.q _ hm
    · show 1 ≤ m.gap ∧ m.gap ≤ 16
      have h1 := hq.g0
      have h2 := hq.g1
      rw [hX.gap] at h1 h2
      exact ⟨h1, h2⟩
    · show m.mem ≤ 1024
      have h1 := hr.n1
      rw [hX.n] at h1
      omega
    · show m.ow.length ≤ 8
      have := hr.dn8
      rw [hX.dn] at this
      exact this
    · intro z hz d hd
      have hm : z.devs ∈ kx.dvs := by rw [hK.dvs]; exact List.mem_map.2 ⟨_, hz, rfl⟩
      have := (hr.db _ hm).2 d hd
      rw [hX.dn] at this
      exact this
    · show ((rws.map rstOf).flatMap (fun y => y.regs.map (·.2))).Nodup
      have e : (rws.map rstOf).flatMap (fun y => y.regs.map (·.2)) = rws.flatMap (fun y => y.regs.map (·.g)) := by
        rw [List.flatMap_map]
        congr 1
        funext y
        simp [rstOf]
      rw [e]
      exact hE.sp.imp (fun h => by omega)
    · intro z hz b hb z' hz' p hp
      obtain ⟨y, hy, rfl⟩ := hst z hz
      obtain ⟨y', hy', rfl⟩ := hst z' hz'
      obtain ⟨r, hr2, rfl⟩ := hblk y' hy' p hp
      have h1 := hD.a y' hy' r hr2
      have h2 := hD.b y hy b hb
      simp only
      omega
  have hfresh : ∀ b, RAll x (List.replicate m.ow.length (.slice none 0 0)) b → w1.heap.size ≤ b := by
    rintro b ((e | e | e | e | ⟨z, hz, p, hp, e⟩ | ⟨v, hv, e⟩) | ⟨z, hz, e | e⟩)
    · rw [e]; exact hE.by_
    · rw [e]; exact hE.bw gW rfl
    · exact hE.bi b e
    · exact hE.bd b e
    · obtain ⟨y, hy, rfl⟩ := hst z hz
      obtain ⟨r, hr2, rfl⟩ := hblk y hy p hp
      rw [e]; exact (hE.sb y hy).1 r hr2
    · exact absurd e (hvR v hv b)
    · obtain ⟨y, hy, rfl⟩ := hst z hz
      exact (hE.sb y hy).2 b e
    · obtain ⟨y, hy, rfl⟩ := hst z hz
      exact Nat.le_trans hB1 (hD.b y hy b e)
  refine ⟨x, List.replicate m.ow.length (.slice none 0 0), rfl, hfresh, ?_⟩
  intro P w3 hf3 hP hpa
  have hL2 := hL.frF hf2
  have hdn : (bootN m).devs.length = x.dn := by show (List.replicate m.ow.length ((0 : Int), ([] : List Int))).length = m.ow.length; simp
  refine ⟨hL2.frF hf3, hRef.frF hf3, hK, hXok, hdn, hX.dn, ?_, hpa, ?_, ?_, ?_, ?_⟩
  · intro v hv
    obtain ⟨z, _, rfl⟩ := List.mem_map.1 hv
    rfl
  · show m.mem = (kx.n : Int)
    rw [hX.n]
    omega
  · intro b hk hr2
    have h1 := hL.ltB b hk
    have h2 := hfresh b hr2
    omega
  · intro hk
    have h1 := hL2.ltB P hk
    omega
  · intro hr2
    have h1 := hRef.lt (nbd_of hK hXok hL.n hdn).len P hr2
    omega

end Go.Proofs.YthmcheoehcmglaaGreat
/- The statements' known: the document's example. -/
namespace Go.Proofs.YthmcheoehcmglaaGreat
open Go.RowKit
set_option linter.unusedVariables false
attribute [local go_sem ↓] Go.wp_at_zero Go.wp_at_succ

theorem known_net (x : KX) (hx : XOf exImg x) : (iterN x 3 (bootN exImg)).wn[0]? = some ⟨⟨[12, 7, 0, 0, 0, 0, 0, 0], 3, 0, 0, 0, false⟩, ((iterN x 3 (bootN exImg)).wn.getD 0 zeroWN).was, ((iterN x 3 (bootN exImg)).wn.getD 0 zeroWN).ws⟩ := by
  obtain ⟨X, M, n, gap, qs, vQ, gK, cK, regs, vR, wires, vI, dvs, vD, gD, dn⟩ := x
  obtain ⟨h1, h2, h3, h4, h5, h6, h7⟩ := hx
  simp only at h1 h2 h3 h4 h5 h6 h7
  subst h1 h2 h3 h4 h5 h6 h7
  kernel_rfl

set_option maxRecDepth 100000 in
set_option maxHeartbeats 2000000 in
theorem known_any (w : World) : Calls Tryz.prog 12 #[] w fun e w' => e = .returned (.bool true) ∧ Fr (fun _ => False) w w' := by
  have HB := hid (fun w => boot_live exText (by unfold maxLen; decide) w exImg true ex_img ex_err)
  unfold exText at HB
  go_enter Tryz.func12, Tryz.ntmps12
  go_wp2_with fail
  refine (HB.out _).mono ?_
  rintro e w1 ⟨x, vL, rfl, hl, hx, hf, hka⟩
  have HR := hid (hl.run 3 0 (by intro d hd; simp [bootN, exImg] at hd) (by have : (runN 3).toNat = 3 := rfl; omega) (by have : (runN 3).toNat = 3 := rfl; simp only [bootN]; omega))
  have hr3 : runN 3 = 3 := rfl
  rw [hr3] at HR
  have HF := hid hf
  have HKA := hid hka
  have HK := hid (known_net x hx)
  clear hl hx hf hka HB hr3
  go_wp2_with fail
  refine HR.out.mono ?_
  rintro e w2 ⟨rfl, vL', hl2, -, hf2⟩
  have HF2 := hid (HF.out.step hf2 (fun i hi => .inr (HKA.out i hi)))
  have HV := hid (hl2.view 0 _ HK.out)
  replace HV : Hid (Calls Tryz.prog 23 #[.pointer (some ⟨x.X, 0, none⟩), .int .i64 0] w2 fun e w' => e = .returned (.tuple #[.agg #[.int .u32 12, .int .u32 7, .int .u32 0, .int .u32 0, .int .u32 0, .int .u32 0, .int .u32 0, .int .u32 0, .int .u32 3, .int .i64 0, .int .i64 0, .int .i64 0, .bool false], .int .i64 0]) ∧ Fr (fun _ => False) w2 w') := HV
  clear hl2 hf2 HR
  go_wp2_with fail
  refine HV.out.mono ?_
  rintro e w3 ⟨rfl, hf3⟩
  have HF3 := hid (HF2.out.step hf3 (fun _ h => .inl h))
  clear hf3 HV
  go_wp2_with fail
  go_ret
  exact ⟨rfl, HF3.out.alloc _⟩

end Go.Proofs.YthmcheoehcmglaaGreat
/- The statements' looks over a kernel beside the net. -/
namespace Go.Proofs.YthmcheoehcmglaaGreat
open Go.RowKit
set_option linter.unusedVariables false
attribute [local go_sem ↓] Go.wp_at_zero Go.wp_at_succ

set_option maxRecDepth 100000 in
set_option maxHeartbeats 4000000 in
theorem PairOk.looks {d : PD} {w : World} (h : PairOk d w) (hck : d.N.ck ≤ 9223372036854775807) (lg : Bool) (hlog : lg = true → ∀ w1, Fr (fun _ => False) w w1 → ∀ i : Int, Calls Tryz.prog 56 #[.pointer (some ⟨d.P, 0, none⟩), .int .i64 i] w1 fun e w' => e = .returned (.bool true) ∧ Fr (fun _ => False) w1 w') :
    Calls Tryz.prog 40 #[.pointer (some ⟨d.P, 0, none⟩), .bool lg] w fun e w' => e = .returned (.bool true) ∧ Fr (fun _ => False) w w' := by
  have HA := hid h
  have HLG := hid hlog
  have c0 : w.cell? ⟨d.P, 0, none⟩ = some (.pointer (some ⟨d.kx.X, 0, none⟩)) := row_cell h.p 0
  have c1 : w.cell? ⟨d.P, 1, none⟩ = some (.pointer (some ⟨d.x.Y, 0, none⟩)) := row_cell h.p 1
  have c5 : w.cell? ⟨d.x.Y, 5, none⟩ = some (.int .i64 d.N.ck) := row_cell h.r.n.hy 5
  have HCL := hid h.l.clock
  have hn := (KerF.r h.l.k).n1
  have hr4 := h.x.n4
  have hd8 := h.x.d8
  have hdn := h.dn
  obtain ⟨n, hnE⟩ : ∃ n, d.kx.n = n := ⟨_, rfl⟩
  rw [hnE] at hn
  have HNE := hid hnE
  clear h hlog hnE
  go_enter Tryz.func40, Tryz.ntmps40
  go_wp2_with fail
  refine HCL.out.mono ?_
  rintro e w1 ⟨rfl, hw⟩
  obtain rfl := hw.symm
  go_wp2_with fail
  clear c0 c1 c5
  go_loopw [6, 7] (fun a b wr => a = .bool true ∧ ∃ i : Nat, i ≤ n + 2 ∧ b = .int .i64 ((i : Int) - 1) ∧ Fr (fun _ => False) w wr) (fun _ b _ => n + 2 - (intOf b + 1).toNat)
  case atStart => exact ⟨rfl, 0, by omega, rfl, Fr.refl _ _⟩
  case round =>
    obtain ⟨rfl, i, hi, rfl, hf⟩ := hrel
    have HB := hid (HA.out.frF hf)
    have HF := hid hf
    have c1 : wr.cell? ⟨d.P, 1, none⟩ = some (.pointer (some ⟨d.x.Y, 0, none⟩)) := row_cell HB.out.p 1
    have cm : wr.cell? ⟨d.x.Y, 1, none⟩ = some (.int .i64 n) := by rw [← HNE.out, ← HA.out.m]; exact row_cell HB.out.r.n.hy 1
    clear hf
    by_cases hlt : i < n + 2
    · have hlti : (i : Int) - 1 ≤ (n : Int) := by omega
      go_wp2_with fail
      refine (HB.out.word hck _).mono ?_
      rintro e w2 ⟨rfl, hf2⟩
      have HF2 := hid (HF.out.step hf2 (fun _ h => .inl h))
      clear hf2
      go_wp2_with fail
      go_roundw
      case rel => exact ⟨rfl, i + 1, by omega, by go_num, HF2.out⟩
      case measure => simp [intOf]; omega
    · have hlti : ¬ ((i : Int) - 1 ≤ (n : Int)) := by omega
      go_wp2_with fail
      clear c1 cm
      obtain ⟨sl, hsl⟩ : ∃ sl, d.x.st.length = sl := ⟨_, rfl⟩
      rw [hsl] at hr4
      have HSL := hid hsl
      clear hsl
      go_loopw [6, 9] (fun a b wq => a = .bool true ∧ ∃ j : Nat, j ≤ sl + 2 ∧ b = .int .i64 ((j : Int) - 1) ∧ Fr (fun _ => False) w wq) (fun _ b _ => sl + 2 - (intOf b + 1).toNat)
      case atStart => exact ⟨rfl, 0, by omega, rfl, HF.out⟩
      case round =>
        obtain ⟨rfl, j, hj, rfl, hf⟩ := hrel
        clear HB HF
        have HB := hid (HA.out.frF hf)
        have HF := hid hf
        have c1 : wr.cell? ⟨d.P, 1, none⟩ = some (.pointer (some ⟨d.x.Y, 0, none⟩)) := row_cell HB.out.p 1
        have cw : wr.cell? ⟨d.x.Y, 2, none⟩ = some (.slice (some ⟨d.x.gW, 0, none⟩) sl d.x.cW) := by rw [← HSL.out]; exact row_cell HB.out.r.n.hy 2
        clear hf
        by_cases hlt : j < sl + 2
        · have hlti : (j : Int) - 1 ≤ (sl : Int) := by omega
          go_wp2_with fail
          refine (HB.out.view _).mono ?_
          rintro e w2 ⟨rfl, hf2⟩
          have HF2 := hid (HF.out.step hf2 (fun _ h => .inl h))
          clear hf2
          go_wp2_with fail
          go_roundw
          case rel => exact ⟨rfl, j + 1, by omega, by go_num, HF2.out⟩
          case measure => simp [intOf]; omega
        · have hlti : ¬ ((j : Int) - 1 ≤ (sl : Int)) := by omega
          go_wp2_with fail
          clear c1 cw
          obtain ⟨dl, hdl⟩ : ∃ dl, d.N.devs.length = dl := ⟨_, rfl⟩
          have hdl8 : dl ≤ 8 := by rw [← hdl, hdn]; exact hd8
          have HDL := hid hdl
          clear hdl hdn
          go_loopw [6, 11] (fun a b wq => a = .bool true ∧ ∃ q : Nat, q ≤ dl + 2 ∧ b = .int .i64 ((q : Int) - 1) ∧ Fr (fun _ => False) w wq) (fun _ b _ => dl + 2 - (intOf b + 1).toNat)
          case atStart => exact ⟨rfl, 0, by omega, rfl, HF.out⟩
          case round =>
            obtain ⟨rfl, q, hq, rfl, hf⟩ := hrel
            clear HB HF
            have HB := hid (HA.out.frF hf)
            have HF3 := hid hf
            cases hlb : lg with
            | false =>
              clear hf
              go_wp2_with fail
              go_ret
              exact ⟨rfl, HF3.out⟩
            | true =>
              have HLO := hid (HLG.out hlb wr hf)
              obtain ⟨a3, q3, ea⟩ := owns_shape HB.out.r.dd
              have c1 : wr.cell? ⟨d.P, 1, none⟩ = some (.pointer (some ⟨d.x.Y, 0, none⟩)) := row_cell HB.out.p 1
              have cv : wr.cell? ⟨d.x.Y, 4, none⟩ = some (.slice a3 dl q3) := by rw [← HDL.out, ← ea]; exact row_cell HB.out.r.n.hy 4
              clear hf ea
              by_cases hlt : q < dl + 2
              · have hlti : (q : Int) - 1 ≤ (dl : Int) := by omega
                go_wp2_with fail
                refine (HLO.out _).mono ?_
                rintro e w2 ⟨rfl, hf2⟩
                have HF4 := hid (HF3.out.step hf2 (fun _ h => .inl h))
                clear hf2
                go_wp2_with fail
                go_roundw
                case rel => exact ⟨rfl, q + 1, by omega, by go_num, HF4.out⟩
                case measure => simp [intOf]; omega
              · have hlti : ¬ ((q : Int) - 1 ≤ (dl : Int)) := by omega
                go_wp2_with fail
                go_ret
                exact ⟨rfl, HF3.out⟩

end Go.Proofs.YthmcheoehcmglaaGreat
/- Several kernels beside their nets. -/
namespace Go.Proofs.YthmcheoehcmglaaGreat
open Go.RowKit
set_option linter.unusedVariables false
attribute [local go_sem ↓] Go.wp_at_zero Go.wp_at_succ

theorem own_kind {w : World} {base e size n b : Nat} {v : Value} {xs : List Value} (h : w.ownsRow base e size v n xs) (hb : v.ownBlock = some b) : ∃ cur, w.heap[b]? = some (.cells cur e (0, 0)) := by
  rcases h.2 with ⟨rfl, _⟩ | ⟨g, cap, cur, rfl, _, hg, _⟩
  · cases hb
  · cases hb
    exact ⟨cur, hg⟩

/-- The kinds of a pair's blocks. -/
theorem PairOk.kind {d : PD} {w : World} (h : PairOk d w) (b : Nat) (hb : PB d b) : ∃ cs t, w.heap[b]? = some (.cells cs t (0, 0)) ∧ t ≠ 81 := by
  have hr := KerF.r h.l.k
  have hn := h.nbd.len
  have hat : ∀ y ∈ d.x.st, ∃ (k : Nat) (v : WN), d.x.st[k]? = some y ∧ d.N.wn[k]? = some v := by
    intro y hy
    obtain ⟨k, hk⟩ := List.getElem?_of_mem hy
    exact ⟨k, _, hk, List.getElem?_eq_getElem (by rw [hn.l1]; exact (List.getElem?_eq_some_iff.1 hk).1)⟩
  rcases hb with (hb | hb) | ((e | e | e | e | ⟨y, hy, p, hp, e⟩ | ⟨v, hv, e⟩) | ⟨y, hy, e | e⟩) | e
  · rcases hb with rfl | rfl | rfl | rfl | ⟨v, hv, hb⟩
    · exact ⟨_, _, hr.hx, by decide⟩
    · exact ⟨_, _, hr.hm, by decide⟩
    · obtain ⟨c, hc⟩ := hr.gk
      exact ⟨_, _, hc, by decide⟩
    · exact ⟨_, _, (KerF.d h.l.k).hd, by decide⟩
    · obtain ⟨c, hc⟩ := (KerF.d h.l.k).own hv hb
      exact ⟨_, _, hc, by decide⟩
  · rcases hb with e | e | e | ⟨v, hv, e⟩ | e | e | ⟨v, hv, e⟩
    · exact ⟨_, _, by rw [e]; exact hr.hx, by decide⟩
    · exact ⟨_, _, by rw [e]; exact hr.hm, by decide⟩
    · obtain ⟨c, hc⟩ := hr.gk
      exact ⟨_, _, by rw [e]; exact hc, by decide⟩
    · obtain ⟨k, hk⟩ := List.getElem?_of_mem hv
      have hkl : k < d.kx.regs.length := by rw [hr.wn]; exact (List.getElem?_eq_some_iff.1 hk).1
      obtain ⟨v', hv', _, ho⟩ := hr.rg k _ (List.getElem?_eq_getElem hkl)
      rw [hk] at hv'
      cases hv'
      obtain ⟨c, hc⟩ := own_kind ho e
      exact ⟨_, _, hc, by decide⟩
    · obtain ⟨c, hc⟩ := own_kind hr.wi e
      exact ⟨_, _, hc, by decide⟩
    · obtain ⟨c, hc⟩ := own_kind hr.hq e
      exact ⟨_, _, hc, by decide⟩
    · obtain ⟨k, hk⟩ := List.getElem?_of_mem hv
      have hkl : k < d.kx.dvs.length := by rw [← KerF.vdl h.l.k]; exact (List.getElem?_eq_some_iff.1 hk).1
      obtain ⟨v', hv', _, ho⟩ := hr.dg k _ (List.getElem?_eq_getElem hkl)
      rw [hk] at hv'
      cases hv'
      obtain ⟨c, hc⟩ := own_kind ho e
      exact ⟨_, _, hc, by decide⟩
  · exact ⟨_, _, by rw [e]; exact h.r.n.hy, by decide⟩
  · obtain ⟨cur, hg⟩ := h.r.blockW
    exact ⟨_, _, by rw [e]; exact hg, by decide⟩
  · obtain ⟨c, hc⟩ := own_kind h.r.n.iw e
    exact ⟨_, _, hc, by decide⟩
  · obtain ⟨c, hc⟩ := own_kind h.r.dd e
    exact ⟨_, _, hc, by decide⟩
  · obtain ⟨k, v, hk, hv⟩ := hat y hy
    obtain ⟨j, hj⟩ := List.getElem?_of_mem hp
    have hjl : j < v.ws.length := by rw [(hn.wl k v y hv hk).1]; exact (List.getElem?_eq_some_iff.1 hj).1
    have := ((h.r.rr k y v hk hv).1.blk _ (List.mem_of_getElem? (zip_at y v.ws j p _ hj (List.getElem?_eq_getElem hjl)))).1
    exact ⟨_, _, by rw [e]; exact this, by decide⟩
  · obtain ⟨i, hi⟩ := List.getElem?_of_mem hv
    have hil : i < d.N.devs.length := by rw [← h.r.l3]; exact (List.getElem?_eq_some_iff.1 hi).1
    obtain ⟨c, hc⟩ := own_kind (h.r.lg i _ v (List.getElem?_eq_getElem hil) hi) e
    exact ⟨_, _, hc, by decide⟩
  · obtain ⟨k, v, hk, hv⟩ := hat y hy
    obtain ⟨c, hc⟩ := own_kind (h.r.rr k y v hk hv).1.own e
    exact ⟨_, _, hc, by decide⟩
  · obtain ⟨k, v, hk, hv⟩ := hat y hy
    obtain ⟨c, hc⟩ := own_kind (h.r.rr k y v hk hv).2 e
    exact ⟨_, _, hc, by decide⟩
  · exact ⟨_, _, by rw [e]; exact h.p, by decide⟩

def ptrV (d : PD) : Value := .pointer (some ⟨d.P, 0, none⟩)
/-- Several pairs. -/
structure Ps (w0 : World) (T : Nat) (v : Value) (ds : List PD) (wr : World) : Prop where
  ow : wr.ownsRow w0.heap.size 81 1 v ds.length (ds.map ptrV)
  ok : ∀ d ∈ ds, PairOk d wr ∧ BdD d T
  ap : ∀ (i j : Nat) (d e : PD), ds[i]? = some d → ds[j]? = some e → i ≠ j → ∀ b, PWr d b → ¬ PB e b
  fw : ∀ d ∈ ds, ∀ b, PWr d b → w0.heap.size ≤ b
  f : Fr (fun _ => False) w0 wr

theorem Ps.frF {w0 : World} {T : Nat} {v : Value} {ds : List PD} {wr w' : World} (h : Ps w0 T v ds wr) (hf : Fr (fun _ => False) wr w') : Ps w0 T v ds w' :=
  ⟨hf.ownsF _ h.ow, fun d hd => ⟨(h.ok d hd).1.frF hf, (h.ok d hd).2⟩, h.ap, h.fw, h.f.step hf (fun _ h => .inl h)⟩
theorem Ps.more {w0 : World} {T T' : Nat} {v : Value} {ds : List PD} {wr : World} (h : Ps w0 T v ds wr) (hT : T ≤ T') : Ps w0 T' v ds wr :=
  ⟨h.ow, fun d hd => ⟨(h.ok d hd).1, (h.ok d hd).2.mono hT⟩, h.ap, h.fw, h.f⟩

/-- One of them does a step. -/
theorem Ps.step {w0 : World} {T : Nat} {v : Value} {ds : List PD} {wr w' : World} (h : Ps w0 T v ds wr) (i : Nat) (d : PD) (hd : ds[i]? = some d) (hs : StepTo d T wr w') : ∃ ds', ds'.length = ds.length ∧ Ps w0 (T + 1) v ds' w' ∧ ∀ e ∈ ds', ∃ e0 ∈ ds, e.x.dn = e0.x.dn := by
  obtain ⟨d', h1, h2, h3, h4, h5⟩ := hs.e
  have hdm := List.mem_of_getElem? hd
  have hil := (List.getElem?_eq_some_iff.1 hd).1
  have hset : ∀ (j : Nat) (e : PD), (ds.set i d')[j]? = some e → (j = i ∧ e = d') ∨ (j ≠ i ∧ ds[j]? = some e) := by
    intro j e he
    rw [List.getElem?_set] at he
    by_cases hij : i = j
    · subst hij
      rw [if_pos rfl, if_pos hil] at he
      exact .inl ⟨rfl, (Option.some.inj he).symm⟩
    · rw [if_neg hij] at he
      exact .inr ⟨fun e => hij e.symm, he⟩
  have hlt : ∀ (j : Nat) (e : PD), ds[j]? = some e → ∀ b, PB e b → b < wr.heap.size := fun j e he b hb => (h.ok e (List.mem_of_getElem? he)).1.lt b hb
  refine ⟨ds.set i d', List.length_set .., ⟨?_, ?_, ?_, ?_, ?_⟩, ?_⟩
  · have hm : (ds.set i d').map ptrV = ds.map ptrV := by
      rw [List.map_set]
      apply List.ext_getElem?
      intro j
      rw [List.getElem?_set]
      by_cases hij : i = j
      · subst hij
        rw [if_pos rfl, if_pos (by simpa using hil), List.getElem?_map, hd]
        simp only [Option.map_some, Option.some.injEq]
        unfold ptrV
        rw [h1.1]
      · rw [if_neg hij]
    rw [hm, List.length_set]
    refine hs.f.owns h.ow ?_
    intro b hb hp
    obtain ⟨cs, t, hc, ht⟩ := (h.ok d hdm).1.kind b hp.pb
    exact owns_ne h.ow hc ht hb
  · intro e he
    obtain ⟨j, hj⟩ := List.getElem?_of_mem he
    rcases hset j e hj with ⟨_, rfl⟩ | ⟨hji, hje⟩
    · exact ⟨h2, h3⟩
    · have := h.ok e (List.mem_of_getElem? hje)
      exact ⟨this.1.fr hs.f (fun b hb hp => h.ap i j d e hd hje (fun e => hji e.symm) b hp hb), this.2.mono (by omega)⟩
  · intro a c e e' ha hc hac b hb hb'
    rcases hset a e ha with ⟨rfl, rfl⟩ | ⟨h6, h7⟩
    · rcases hset c e' hc with ⟨rfl, _⟩ | ⟨h8, h9⟩
      · exact hac rfl
      · rcases h5 b hb with h10 | h10
        · exact h.ap _ c d e' hd h9 hac b h10 hb'
        · have := hlt c e' h9 b hb'; omega
    · rcases hset c e' hc with ⟨rfl, rfl⟩ | ⟨h8, h9⟩
      · rcases h4 b hb' with h10 | h10
        · exact h.ap a _ e d h7 hd h6 b hb h10
        · have := hlt a e h7 b hb.pb; omega
      · exact h.ap a c e e' h7 h9 hac b hb hb'
  · intro e he b hb
    obtain ⟨j, hj⟩ := List.getElem?_of_mem he
    rcases hset j e hj with ⟨_, rfl⟩ | ⟨hji, hje⟩
    · rcases h5 b hb with h10 | h10
      · exact h.fw d hdm b h10
      · exact Nat.le_trans h.f.size h10
    · exact h.fw e (List.mem_of_getElem? hje) b hb
  · exact h.f.step hs.f (fun b hb => .inr (h.fw d hdm b hb))
  · intro e he
    obtain ⟨j, hj⟩ := List.getElem?_of_mem he
    rcases hset j e hj with ⟨_, rfl⟩ | ⟨hji, hje⟩
    · exact ⟨d, hdm, h1.2⟩
    · exact ⟨e, List.mem_of_getElem? hje, rfl⟩

/-- One more. -/
theorem Ps.add {w0 : World} {T : Nat} {v v' : Value} {ds : List PD} {wr w4 w5 : World} (h : Ps w0 T v ds wr) (hf : Fr (fun _ => False) wr w4) (d : PD) (hd : PairOk d w4) (hb : BdD d T) (hPW : ∀ b, PWr d b → wr.heap.size ≤ b) (hPB : ds = [] ∨ ∀ b, PB d b → wr.heap.size ≤ b)
    (ho : w5.ownsRow w0.heap.size 81 1 v' (ds.length + 1) (ds.map ptrV ++ [ptrV d])) (hf5 : Fr (fun i => v.ownBlock = some i) w4 w5) : Ps w0 T v' (ds ++ [d]) w5 := by
  have h4 := h.frF hf
  have hav : ∀ (e : PD), PairOk e w4 → ∀ b, PB e b → v.ownBlock ≠ some b := by
    intro e he b hb'
    obtain ⟨cs, t, hc, ht⟩ := he.kind b hb'
    exact owns_ne h4.ow hc ht
  have hlt : ∀ e ∈ ds, ∀ b, PB e b → b < wr.heap.size := fun e he b hb => (h.ok e he).1.lt b hb
  refine ⟨by simpa using ho, ?_, ?_, ?_, ?_⟩
  · intro e he
    rcases List.mem_append.1 he with he | he
    · have := h4.ok e he
      exact ⟨this.1.fr hf5 (fun b hb' hv => hav e this.1 b hb' hv), this.2⟩
    · rw [List.mem_singleton.1 he]
      exact ⟨hd.fr hf5 (fun b hb' hv => hav d hd b hb' hv), hb⟩
  · intro i j a c ha hc hij b hpa hpc
    have cases : ∀ (k : Nat) (e : PD), (ds ++ [d])[k]? = some e → (k < ds.length ∧ ds[k]? = some e) ∨ (k = ds.length ∧ e = d) := by
      intro k e he
      by_cases hk : k < ds.length
      · rw [List.getElem?_append_left hk] at he
        exact .inl ⟨hk, he⟩
      · rw [List.getElem?_append_right (by omega)] at he
        have hk2 := (List.getElem?_eq_some_iff.1 he).1
        simp only [List.length_cons, List.length_nil] at hk2
        have hk3 : k = ds.length := by omega
        subst hk3
        simp only [Nat.sub_self, List.getElem?_cons_zero, Option.some.injEq] at he
        exact .inr ⟨rfl, he.symm⟩
    rcases cases i a ha with ⟨h1, h2⟩ | ⟨h1, rfl⟩
    · rcases cases j c hc with ⟨h3, h5⟩ | ⟨h3, rfl⟩
      · exact h.ap i j a c h2 h5 hij b hpa hpc
      · rcases hPB with h6 | h6
        · rw [h6] at h1; simp at h1
        · have h7 := hlt a (List.mem_of_getElem? h2) b hpa.pb
          have := h6 b hpc
          omega
    · rcases cases j c hc with ⟨h3, h5⟩ | ⟨h3, rfl⟩
      · have h7 := hlt c (List.mem_of_getElem? h5) b hpc
        have := hPW b hpa
        omega
      · omega
  · intro e he b hpb
    rcases List.mem_append.1 he with he | he
    · exact h.fw e he b hpb
    · rw [List.mem_singleton.1 he] at hpb
      exact Nat.le_trans h.f.size (hPW b hpb)
  · exact h4.f.step hf5 (fun b hb' => .inr (h4.ow.lt b hb').1)

end Go.Proofs.YthmcheoehcmglaaGreat
/- What plays holds: pairs, texts, a script. -/
namespace Go.Proofs.YthmcheoehcmglaaGreat
open Go.RowKit
set_option linter.unusedVariables false
attribute [local go_sem ↓] Go.wp_at_zero Go.wp_at_succ

set_option maxRecDepth 100000 in
set_option maxHeartbeats 1000000 in
theorem lpick_any (c n : Int) (w : World) (hc : I64 c) (hn : 0 < n) (hn2 : n ≤ 9223372036854775807) :
    Calls Tryz.prog 14 #[.int .i64 c, .int .i64 n] w fun e w' => e = .returned (.int .i64 (pickM c n)) ∧ w' = w := by
  obtain ⟨h0, h1⟩ := hc
  have hnz : ¬ n = 0 := by omega
  by_cases h : c < 0
  · have HP : Hid (pickM c n = -((c + 1).tmod n)) := by unfold Hid pickM; rw [if_pos h, ← Int.neg_tmod, Int.tmod_eq_emod_of_nonneg (by omega)]
    go_enter Tryz.func14, Tryz.ntmps14
    go_wp2
    go_ret
    exact ⟨by rw [HP.out]; rfl, rfl⟩
  · have HP : Hid (pickM c n = c % n) := by unfold Hid pickM; rw [if_neg h]
    go_enter Tryz.func14, Tryz.ntmps14
    go_wp2
    go_ret
    exact ⟨by rw [HP.out]; rfl, rfl⟩

theorem wpList_app8 {P : Program} {w : World} {ops : Array Oper} {rest : List Oper} {o : Oper} {a : Act} {Q : Exit → Act → World → Prop} {t e : TypeId} (T : SlT P t e 1 8)
    (hgd : o.guard = none) (s x : Operand) (ho : o.op = .call { callee := .builtin .append, args := #[s, x], argTypes := #[t, t] })
    (base : Nat) (v : Value) (n : Nat) (xs : List Value) (hs : a.eval s = v) (hown : w.ownsRow base e 1 v n xs)
    (B : Nat) (cs : Array Value) (e' : TypeId) (hx : a.eval x = .slice (some ⟨B, 0, none⟩) 1 1) (hB : w.heap[B]? = some (.cells cs e' (0, 0))) (hl : cs.size = 1) (h1 : ∀ u ∈ cs.toList, u.oneCell' = true)
    (hn : n + 1 ≤ 17592186044416) (hbase : base ≤ w.heap.size)
    (h : ∀ g cap w', w'.ownsRow base e 1 (.slice (some ⟨g, 0, none⟩) (n + 1) cap) (n + 1) (xs ++ cs.toList) → Fr (fun i => v.ownBlock = some i) w w' → wpList P ops Q rest (a.put o.dst (.slice (some ⟨g, 0, none⟩) (n + 1) cap)) w') :
    wpList P ops Q (o :: rest) a w := by
  obtain ⟨i, z, hi, hz, hsz, hb, hzs⟩ := T.info
  exact wpList_append_lies w hgd s x t ho base e i z 1 8 T.ht hi hz hsz hb hzs T.pos v n xs hs hown ⟨B, 0, none⟩ 1 1 cs.toList hx (by simp [hl]) (World.news_of_block hB) h1
    (by omega) (by unfold maxLen; omega) (by omega) hbase w.heap.size rfl
    (fun g cap w' h2 h3 h4 h5 => h g cap w' h2 ⟨h3.os, h3.tape, h3.output, h3.size, fun k hk hn => h3.block k hk (fun e => hn e.symm)⟩)
theorem slPair : SlT Tryz.prog 76 81 1 8 := SlT.mk' (z := .pointer none) Tryz.underlying76 (by kernel_rfl) rfl (by omega)

/-- A slice of texts. -/
def StrsAt (w : World) (a : Option Addr) (ims : List ByteArray) : Prop := 1 ≤ ims.length → ∃ b o, a = some ⟨b, o, none⟩ ∧ ∀ i s, ims[i]? = some s → w.cell? ⟨b, o + i, none⟩ = some (.string s)
theorem StrsAt.fr {w w' : World} {a : Option Addr} {ims : List ByteArray} (h : StrsAt w a ims) (hf : Fr (fun _ => False) w w') : StrsAt w' a ims := by
  intro hl
  obtain ⟨b, o, h5, h6⟩ := h hl
  exact ⟨b, o, h5, fun i x hx => cell_fr (h6 i x hx) hf⟩
/-- A step of a script. -/
structure Stp where
  wh : Int
  kd : Int
  a : Int
  b : Int
def stpCells (x : Stp) : List Value := [.int .i64 x.wh, .int .i64 x.kd, .int .i64 x.a, .int .i64 x.b]
def StpOk (x : Stp) : Prop := I64 x.wh ∧ I64 x.kd ∧ I64 x.a ∧ I64 x.b
/-- A script. -/
def StepsAt (w : World) (a : Option Addr) (sc : List Stp) : Prop := (1 ≤ sc.length → ∃ b o, a = some ⟨b, o, none⟩ ∧ ∀ i x, sc[i]? = some x → ∀ j v, (stpCells x)[j]? = some v → w.cell? ⟨b, o + i * 4 + j, none⟩ = some v) ∧ ∀ x ∈ sc, StpOk x
theorem StepsAt.fr {w w' : World} {a : Option Addr} {sc : List Stp} (h : StepsAt w a sc) (hf : Fr (fun _ => False) w w') : StepsAt w' a sc := by
  refine ⟨fun hl => ?_, h.2⟩
  obtain ⟨b, o, h5, h6⟩ := h.1 hl
  exact ⟨b, o, h5, fun i x hx j v hv => cell_fr (h6 i x hx j v hv) hf⟩

/-- What Boot leaves; c: all its blocks are new. -/
def BootP (c : Prop) (m : Img) (w : World) (e : Ending) (w' : World) : Prop :=
  ∃ x vL, e = .returned (.tuple #[.pointer (some ⟨x.X, 0, none⟩), .int .i64 0]) ∧ Live x (bootM m) (bootN m) vL w' ∧ XOf m x ∧ Fr (fun _ => False) w w' ∧ (∀ i, KA x vL i → w.heap.size ≤ i) ∧ (c → ∀ i, KS x i → w.heap.size ≤ i)
def BootC (c : Prop) : Prop := ∀ (s : ByteArray), s.size ≤ maxLen → ∀ (w : World) (m : Img) (ok : Bool), Hid (rimg s.data.toList = (m, ok)) → mkErr m ok = 0 → Calls Tryz.prog 36 #[.string s] w fun e w' => BootP c m w e w'
theorem bootC_false : BootC False := fun s hs w m ok E he => (boot_live s hs w m ok E he).mono (fun e w' ⟨x, vL, h1, h2, h3, h4, h5⟩ => ⟨x, vL, h1, h2, h3, h4, h5, fun h => h.elim⟩)

/-- So many steps can be borne by all. -/
def DnOk (n : Nat) (ds : List PD) : Prop := ∀ d ∈ ds, d.x.dn = 0 ∨ n ≤ 100000000
def NoDev (n : Nat) (ims : List ByteArray) : Prop := n ≤ 100000000 ∨ ∀ s ∈ ims, ∀ m ok, rimg s.data.toList = (m, ok) → mkErr m ok = 0 → m.ow = []

/-- The pairs behind i texts. -/
def PsI (n : Nat) (w0 : World) (i : Nat) (v : Value) (wr : World) : Prop := ∃ ds : List PD, Ps w0 0 v ds wr ∧ ds.length ≤ i ∧ DnOk n ds
theorem PsI.start (n : Nat) (w : World) : PsI n w 0 (.slice none 0 0) w := by
  refine ⟨[], ⟨World.ownsRow_nil _ _ _ _, by simp, by simp, by simp, Fr.refl _ _⟩, by simp, by intro d hd; cases hd⟩
theorem PsI.frF {n : Nat} {w0 : World} {i : Nat} {v : Value} {wr w' : World} (h : PsI n w0 i v wr) (hf : Fr (fun _ => False) wr w') : PsI n w0 i v w' := by
  obtain ⟨ds, h1, h2, h3⟩ := h
  exact ⟨ds, h1.frF hf, h2, h3⟩
theorem PsI.skip {n : Nat} {w0 : World} {i : Nat} {v : Value} {wr : World} (h : PsI n w0 i v wr) : PsI n w0 (i + 1) v wr := by
  obtain ⟨ds, h1, h2, h3⟩ := h
  exact ⟨ds, h1, by omega, h3⟩

/-- One more pair: ready for the append, and behind it. -/
theorem PsI.add {c : Prop} {n : Nat} {w0 : World} {i : Nat} {v : Value} {wr w1 w2 : World} {m : Img} (h : PsI n w0 i v wr) (hm64 : 0 ≤ m.mem) {kx : KX} {vK : List Value}
    (hL : Live kx (bootM m) (bootN m) vK w1) (hX : XOf m kx) (hf1 : Fr (fun _ => False) wr w1) (hka : ∀ i, KA kx vK i → wr.heap.size ≤ i) (hks : c → ∀ i, KS kx i → wr.heap.size ≤ i) (hf2 : Fr (fun _ => False) w1 w2)
    {Y : Nat} {rws : List RWard} {wi : List (Int × Int × Int × Int)} {vW vI vD : Value} (hN : NetAt w2 Y m.gap m.mem 0 rws wi vW vI vD m.ow.length) (hO : NetOf m rws wi) (hE : RdEx w1 Y rws vW vI vD m.ow.length w2)
    (hc : i = 0 ∨ c) (hdn : m.ow = [] ∨ n ≤ 100000000) :
    ∃ (k : Nat) (xs : List Value), k ≤ i ∧ w2.ownsRow w0.heap.size 81 1 v k xs ∧ ∀ (o : Obj) (v' : Value) (w5 : World),
      w5.ownsRow w0.heap.size 81 1 v' (k + 1) (xs ++ [.pointer (some ⟨w2.heap.size, 0, none⟩)]) → Fr (fun i => v.ownBlock = some i) ((w2.alloc (.cells #[.pointer (some ⟨kx.X, 0, none⟩), .pointer (some ⟨Y, 0, none⟩)] 83)).alloc o) w5 → PsI n w0 (i + 1) v' w5 := by
  obtain ⟨ds, h1, h2, h3⟩ := h
  obtain ⟨x, vR, hxY, hfr, hall⟩ := mk_pair (w := w1) hL hX hm64 hf2 hN hO hE
  have hf12 := hf1.step hf2 (fun _ h => .inl h)
  have h12 := h1.frF hf12
  refine ⟨ds.length, ds.map ptrV, h2, h12.ow, ?_⟩
  intro o v' w5 ho hf5
  have hfa : Fr (fun _ => False) w2 (w2.alloc (.cells #[.pointer (some ⟨kx.X, 0, none⟩), .pointer (some ⟨Y, 0, none⟩)] 83)) := (Fr.refl _ w2).alloc _
  have hfb := hfa.alloc o
  have hP : PairAt ((w2.alloc (.cells #[.pointer (some ⟨kx.X, 0, none⟩), .pointer (some ⟨Y, 0, none⟩)] 83)).alloc o) w2.heap.size kx.X Y := heap_alloc_oldT w2 _ o
  have hok := hall w2.heap.size _ hfb (Nat.le_refl _) hP
  have hck : BdD ⟨w2.heap.size, kx, x, bootM m, vK, vR, bootN m⟩ 0 := by
    refine ⟨by show (0 : Int) ≤ _; omega, ?_, ?_⟩
    all_goals
      intro e he
      have e1 := (List.mem_replicate.1 (show e ∈ List.replicate m.ow.length ((0 : Int), ([] : List Int)) from he)).2
      rw [e1]
      simp
  have hdk := hok.dk
  have hw1 := hf1.size
  have hw2 := hf2.size
  refine ⟨ds ++ [⟨w2.heap.size, kx, x, bootM m, vK, vR, bootN m⟩], h1.add (hf12.step hfb (fun _ h => .inl h)) ⟨w2.heap.size, kx, x, bootM m, vK, vR, bootN m⟩ hok hck ?_ ?_ ho hf5, by simp; omega, ?_⟩
  · rintro b (hb | hb)
    · exact hka b hb
    · exact Nat.le_trans hw1 (hfr b (.inl hb))
  · rcases hc with h0 | h0
    · exact .inl (List.eq_nil_of_length_eq_zero (by omega))
    · refine .inr ?_
      rintro b ((hb | hb) | hb | hb)
      · exact hka b hb
      · exact hks h0 b hb
      · exact Nat.le_trans hw1 (hfr b hb)
      · simp only at hb; omega
  · intro d hd
    rcases List.mem_append.1 hd with hd | hd
    · exact h3 d hd
    · rw [List.mem_singleton.1 hd]
      rcases hdn with h0 | h0
      · refine .inl ?_
        rw [← hdk]
        show kx.dn = 0
        rw [hX.dn, h0]
        rfl
      · exact .inr h0

/-- The pairs behind i steps. -/
def PsJ (n L : Nat) (w0 : World) (v : Value) (i : Nat) (wr : World) : Prop := ∃ ds : List PD, ds.length = L ∧ Ps w0 i v ds wr ∧ DnOk n ds
theorem PsJ.frF {n L : Nat} {w0 : World} {i : Nat} {v : Value} {wr w' : World} (h : PsJ n L w0 v i wr) (hf : Fr (fun _ => False) wr w') : PsJ n L w0 v i w' := by
  obtain ⟨ds, h1, h2, h3⟩ := h
  exact ⟨ds, h1, h2.frF hf, h3⟩
theorem PsJ.skip {n L : Nat} {w0 : World} {i : Nat} {v : Value} {wr : World} (h : PsJ n L w0 v i wr) : PsJ n L w0 v (i + 1) wr := by
  obtain ⟨ds, h1, h2, h3⟩ := h
  exact ⟨ds, h1, h2.more (by omega), h3⟩
theorem PsI.toJ {n : Nat} {w0 : World} {i : Nat} {v : Value} {wr : World} (h : PsI n w0 i v wr) : ∃ L, L ≤ i ∧ (∃ a c, v = .slice a L c) ∧ PsJ n L w0 v 0 wr := by
  obtain ⟨ds, h1, h2, h3⟩ := h
  exact ⟨ds.length, h2, owns_shape h1.ow, ds, rfl, h1, h3⟩
theorem PsJ.f {n L : Nat} {w0 : World} {i : Nat} {v : Value} {wr : World} (h : PsJ n L w0 v i wr) : Fr (fun _ => False) w0 wr := by
  obtain ⟨ds, h1, h2, h3⟩ := h
  exact h2.f
/-- One of them. -/
theorem PsJ.at {n L : Nat} {w0 : World} {i : Nat} {v : Value} {wr : World} (h : PsJ n L w0 v i wr) (hn : n ≤ 80000000000000) (hi : i ≤ n) (k : Nat) (hk : k < L) :
    ∃ (d : PD) (g c : Nat), v = .slice (some ⟨g, 0, none⟩) L c ∧ wr.cell? ⟨g, k, none⟩ = some (.pointer (some ⟨d.P, 0, none⟩)) ∧ PairOk d wr ∧ BdD d i ∧ TOk d i ∧ ∀ w', StepTo d i wr w' → PsJ n L w0 v (i + 1) w' := by
  obtain ⟨ds, h1, h2, h3⟩ := h
  have hd : ds[k]? = some (ds[k]'(by omega)) := List.getElem?_eq_getElem _
  have hdm := List.mem_of_getElem? hd
  obtain ⟨g, c, hv, -, -⟩ := h2.ow.form (by omega)
  refine ⟨_, g, c, by rw [hv, h1], ?_, (h2.ok _ hdm).1, (h2.ok _ hdm).2, ⟨by omega, ?_⟩, ?_⟩
  · have ho := h2.ow
    rw [hv] at ho
    have := ho.cellAt k (by rw [Nat.mul_one]; omega)
    rw [this, List.getElem?_map, hd]
    rfl
  · rcases h3 _ hdm with h5 | h5
    · exact .inl h5
    · exact .inr (by omega)
  · intro w' hs
    obtain ⟨ds', h5, h6, h7⟩ := h2.step k _ hd hs
    refine ⟨ds', by omega, h6, ?_⟩
    intro e he
    obtain ⟨e0, h8, h9⟩ := h7 e he
    rw [h9]
    exact h3 e0 h8

def StepC (kd : Int) : Prop := ∀ (d : PD) (w : World), PairOk d w → ∀ T : Nat, BdD d T → TOk d T → ∀ wh a b : Int, I64 a → I64 b → Calls Tryz.prog 39 #[.pointer (some ⟨d.P, 0, none⟩), stepV wh kd a b] w fun e w' => e = .returned (.bool true) ∧ StepTo d T w w'

theorem stepC_1 : StepC 1 := fun d w h T hb hT wh a b ha hbb => step_run d w h T hb hT wh a b
theorem stepC_4 : StepC 4 := fun d w h T hb hT wh a b ha hbb => step_word d w h T hb hT wh a b hbb
theorem stepC_5 : StepC 5 := fun d w h T hb hT wh a b ha hbb => step_view d w h T hb hT wh a b hbb
theorem stepC_6 : StepC 6 := fun d w h T hb hT wh a b ha hbb => step_peek d w h T hb hT wh a b hbb
theorem stepC_7 : StepC 7 := fun d w h T hb hT wh a b ha hbb => step_clock d w h T hb hT wh a b hbb

end Go.Proofs.YthmcheoehcmglaaGreat
