/- wardskeep.Noted: the machine, word by word; walked. -/
import Derived.Test.YthmcheoehcmglaaGreatNote0
namespace Go.Proofs.YthmcheoehcmglaaGreat
open Go.RowKit
set_option linter.unusedVariables false
attribute [local go_sem ↓] Go.wp_at_zero Go.wp_at_succ
attribute [local go_sem] mk_app lowB_len

theorem wordB_low (v : Int) : (wordB (v % 4294967296)).map (fun n => UInt8.ofNat n.toNat) = lowB v 4 := by
  unfold wordB lowB lowB lowB lowB lowB byteN
  simp only [List.map_cons, List.map_nil]
  have e1 : v % 4294967296 / 16777216 = v / 256 ^ 3 % 256 := by omega
  have e2 : v % 4294967296 / 65536 % 256 = v / 256 ^ 2 % 256 := by omega
  have e3 : v % 4294967296 / 256 % 256 = v / 256 ^ 1 % 256 := by omega
  have e4 : v % 4294967296 % 256 = v / 256 ^ 0 % 256 := by omega
  rw [e1, e2, e3, e4]
theorem logS_low (ws : List Int) : logS (ws.map (· % 4294967296)) = ⟨(ws.flatMap (fun v => lowB v 4)).toArray⟩ := by
  unfold logS strOfNums logB
  congr 2
  rw [List.flatMap_map, List.map_flatMap]
  congr 1
  funext v
  exact wordB_low v

/-- Ahead of the word number i. -/
structure NoteIn (x : KX) (R : Nat) (N : NM) (i : Nat) (log : List Int) : Prop where
  net : NetOk x N
  ck : N.ck = ((i * R : Nat) : Int)
  p0 : ∃ s u, NoteSt s ∧ spOf (privOf x 0 N) = (s, ([keepW noteA], [(u, log)]))
  p1 : Note1 (spOf (privOf x 1 N))

structure NoteK (x : KX) (Q G : Nat) : Prop where
  t : NoteX x Q G
  s : KXs x
  d : KXd x
  dv0 : x.dvs.getD 0 [] = [0]
  dv1 : x.dvs.getD 1 [] = [1]
  dn : x.dn = 2
  rl : x.regs.length = 2
  r0 : ∃ b, x.regs.getD 0 [] = rsK b
  r1 : ∃ b, x.regs.getD 1 [] = rsK b

theorem note_k (gap q : Int) (hq8 : 8 ≤ q) (hq64 : q ≤ 64) (x : KX) (hx : XOf (keepImg gap (noteL q) 2) x) (hX : KXs x) : ∃ Q G : Nat, NoteK x Q G ∧ accN (withinM gap 1 16) (qsOf (noteL q)) 2 = ((Q + G + (3 + G) : Nat) : Int) := by
  have hqs := keep_qs gap (noteL q) 2 rfl x hx
  have hg := withinM_bd gap 1 16 (by omega)
  have hgap : x.gap = withinM gap 1 16 := hx.gap
  have hwq : withinM q 1 64 = q := by unfold withinM; rw [if_pos ⟨by omega, hq64⟩]
  have hq0 : x.qs = [withinM q 1 64, 3] := hqs
  rw [hwq] at hq0
  obtain ⟨G, hG⟩ := Int.eq_ofNat_of_zero_le (show 0 ≤ withinM gap 1 16 by omega)
  obtain ⟨Q, hQ⟩ := Int.eq_ofNat_of_zero_le (show 0 ≤ q by omega)
  have hdv := keep_dv gap (noteL q) 2 (by omega) (by omega) x hx
  refine ⟨Q, G, ⟨⟨by rw [hq0, hQ], by rw [hgap, hG], by omega, by omega, by omega, by omega⟩, hX, keep_xd gap (noteL q) 2 (by omega) (by omega) x hx, by rw [hdv]; rfl, by rw [hdv]; rfl, keep_dn gap (noteL q) 2 x hx, keep_len gap (noteL q) 2 x hx, ⟨_, keep_regs gap (noteL q) 2 x hx 0 (by omega)⟩, ⟨_, keep_regs gap (noteL q) 2 x hx 1 (by omega)⟩⟩, ?_⟩
  have e : qsOf (noteL q) = [q, 3] := by
    show [withinM q 1 64, withinM 3 1 64] = _
    rw [hwq]
    rfl
  rw [e, hG, hQ]
  simp only [accN]
  simp

theorem note_start (gap q : Int) (x : KX) (hx : XOf (keepImg gap (noteL q) 2) x) (R : Nat) : NoteIn x R (bootN (keepImg gap (noteL q) 2)) 0 [] := by
  have k0 := keep_priv gap (noteL q) 2 (by omega) (by omega) x hx 0 (by omega)
  have k1 := keep_priv gap (noteL q) 2 (by omega) (by omega) x hx 1 (by omega)
  refine ⟨keep_net gap (noteL q) 2 x hx, by simp [bootN], ⟨st0 0, 0, .inl rfl, ?_⟩, .inl ?_⟩
  · rw [k0]; rfl
  · rw [k1]; rfl

theorem ownDv0 {x : KX} {Q G : Nat} (h : NoteK x Q G) (devs : List DevV) : ownDv x 0 devs = [devs.getD 0 zeroD] := by unfold ownDv; rw [h.dv0]; rfl
theorem ownDv1 {x : KX} {Q G : Nat} (h : NoteK x Q G) (devs : List DevV) : ownDv x 1 devs = [devs.getD 1 zeroD] := by unfold ownDv; rw [h.dv1]; rfl

theorem NoteIn.d0 {x : KX} {Q G R : Nat} (hk : NoteK x Q G) {N : NM} {i : Nat} {log : List Int} (h : NoteIn x R N i log) : (N.devs.getD 0 zeroD).2 = log := by
  obtain ⟨s, u, -, hp⟩ := h.p0
  have := (eq_spOf hp).2.2
  have e : (privOf x 0 N).dv = [N.devs.getD 0 zeroD] := ownDv0 hk _
  rw [e] at this
  simp only [List.cons.injEq, and_true] at this
  rw [this]
theorem NoteIn.d1 {x : KX} {Q G R : Nat} (hk : NoteK x Q G) {N : NM} {i : Nat} {log : List Int} (h : NoteIn x R N i log) : (N.devs.getD 1 zeroD).2 = [] := by
  have e : (privOf x 1 N).dv = [N.devs.getD 1 zeroD] := ownDv1 hk _
  rcases h.p1 with hp | hp
  · have := (eq_spOf hp).2.2
    rw [e] at this
    simp only [List.cons.injEq, and_true] at this
    rw [this]; rfl
  · have := (eq_spOf hp).2.2
    rw [e] at this
    simp only [List.cons.injEq, and_true] at this
    rw [this]; rfl
theorem NoteIn.max {x : KX} {Q G R : Nat} (hk : NoteK x Q G) {N : NM} {i : Nat} {log : List Int} (h : NoteIn x R N i log) (v : Int) : logMax (latchN N 0 v).devs log.length := by
  have hl : N.devs.length = 2 := by rw [h.net.dl, hk.dn]
  have h0 := h.d0 hk
  have h1 := h.d1 hk
  intro d hd
  unfold latchN at hd
  obtain ⟨j, hj⟩ := List.mem_iff_getElem?.1 hd
  simp only [List.getElem?_set] at hj
  split at hj
  · split at hj
    · cases hj; simp only; rw [h0]; omega
    · cases hj
  · have hj2 := (List.getElem?_eq_some_iff.1 hj).1
    have : j = 1 := by omega
    subst this
    have e : N.devs.getD 1 zeroD = d := by rw [List.getD_eq_getElem?_getD, hj]; rfl
    rw [e] at h1
    rw [h1]; simp

theorem NoteIn.step {x : KX} {Q G : Nat} (hk : NoteK x Q G) {N : NM} {i : Nat} {log : List Int} (h : NoteIn x (Q + G + (3 + G)) N i log) (v : Int) : NoteIn x (Q + G + (3 + G)) (iterN x (Q + G + (3 + G)) (latchN N 0 v)) (i + 1) (log ++ [v]) := by
  have hl : N.devs.length = 2 := by rw [h.net.dl, hk.dn]
  have hnet : NetOk x (latchN N 0 v) := ⟨h.net.wl, by unfold latchN; simp only [List.length_set]; exact h.net.dl, h.net.c0⟩
  have hck : (latchN N 0 v).ck = N.ck := rfl
  have ht : N.ck % roundK x = 0 := by
    rw [hk.t.r, h.ck]
    have : ((i * (Q + G + (3 + G)) : Nat) : Int) % ((Q + G + (3 + G) : Nat) : Int) = ((i * (Q + G + (3 + G)) % (Q + G + (3 + G)) : Nat) : Int) := by simp
    rw [this]; simp
  have q0 := priv_iter x hk.s hk.d 0 (by rw [hk.rl]; omega) _ hnet (Q + G + (3 + G))
  have q1 := priv_iter x hk.s hk.d 1 (by rw [hk.rl]; omega) _ hnet (Q + G + (3 + G))
  rw [hck] at q0 q1
  obtain ⟨s, u, hs, hp⟩ := h.p0
  obtain ⟨b0, hb0⟩ := hk.r0
  obtain ⟨b1, hb1⟩ := hk.r1
  have hp' : spOf (privOf x 0 (latchN N 0 v)) = (s, ([keepW noteA], [(v, log)])) := by
    have e := eq_spOf hp
    have e1 : (N.wn.getD 0 zeroWN).now = s := e.1
    have e2 : (N.wn.getD 0 zeroWN).ws = [keepW noteA] := e.2.1
    show ((N.wn.getD 0 zeroWN).now, ((N.wn.getD 0 zeroWN).ws, ownDv x 0 (latchN N 0 v).devs)) = _
    rw [e1, e2, ownDv0 hk]
    unfold latchN
    simp only
    rw [getD_set_eq, if_pos ⟨rfl, by omega⟩, h.d0 hk]
  have hp1 : Note1 (spOf (privOf x 1 (latchN N 0 v))) := by
    have : privOf x 1 (latchN N 0 v) = privOf x 1 N := by
      unfold privOf
      rw [ownDv1 hk, ownDv1 hk]
      unfold latchN
      simp only
      rw [getD_set_eq, if_neg (by omega)]
    rw [this]
    exact h.p1
  refine ⟨hnet.iter _, ?_, ?_, ?_⟩
  · rw [iterN_ck, hck, h.ck, Nat.succ_mul]; omega
  · obtain ⟨s', hs', hr⟩ := note_round hk.s hk.t b0 hb0 N.ck ht h.net.c0 _ s hs v log hp'
    exact ⟨s', v, hs', by rw [q0]; exact hr⟩
  · rw [q1]
    exact note1_iter x b1 hb1 _ _ hp1 _

end Go.Proofs.YthmcheoehcmglaaGreat
/- wardskeep.Noted, walked. -/
namespace Go.Proofs.YthmcheoehcmglaaGreat
open Go.RowKit
set_option linter.unusedVariables false
attribute [local go_sem ↓] Go.wp_at_zero Go.wp_at_succ
attribute [local go_sem] mk_app lowB_len

set_option maxRecDepth 100000 in
set_option maxHeartbeats 4000000 in
theorem noted_any (w : World) (gap qq : Int) (hg : I64 gap) (hqq : I64 qq) (v : Value) (ws : List Int) (h : IntsAt w v ws) (hi : ∀ n ∈ ws, I64 n) (hl : ws.length ≤ 17592186044416) :
    Calls Tryz.prog 9 #[.int .i64 gap, .int .i64 qq, v] w fun e w' => e = .returned (.bool true) ∧ Fr (fun _ => False) w w' := by
  obtain ⟨a, c, rfl, hc1, hc2, hcell⟩ := h
  have HRD := hid hcell
  have HOW := hid hi
  clear hcell hi
  have hp := pickM_bd qq 57 (by omega)
  have HPK := hid (fun w1 => pick_any qq 57 w1 hqq (by omega) (by omega))
  generalize pickM qq 57 = pq at *
  obtain ⟨q, hq⟩ : ∃ q : Int, 8 + pq = q := ⟨_, rfl⟩
  have hq8 : 8 ≤ q := by omega
  have hq64 : q ≤ 64 := by omega
  have HW1 := hid (fun w1 => kword_any w1 6 32768 (by omega) (by omega) (by unfold I64; omega))
  replace HW1 : Hid (∀ w1 : World, Calls Tryz.prog 17 #[.int .i64 6, .int .i64 32768] w1 fun e w' => e = .returned (.slice (some ⟨w1.heap.size, 0, none⟩) 2 2) ∧ w' = w1.alloc (.cells #[.int .i64 23068672, .int .i64 39878656] 3)) := HW1
  have HC1 := hid (fun w1 => code_any 13 1 6 0 w1 (by omega) (by omega) (by omega) (by omega) (by omega) (by omega) (by omega) (by omega))
  have HC2 := hid (fun w1 => code_any 14 1 6 1 w1 (by omega) (by omega) (by omega) (by omega) (by omega) (by omega) (by omega) (by omega))
  have HC3 := hid (fun w1 => code_any 18 0 0 1 w1 (by omega) (by omega) (by omega) (by omega) (by omega) (by omega) (by omega) (by omega))
  have HC4 := hid (fun w1 => code_any 15 0 0 0 w1 (by omega) (by omega) (by omega) (by omega) (by omega) (by omega) (by omega) (by omega))
  go_enter Tryz.func9, Tryz.ntmps9
  go_wp2_with fail
  refine (HPK.out _).mono ?_
  rintro e w1 ⟨rfl, rfl⟩
  go_wp2_with fail
  refine (HW1.out _).mono ?_
  rintro e w2 ⟨rfl, rfl⟩
  have HBA : Hid ((w1.alloc (.cells #[.int .i64 23068672, .int .i64 39878656] 3)).heap[w1.heap.size]? = some (.cells #[.int .i64 23068672, .int .i64 39878656] 3 (0, 0))) := heap_alloc_new w1 _
  have HF2 : Hid (Fr (fun _ => False) w1 (w1.alloc (.cells #[.int .i64 23068672, .int .i64 39878656] 3))) := (Fr.refl _ w1).alloc _
  generalize w1.alloc (.cells #[.int .i64 23068672, .int .i64 39878656] 3) = wb at *
  have HO1 : Hid (wb.ownsRow w1.heap.size 3 1 (.slice (some ⟨w1.heap.size, 0, none⟩) 2 2) 2 [.int .i64 23068672, .int .i64 39878656]) := owns_lit (Nat.le_refl _) HBA.out rfl (by unfold maxLen; omega)
  go_wp2_with fail
  refine (HC1.out _).mono ?_
  rintro e w3 ⟨rfl, hw3⟩
  obtain rfl := hw3.symm
  go_wp2_with fail
  refine (HC2.out _).mono ?_
  rintro e w3 ⟨rfl, hw3⟩
  obtain rfl := hw3.symm
  go_wp2_with fail
  refine (HC3.out _).mono ?_
  rintro e w3 ⟨rfl, hw3⟩
  obtain rfl := hw3.symm
  go_wp2_with fail
  refine (HC4.out _).mono ?_
  rintro e w3 ⟨rfl, hw3⟩
  obtain rfl := hw3.symm
  go_wp2_with (first
    | (refine wpList_appM slInt (by rfl) _ _ (by rfl) w1.heap.size (.slice (some ⟨w1.heap.size, 0, none⟩) 2 2) 2 _ (by rfl) (HO1.out.alloc _) wb.heap.size 4 #[.int .i64 219545600, .int .i64 236322817, .int .i64 301989889, .int .i64 251658240] _ (by rfl) (heap_alloc_new wb _) rfl (by omega) (by simp [Value.oneCell']) (by omega) (by decide) (le_alloc HF2.out.size _) ?_; intro g4 c4 w4 hown4 hf4 hat4; have HO4 := hid hown4; have HF4 := hid ((HF2.out.alloc _).step hf4 (fun i hi => .inr (HO1.out.lt i hi).1)); clear hown4 hf4 hat4))
  have HWD : Hid (WdsAt (w4.alloc (.cells #[.int .i64 q, .slice (some ⟨g4, 0, none⟩) 6 c4, .int .i64 3, .slice none 0 0] 41)) w4.heap.size 0 2 2 (noteL q)) := by
    refine wds_two (heap_alloc_new w4 _) ?_ ⟨none, 0, rfl, by simp, by omega, by simp⟩ (by unfold I64; omega) (by unfold I64; omega) ?_ (by simp)
    · exact ints_of_owns (HO4.out.alloc _)
    · intro z hz
      simp only [noteA, wordI, List.cons_append, List.nil_append, List.mem_cons, List.not_mem_nil, or_false] at hz
      unfold I64
      omega
  have HF5 : Hid (Fr (fun _ => False) w1 (w4.alloc (.cells #[.int .i64 q, .slice (some ⟨g4, 0, none⟩) 6 c4, .int .i64 3, .slice none 0 0] 41))) := HF4.out.alloc _
  generalize w4.alloc (.cells #[.int .i64 q, .slice (some ⟨g4, 0, none⟩) 6 c4, .int .i64 3, .slice none 0 0] 41) = w9 at *
  generalize w4.heap.size = S at *
  refine (image_nw w9 gap hg S 0 2 2 (noteL q) HWD.out (by omega) (by omega)).mono ?_
  rintro e w10 ⟨rfl, hf10⟩
  have HF10 := hid (HF5.out.step hf10 (fun _ h => .inl h))
  have HWD10 := hid (HWD.out.fr hf10)
  have HBT := hid (fun w3 => keepBoot w3 gap (noteL q) 2 (by omega) (by omega))
  clear hf10 HWD HF5 HF4 HO4 HO1 HBA HF2
  go_wp2_with fail
  refine (HBT.out _).mono ?_
  rintro e w11 ⟨x, vL, rfl, hl3, hx3, hf3, hk3⟩
  have hG0 : Going x (bootN (keepImg gap (noteL q) 2)) w10 w11 := ⟨⟨_, vL, hl3, hk3⟩, hf3⟩
  have HG0 := hid hG0
  obtain ⟨Q, G, hK, hacc⟩ := note_k gap q hq8 hq64 x hx3 hl3.x
  have HK := hid hK
  have HST := hid (note_start gap q x hx3 (Q + G + (3 + G)))
  have hR1 : Q + G + (3 + G) ≤ 200 := by have := hK.t.q64; have := hK.t.g16; omega
  have HKR := hid (fun (w1 : World) (h1 : Fr (fun _ => False) w10 w1) => kround_any w1 gap hg S 0 2 2 (noteL q) (HWD10.out.fr h1) (by omega) (by omega))
  rw [hacc] at HKR
  have HSP : Hid (∀ N i log v, NoteIn x (Q + G + (3 + G)) N i log → NoteIn x (Q + G + (3 + G)) (iterN x (Q + G + (3 + G)) (latchN N 0 v)) (i + 1) (log ++ [v])) := fun N i log v h => h.step hK v
  have HMX : Hid (∀ N i log v, NoteIn x (Q + G + (3 + G)) N i log → logMax (latchN N 0 v).devs log.length) := fun N i log v h => h.max hK v
  have HD0 : Hid (∀ N i log, NoteIn x (Q + G + (3 + G)) N i log → (N.devs.getD 0 zeroD).2 = log) := fun N i log h => h.d0 hK
  have HD1 : Hid (∀ N i log, NoteIn x (Q + G + (3 + G)) N i log → (N.devs.getD 1 zeroD).2 = []) := fun N i log h => h.d1 hK
  have hdn : x.dn = 2 := hK.dn
  generalize Q + G + (3 + G) = R at *
  obtain ⟨X, hXX⟩ : ∃ X, x.X = X := ⟨_, rfl⟩
  rw [hXX]
  have HXX := hid hXX
  clear hl3 hx3 hf3 hk3 HBT hG0 hXX hacc hK
  go_wp2_with fail
  refine (lives_any _).mono ?_
  rintro e w12 ⟨rfl, hf12⟩
  have HG12 := hid (HG0.out.fr hf12)
  clear hf12 HG0
  generalize bootN (keepImg gap (noteL q) 2) = N0 at *
  have hlw : ws.length ≤ 17592186044416 := hl
  go_wp2_with fail
  go_loopw [11, 12] (fun s b wr => ∃ k : Nat, k ≤ ws.length ∧ b = .int .i64 k ∧ ∃ acc : List UInt8, s = .string ⟨acc.toArray⟩ ∧ AccIs acc ((ws.take k).flatMap (fun v => lowB v 4)) (4 * k) ∧ ∃ N, Going x N w10 wr ∧ NoteIn x R N k ((ws.take k).map (· % 4294967296))) (fun _ b _ => ws.length - (intOf b).toNat)
  case atStart => exact ⟨0, Nat.zero_le _, rfl, [], rfl, ⟨rfl, by simp⟩, N0, HG12.out, HST.out⟩
  case round =>
    obtain ⟨k, hk, rfl, acc, rfl, hacc, N, hG, hN⟩ := hrel
    have HAC := hid hacc
    have hal := hacc.2
    clear HG12 HST hacc
    by_cases hlt : k < ws.length
    · have hki : (k : Int) < (ws.length : Int) := by omega
      obtain ⟨y, hy⟩ : ∃ y, ws[k]? = some y := ⟨_, List.getElem?_eq_getElem hlt⟩
      obtain ⟨wb2, wo, hawe, hcell⟩ := HRD.out (by omega)
      subst hawe
      have HCY : Hid (∀ w2, Fr (fun _ => False) w10 w2 → w2.cell? ⟨wb2, wo + k, none⟩ = some (.int .i64 y)) := fun w2 h2 => cell_fr (cell_fr (hcell k y hy) HF10.out) h2
      have HYB := hid (HOW.out y (List.mem_of_getElem? hy))
      have cy := HCY.out wr hG.f
      have hy0 : 0 ≤ y % 4294967296 := by omega
      have hy1 : y % 4294967296 < 4294967296 := by omega
      have HLA := hid (hG.latch X HXX.out 0 (by omega) (y % 4294967296) hy0 hy1)
      replace HLA : Hid (Calls Tryz.prog 33 #[.pointer (some ⟨X, 0, none⟩), .int .i64 0, .int .u32 (y % 4294967296)] wr fun e w' => e = .returned (.int .i64 0) ∧ Going x (latchN N 0 (y % 4294967296)) w10 w') := HLA
      have HLL : Hid (((ws.take k).map (· % 4294967296)).length = k) := by show _ = _; simp; omega
      have HCK : Hid ((latchN N 0 (y % 4294967296)).ck = ((k * R : Nat) : Int)) := hN.ck
      have hkR : k * R ≤ 17592186044416 * 200 := Nat.mul_le_mul (by omega) hR1
      have HMM := hid (HMX.out _ _ _ (y % 4294967296) hN)
      have HNN := hid (HSP.out _ _ _ (y % 4294967296) hN)
      have hrN : runN (R : Int) = R := by unfold runN; rw [if_neg (by omega), if_neg (by omega)]
      have HRU : Hid (∀ w2, Going x (latchN N 0 (y % 4294967296)) w10 w2 → Calls Tryz.prog 21 #[.pointer (some ⟨X, 0, none⟩), .int .i64 R] w2 fun e w' => e = .returned (.int .i64 R) ∧ Going x (iterN x R (latchN N 0 (y % 4294967296))) w10 w') := by
        intro w2 h2
        have := h2.run R _ HMM.out (by rw [hrN, HLL.out]; omega) (by rw [hrN, HCK.out]; omega) X HXX.out
        rw [hrN, Int.toNat_natCast] at this
        exact this
      have HY := hid hy
      clear hG hN hrN hcell hy
      go_wp2_with fail
      refine HLA.out.mono ?_
      rintro e w13 ⟨rfl, hG13⟩
      have HG13 := hid hG13
      clear hG13 cy HLA
      go_wp2_with fail
      refine (HKR.out _ HG13.out.f).mono ?_
      rintro e w14 ⟨rfl, hw14⟩
      obtain rfl := hw14.symm
      go_wp2_with fail
      refine (HRU.out _ HG13.out).mono ?_
      rintro e w15 ⟨rfl, hG15⟩
      have HG15 := hid hG15
      have cy := HCY.out w15 hG15.f
      clear hG15 HG13 HRU
      go_wp2_with fail
      refine (bytes4 _ _ HYB.out).mono ?_
      rintro e w16 ⟨rfl, hf16⟩
      have HG16 := hid (HG15.out.fr hf16)
      clear hf16 cy HG15
      go_wp2_with fail
      go_roundw
      case rel =>
        refine ⟨k + 1, by omega, by go_num, _, rfl, ⟨?_, ?_⟩, _, HG16.out, ?_⟩
        · rw [HAC.out.1, List.take_add_one, HY.out]; simp
        · simp only [List.length_append, lowB_len]; omega
        · have := HNN.out
          rw [List.take_add_one, HY.out]
          simpa using this
      case measure => simp [intOf]; omega
    · obtain rfl : k = ws.length := by omega
      have hki : ¬ ((ws.length : Int) < (ws.length : Int)) := by omega
      have hE := HAC.out.1
      have HL0 := hid (hG.log X HXX.out 0 (by omega))
      have HL1 := hid (hG.log X HXX.out 1 (by omega))
      rw [HD0.out _ _ _ hN, logS_low, ← hE] at HL0
      rw [HD1.out _ _ _ hN] at HL1
      replace HL0 : Hid (Calls Tryz.prog 31 #[.pointer (some ⟨X, 0, none⟩), .int .i64 0] wr fun e w' => e = .returned (.tuple #[.string ⟨acc.toArray⟩, .int .i64 0]) ∧ w' = wr) := HL0
      replace HL1 : Hid (Calls Tryz.prog 31 #[.pointer (some ⟨X, 0, none⟩), .int .i64 1] wr fun e w' => e = .returned (.tuple #[.string ⟨#[]⟩, .int .i64 0]) ∧ w' = wr) := HL1
      have HFR := hid (HF10.out.step hG.f (fun _ h => .inl h))
      clear hG hN hE HAC
      go_wp2_with fail
      refine HL0.out.mono ?_
      rintro e w13 ⟨rfl, hw13⟩
      obtain rfl := hw13.symm
      go_wp2_with fail
      refine HL1.out.mono ?_
      rintro e w13 ⟨rfl, hw13⟩
      obtain rfl := hw13.symm
      go_wp2_with fail
      go_ret
      exact ⟨rfl, HFR.out⟩

end Go.Proofs.YthmcheoehcmglaaGreat
