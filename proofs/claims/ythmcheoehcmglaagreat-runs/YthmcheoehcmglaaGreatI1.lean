/- The statements' own functions: looks, without the logs. -/
import Derived.Test.YthmcheoehcmglaaGreatL2
import Derived.Test.YthmcheoehcmglaaGreatL0
import Derived.Test.YthmcheoehcmglaaGreatQ2
import Derived.Laws.BytesArg
namespace Go.Proofs.YthmcheoehcmglaaGreat
open Go.RowKit
set_option linter.unusedVariables false
attribute [local go_sem ↓] Go.wp_at_zero Go.wp_at_succ

/-- A kernel and a net that agree. -/
structure Agree (w : World) (P X Y M n : Nat) (mem : List Int) (gap ck tv : Int) (ks : List (StV × Value)) (vK : Value) (rws : List RWard) (wi : List (Int × Int × Int × Int)) (vW vI vD : Value) (nd : Nat) : Prop where
  pa : PairAt w P X Y
  ke : KerAt w X M n mem ck ks vK
  ne : NetAt w Y gap n ck rws wi vW vI vD nd
  re : RegsOk rws wi.length
  c0 : 0 ≤ ck
  t : ∀ w1, Fr (fun _ => False) w w1 → Calls Tryz.prog 107 #[.pointer (some ⟨Y, 0, none⟩)] w1 fun e w' => e = .returned (.int .i64 tv) ∧ w' = w1
  wd : ∀ a : Nat, a < n → mem.getD a 0 = rwordV tv ck rws wi a
  len : ks.length = rws.length
  vw : ∀ k y, rws[k]? = some y → viewSt mem ks k = y.now ∧ StW y.now

theorem Agree.fr {w w' : World} {P X Y M n : Nat} {mem : List Int} {gap ck tv : Int} {ks : List (StV × Value)} {vK : Value} {rws : List RWard} {wi : List (Int × Int × Int × Int)} {vW vI vD : Value} {nd : Nat} (h : Agree w P X Y M n mem gap ck tv ks vK rws wi vW vI vD nd) (hf : Fr (fun _ => False) w w') : Agree w' P X Y M n mem gap ck tv ks vK rws wi vW vI vD nd :=
  ⟨h.pa.fr hf, h.ke.fr hf, h.ne.fr hf, h.re, h.c0, fun w1 h1 => h.t w1 (hf.step h1 (fun _ h => .inl h)), h.wd, h.len, h.vw⟩

theorem noSt_W : StW noSt := ⟨rfl, by decide, by decide, by decide⟩

theorem pview_any (w : World) (P X Y M n : Nat) (mem : List Int) (gap ck tv : Int) (ks : List (StV × Value)) (vK : Value) (rws : List RWard) (wi : List (Int × Int × Int × Int)) (vW vI vD : Value) (nd : Nat) (h : Agree w P X Y M n mem gap ck tv ks vK rws wi vW vI vD nd) (k : Int) :
    Calls Tryz.prog 58 #[.pointer (some ⟨P, 0, none⟩), .int .i64 k] w fun e w' => e = .returned (.bool true) ∧ Fr (fun _ => False) w w' := by
  cases hb : hasB rws.length k with
  | false => exact pview_of w P X Y noSt noSt_W k 4 h.pa (kview_no w X M n mem ck ks vK k h.ke (by rw [h.len]; exact hb)) (fun w1 h1 => rview_no w1 Y gap n ck rws wi vW vI vD nd (h.ne.fr h1) k hb)
  | true =>
    simp only [hasB, Bool.and_eq_true, decide_eq_true_eq] at hb
    obtain ⟨i, rfl⟩ := Int.eq_ofNat_of_zero_le hb.1
    have hi : i < rws.length := by omega
    have hv := h.vw i rws[i] (List.getElem?_eq_getElem hi)
    refine pview_of w P X Y rws[i].now hv.2 i 0 h.pa ?_ (fun w1 h1 => rview_yes w1 Y gap n ck rws wi vW vI vD nd (h.ne.fr h1) i hi)
    rw [← hv.1]
    exact kview_yes w X M n mem ck ks vK i h.ke (by rw [h.len]; exact hi)

set_option maxRecDepth 100000 in
set_option maxHeartbeats 4000000 in
theorem looks_no (w : World) (P X Y M n : Nat) (mem : List Int) (gap ck tv : Int) (ks : List (StV × Value)) (vK : Value) (rws : List RWard) (wi : List (Int × Int × Int × Int)) (vW vI vD : Value) (nd : Nat) (h : Agree w P X Y M n mem gap ck tv ks vK rws wi vW vI vD nd) :
    Calls Tryz.prog 40 #[.pointer (some ⟨P, 0, none⟩), .bool false] w fun e w' => e = .returned (.bool true) ∧ Fr (fun _ => False) w w' := by
  have HA := hid h
  have c0 : w.cell? ⟨P, 0, none⟩ = some (.pointer (some ⟨X, 0, none⟩)) := row_cell h.pa 0
  have c1 : w.cell? ⟨P, 1, none⟩ = some (.pointer (some ⟨Y, 0, none⟩)) := row_cell h.pa 1
  have c5 : w.cell? ⟨Y, 5, none⟩ = some (.int .i64 ck) := row_cell h.ne.hy 5
  have hn := h.ke.h1
  have hr4 := h.re.l
  clear h
  go_enter Tryz.func40, Tryz.ntmps40
  go_wp2_with fail
  refine (clock_any w X M n mem ck ks vK HA.out.ke).mono ?_
  rintro e w1 ⟨rfl, rfl⟩
  go_wp2_with fail
  clear c0 c1 c5
  go_loopw [6, 7] (fun a b wr => a = .bool true ∧ ∃ i : Nat, i ≤ n + 2 ∧ b = .int .i64 ((i : Int) - 1) ∧ Fr (fun _ => False) w1 wr) (fun _ b _ => n + 2 - (intOf b + 1).toNat)
  case atStart => exact ⟨rfl, 0, by omega, rfl, Fr.refl _ _⟩
  case round =>
    obtain ⟨rfl, i, hi, rfl, hf⟩ := hrel
    have HB := hid (HA.out.fr hf)
    have HF := hid hf
    have c1 : wr.cell? ⟨P, 1, none⟩ = some (.pointer (some ⟨Y, 0, none⟩)) := row_cell HB.out.pa 1
    have cm : wr.cell? ⟨Y, 1, none⟩ = some (.int .i64 n) := row_cell HB.out.ne.hy 1
    clear hf
    by_cases hlt : i < n + 2
    · have hlti : (i : Int) - 1 ≤ (n : Int) := by omega
      go_wp2_with fail
      refine (pword_any wr P X Y M n mem gap ck tv ks vK rws wi vW vI vD nd HB.out.pa HB.out.ke HB.out.ne HB.out.re HB.out.ke.h1 HB.out.c0 (HB.out.t wr (Fr.refl _ _)) HB.out.wd _).mono ?_
      rintro e w2 ⟨rfl, hf2⟩
      have HF2 := hid (HF.out.step hf2 (fun _ h => .inl h))
      clear hf2
      go_wp2_with fail
      go_roundw
      case rel => exact ⟨rfl, i + 1, by omega, by go_num, HF2.out⟩
      case measure => simp [intOf]; omega
    · have hlti : ¬ ((i : Int) - 1 ≤ (n : Int)) := by omega
      go_wp2_with fail
      clear c1 cm
      go_loopw [6, 9] (fun a b wq => a = .bool true ∧ ∃ j : Nat, j ≤ rws.length + 2 ∧ b = .int .i64 ((j : Int) - 1) ∧ Fr (fun _ => False) w1 wq) (fun _ b _ => rws.length + 2 - (intOf b + 1).toNat)
      case atStart => exact ⟨rfl, 0, by omega, rfl, HF.out⟩
      case round =>
        obtain ⟨rfl, j, hj, rfl, hf⟩ := hrel
        clear HB HF
        have HB := hid (HA.out.fr hf)
        have HF := hid hf
        have c1 : wr.cell? ⟨P, 1, none⟩ = some (.pointer (some ⟨Y, 0, none⟩)) := row_cell HB.out.pa 1
        obtain ⟨a1, q1, hvW⟩ := owns_shape HB.out.ne.ow
        have cw : wr.cell? ⟨Y, 2, none⟩ = some (.slice a1 rws.length q1) := by rw [← hvW]; exact row_cell HB.out.ne.hy 2
        clear hf hvW
        by_cases hlt : j < rws.length + 2
        · have hlti : (j : Int) - 1 ≤ (rws.length : Int) := by omega
          go_wp2_with fail
          refine (pview_any wr P X Y M n mem gap ck tv ks vK rws wi vW vI vD nd HB.out _).mono ?_
          rintro e w2 ⟨rfl, hf2⟩
          have HF2 := hid (HF.out.step hf2 (fun _ h => .inl h))
          clear hf2
          go_wp2_with fail
          go_roundw
          case rel => exact ⟨rfl, j + 1, by omega, by go_num, HF2.out⟩
          case measure => simp [intOf]; omega
        · have hlti : ¬ ((j : Int) - 1 ≤ (rws.length : Int)) := by omega
          go_wp2_with fail
          clear c1 cw
          go_loopw [6, 11] (fun a b wq => a = .bool true ∧ b = .int .i64 (-1) ∧ Fr (fun _ => False) w1 wq) (fun _ _ _ => 0)
          case atStart => exact ⟨rfl, rfl, HF.out⟩
          case round =>
            obtain ⟨rfl, rfl, hf⟩ := hrel
            have HF3 := hid hf
            clear hf HB HF
            go_wp2_with fail
            go_ret
            exact ⟨rfl, HF3.out⟩

end Go.Proofs.YthmcheoehcmglaaGreat
/- The machine's words and views are what the reference's net tells, at all times. -/
namespace Go.Proofs.YthmcheoehcmglaaGreat
open Go.RowKit
set_option linter.unusedVariables false

/-- No ward has yielded when its turn ended. -/
def WasF (N : NM) : Prop := ∀ w ∈ N.wn, w.was.y = false
theorem WasF.step {x : KX} {N : NM} (h : WasF N) : WasF (cycleN x N) := by
  have hg : ∀ k, (N.wn.getD k zeroWN).was.y = false := by
    intro k
    by_cases hk : k < N.wn.length
    · rw [getD_of (List.getElem?_eq_getElem hk)]
      exact h _ (List.getElem_mem hk)
    · rw [List.getD_eq_getElem?_getD, List.getElem?_eq_none (by omega)]
      rfl
  unfold cycleN actN
  dsimp only
  split
  · intro w hw
    rcases List.mem_or_eq_of_mem_set hw with h1 | h1
    · exact h w h1
    · rw [h1]; exact hg _
  · split
    · intro w hw
      rcases List.mem_or_eq_of_mem_set hw with h1 | h1
      · exact h w h1
      · rw [h1]
    · exact h
theorem WasF.iter {x : KX} {N : NM} (h : WasF N) : ∀ n, WasF (iterN x n N)
  | 0 => h
  | n + 1 => (h.iter n).step

/-- The model's bounds, told by the machine. -/
theorem nbd_of {x : RX} {kx : KX} (hK : RKx x kx) (hx : RXok x) {s : KM} {N : NM} (h : Sim kx s N) (hd : N.devs.length = x.dn) : NBd x N := by
  have hrl : kx.regs.length = x.st.length := by rw [hK.regs]; simp
  have hwl : N.wn.length = x.st.length := by have := h.hi.wl; rw [List.length_map] at this; omega
  refine ⟨⟨hwl, by rw [h.hi.il, hK.wires], hd, fun v hv => ⟨(h.sb v hv).1.l, (h.sb v hv).2.l⟩, ?_⟩, h.c0, h.sb, h.nw, ?_, h.nd⟩
  · intro k v y hv hy
    have hr : kx.regs[k]? = some (y.regs.map (·.1)) := by rw [hK.regs, List.getElem?_map, hy]; rfl
    have hW : (N.wn.map (·.ws))[k]? = some v.ws := by rw [List.getElem?_map, hv]; rfl
    refine ⟨by rw [h.hi.rl k _ _ hr hW]; simp, ?_⟩
    intro j p u hp hu
    have hpr : (y.regs.map (·.1))[j]? = some p.1 := by rw [List.getElem?_map, hp]; rfl
    have := (h.hi.rg k _ _ j p.1 u hr hW hpr hu).1
    have hB := (hx.rb y (List.mem_of_getElem? hy) p (List.mem_of_getElem? hp)).s0
    omega
  · intro c hc
    obtain ⟨i, hi⟩ := List.getElem?_of_mem hc
    exact ⟨(h.hi.cl i c hi).2.2, (h.ni c hc).2⟩

theorem regs_of {x : RX} (hx : RXok x) {N : NM} (hb : NLen x N) : RegsOk (rwsOf x N) (wisOf x N).length := by
  refine ⟨by rw [rws_len x N hb]; exact hx.n4, by rw [wis_len x N hb]; exact hx.w8, ?_, ?_⟩
  · intro r hr z hz
    obtain ⟨k, hk⟩ := List.getElem?_of_mem hr
    obtain ⟨y, v, hy, hv, rfl⟩ := rws_inv x N k r hk
    obtain ⟨j, hj⟩ := List.getElem?_of_mem hz
    obtain ⟨p, u, hp, hu, rfl⟩ := zip_inv _ _ _ _ hj
    have hB := hx.rb y (List.mem_of_getElem? hy) p (List.mem_of_getElem? hp)
    exact ⟨hB.f0, hB.f1, hB.s0, hB.s1, hB.b0, hB.b1, (hb.wl k v y hv hy).2 j p u hp hu⟩
  · intro r hr
    obtain ⟨k, hk⟩ := List.getElem?_of_mem hr
    obtain ⟨y, v, hy, hv, rfl⟩ := rws_inv x N k r hk
    show (List.zipWith rregOf y.regs v.ws).length ≤ 3
    rw [List.length_zipWith]
    have := hx.rl y (List.mem_of_getElem? hy)
    omega

theorem saved_word (mem : List Int) (off : Nat) (s : StV) (h : loadSt mem off = s) (hy : s.y = false) (hz : ∀ i, 13 ≤ i → i < 16 → mem.getD (off + i) 0 = 0) (hl : off + 16 ≤ mem.length) (i : Nat) (hi : i < 16) : mem.getD (off + i) 0 = savedN s i := by
  subst h
  unfold savedN
  have h8 : (loadSt mem off).regs.length = 8 := loadSt_regs mem off hl
  by_cases h1 : i < 8
  · rw [List.getD_eq_getElem?_getD, List.getD_eq_getElem?_getD, List.getElem?_append_left (by omega)]
    unfold loadSt
    simp only
    rw [List.getElem?_take, if_pos h1, List.getElem?_drop]
  · rw [List.getD_eq_getElem?_getD (l := (loadSt mem off).regs ++ _), List.getElem?_append_right (by omega), h8]
    have hy0 : mem.getD (off + 12) 0 = 0 := by
      have hy' : (mem.getD (off + 12) 0 != 0) = false := hy
      simpa using hy'
    rcases (show i = 8 ∨ i = 9 ∨ i = 10 ∨ i = 11 ∨ i = 12 ∨ 13 ≤ i by omega) with rfl | rfl | rfl | rfl | rfl | h13
    · rfl
    · rfl
    · rfl
    · rfl
    · rw [hy0]; rfl
    · rw [hz i h13 hi, List.getElem?_eq_none (by simp; omega)]
      rfl

/-- Every word. -/
theorem word_of {x : RX} {kx : KX} (hK : RKx x kx) (hx : RXok x) (hX : KXs kx) {s : KM} {N : NM} (h : Sim kx s N) (hb : NBd x N) (hw : WasF N) (a : Nat) (ha : a < kx.n) : s.mem.getD a 0 = rwordV (turnN kx N.ck) N.ck (rwsOf x N) (wisOf x N) a := by
  have hrl : kx.regs.length = x.st.length := by rw [hK.regs]; simp
  have hl := rws_len x N hb.len
  have hil := wis_len x N hb.len
  have hml := h.hi.l
  have hkn := hX.kn
  unfold kerK at hkn
  unfold rwordV
  rw [hl, hil]
  by_cases h0 : a = 0
  · rw [if_pos h0, h0]; exact h.t0
  rw [if_neg h0]
  by_cases h1 : a = 1
  · rw [if_pos h1, h1]; exact h.t1
  rw [if_neg h1]
  by_cases h16 : a < 16
  · rw [if_pos h16]; exact h.lo a (by omega) h16
  rw [if_neg h16]
  by_cases hA : a < 16 * (1 + x.st.length)
  · rw [if_pos hA]
    have hk : a / 16 - 1 < x.st.length := by omega
    have hv : N.wn[a / 16 - 1]? = some (N.wn[a / 16 - 1]'(by rw [hb.len.l1]; exact hk)) := List.getElem?_eq_getElem _
    have hy : x.st[a / 16 - 1]? = some x.st[a / 16 - 1] := List.getElem?_eq_getElem hk
    rw [rws_at x N _ _ _ hy hv]
    have har := h.ar _ _ hv
    have e : a = 16 + 16 * (a / 16 - 1) + a % 16 := by omega
    have := saved_word s.mem (16 + 16 * (a / 16 - 1)) _ har.1 (hw _ (List.mem_of_getElem? hv)) har.2 (by rw [hml]; omega) (a % 16) (by omega)
    rw [← e] at this
    rw [this]
    rfl
  rw [if_neg hA]
  by_cases hC : a < 16 * (1 + x.st.length) + 2 * x.wires.length
  · rw [if_pos hC]
    have hi : (a - 16 * (1 + x.st.length)) / 2 < x.wires.length := by omega
    generalize hie : (a - 16 * (1 + x.st.length)) / 2 = i at *
    have hp : x.wires[i]? = some x.wires[i] := List.getElem?_eq_getElem hi
    have hc : N.wi[i]? = some (N.wi[i]'(by rw [hb.len.l2]; exact hi)) := List.getElem?_eq_getElem _
    have hcl := h.hi.cl i _ hc
    have hca : cellAt kx i = 16 * (1 + x.st.length) + 2 * i := by unfold cellAt; omega
    rw [hca] at hcl
    dsimp only
    rw [getD_of (wis_at x N i _ _ hp hc)]
    by_cases hm : (a - 16 * (1 + x.st.length)) % 2 = 0
    · rw [if_pos hm]
      have e : a = 16 * (1 + x.st.length) + 2 * i := by omega
      rw [e]
      exact hcl.1
    · rw [if_neg hm]
      have e : a = 16 * (1 + x.st.length) + 2 * i + 1 := by omega
      rw [e]
      exact hcl.2.1
  rw [if_neg hC]
  unfold findW
  cases hf : ((rwsOf x N).flatMap (·.regs)).find? (inReg (a : Int)) with
  | none =>
    have hno := List.find?_eq_none.1 hf
    refine h.hi.ot a (by unfold kerK; rw [hrl, hK.wires]; omega) ?_
    intro rs hrs r hr hin
    obtain ⟨k, hk⟩ := List.getElem?_of_mem hrs
    rw [hK.regs, List.getElem?_map] at hk
    obtain ⟨y, hy, rfl⟩ := Option.map_eq_some_iff.1 hk
    obtain ⟨j, hj⟩ := List.getElem?_of_mem hr
    rw [List.getElem?_map] at hj
    obtain ⟨p, hp, rfl⟩ := Option.map_eq_some_iff.1 hj
    have hkl : k < N.wn.length := by rw [hb.len.l1]; exact (List.getElem?_eq_some_iff.1 hy).1
    have hv : N.wn[k]? = some N.wn[k] := List.getElem?_eq_getElem hkl
    have hjl : j < N.wn[k].ws.length := by rw [(hb.len.wl k _ y hv hy).1]; exact (List.getElem?_eq_some_iff.1 hp).1
    have hu : N.wn[k].ws[j]? = some N.wn[k].ws[j] := List.getElem?_eq_getElem hjl
    have hm : rregOf p N.wn[k].ws[j] ∈ (rwsOf x N).flatMap (·.regs) := List.mem_flatMap.2 ⟨rwOf y N.wn[k], List.mem_of_getElem? (rws_at x N k y _ hy hv), List.mem_of_getElem? (zip_at y _ j p _ hp hu)⟩
    have := hno _ hm
    unfold inReg rregOf at this
    simp only [Bool.and_eq_true, decide_eq_true_eq] at this
    exact this hin
  | some r =>
    have hin := List.find?_some hf
    have hm := List.mem_of_find?_eq_some hf
    obtain ⟨rw_, hrw, hrr⟩ := List.mem_flatMap.1 hm
    obtain ⟨k, hk⟩ := List.getElem?_of_mem hrw
    obtain ⟨y, v, hy, hv, rfl⟩ := rws_inv x N k _ hk
    obtain ⟨j, hj⟩ := List.getElem?_of_mem hrr
    obtain ⟨p, u, hp, hu, rfl⟩ := zip_inv _ _ _ _ hj
    have hr : kx.regs[k]? = some (y.regs.map (·.1)) := by rw [hK.regs, List.getElem?_map, hy]; rfl
    have hW : (N.wn.map (·.ws))[k]? = some v.ws := by rw [List.getElem?_map, hv]; rfl
    have hpr : (y.regs.map (·.1))[j]? = some p.1 := by rw [List.getElem?_map, hp]; rfl
    have hrg := (h.hi.rg k _ _ j p.1 u hr hW hpr hu).2
    have hB := (hx.rb y (List.mem_of_getElem? hy) p (List.mem_of_getElem? hp))
    unfold inReg rregOf at hin
    simp only [Bool.and_eq_true, decide_eq_true_eq] at hin
    have hb0 := hB.b0
    have := hrg ((a : Int) - p.1.2.2.1).toNat (by omega)
    have e : p.1.2.2.1.toNat + ((a : Int) - p.1.2.2.1).toNat = a := by omega
    rw [e] at this
    rw [this]
    rfl

theorem stW_of {s : StV} (h : StB s) : StW s := ⟨h.l, h.r, h.p0, h.p1⟩

end Go.Proofs.YthmcheoehcmglaaGreat
/- What is to be seen and done of a machine beside: Peek, Latch, Log. -/
namespace Go.Proofs.YthmcheoehcmglaaGreat
open Go.RowKit
set_option linter.unusedVariables false
attribute [local go_sem ↓] Go.wp_at_zero Go.wp_at_succ

set_option maxRecDepth 100000 in
set_option maxHeartbeats 1000000 in
theorem kfind_any (w : World) (b off : Nat) (regs : List Reg) (vR : Value) (hc : w.cell? ⟨b, off + 13, none⟩ = some vR) (ho : w.ownsRow 0 151 4 vR regs.length (regs.flatMap regCells)) (hr : ∀ r ∈ regs, RegB r) (hl : regs.length ≤ 3) (a : Int) (a0 : 0 ≤ a) (a1 : a < 4294967296) :
    Calls Tryz.prog 46 #[.pointer (some ⟨b, off, none⟩), .int .u32 a] w fun e w' => e = .returned (.tuple #[.int .i64 ((findR 0 a regs).getD 0), .bool (findR 0 a regs).isSome]) ∧ Fr (fun _ => False) w w' := by
  have HF := hid (findWith_any w b off regs vR hc ho hr hl 0 a (by omega) (by omega) a0 a1)
  generalize findR 0 a regs = q at *
  clear hc ho hr hl
  go_enter Tryz.func46, Tryz.ntmps46
  go_wp2_with fail
  refine HF.out.mono ?_
  rintro e w1 ⟨rfl, hf⟩
  have H1 := hid hf
  clear hf
  go_wp2_with fail
  go_ret2
  exact ⟨rfl, H1.out⟩

/-- What Peek tells. -/
def peekV : Option Int → Value
  | some v => .tuple #[.int .u32 v, .int .i64 0]
  | none => .tuple #[.int .u32 0, .int .i64 6]

set_option maxRecDepth 100000 in
set_option maxHeartbeats 2000000 in
theorem peek_yes (x : KX) (ck : Int) (mem : List Int) (sts : List StV) (devs : List DevV) (vL : List Value) (w : World) (h : KerF x ck mem sts devs vL w) (k : Nat) (rs : List Reg) (hk : x.regs[k]? = some rs) (a : Int) (a0 : 0 ≤ a) (a1 : a < 4294967296) :
    Calls Tryz.prog 22 #[.pointer (some ⟨x.X, 0, none⟩), .int .i64 k, .int .u32 a] w fun e w' => e = .returned (peekV (readM rs 0 mem a)) ∧ Fr (fun _ => False) w w' := by
  have hkl : k < x.regs.length := (List.getElem?_eq_some_iff.1 hk).1
  have hki : (k : Int) < (x.regs.length : Int) := by omega
  have hl : (sts.zip x.vR).length = x.regs.length := by rw [List.length_zip, h.sl, ← h.r.wn, Nat.min_self]
  have HHB : Hid (∀ w1, Fr (fun _ => False) w w1 → Calls Tryz.prog 45 #[.pointer (some ⟨x.X, 0, none⟩), .int .i64 k] w1 fun e w' => e = .returned (.bool true) ∧ w' = w1) := by
    intro w1 hf
    have := khas_any w1 x.X x.M x.n mem ck _ _ k (KerF.at' (h.frF hf))
    rw [hl, show hasB x.regs.length (k : Int) = true by simp [hasB]; omega] at this
    exact this
  obtain ⟨v, hv, hc, ho⟩ := h.r.rg k rs hk
  have hfit := h.r.fit rs (List.mem_of_getElem? hk)
  have HFI := hid (kfind_any w x.gK (k * 15) rs v hc ho (fun r hr => (hfit.2 r hr).1) hfit.1 a a0 a1)
  have HFB := hid (findR_bd x ck mem w h.r k rs hk 0 a)
  have HR := hid h.r
  have cw : w.cell? ⟨x.X, 4, none⟩ = some (.slice (some ⟨x.gK, 0, none⟩) x.regs.length x.cK) := row_cell h.r.hx _
  have HRD : Hid (readM rs 0 mem a = (findR 0 a rs).map (fun i => mem.getD i.toNat 0)) := rfl
  generalize readM rs 0 mem a = rd at *
  generalize findR 0 a rs = q at *
  clear h hv hc ho hfit hk hl
  go_enter Tryz.func22, Tryz.ntmps22
  go_wp2_with fail
  refine (HHB.out _ (Fr.refl _ _)).mono ?_
  rintro e w1 ⟨rfl, rfl⟩
  go_wp2_with fail
  refine HFI.out.mono ?_
  rintro e w2 ⟨rfl, hf2⟩
  have HF2 := hid hf2
  clear hf2 cw
  cases q with
  | none =>
    go_wp2_with fail
    go_ret2
    rw [HRD.out]
    exact ⟨rfl, HF2.out⟩
  | some i =>
    have hb := HFB.out i rfl
    obtain ⟨j, rfl⟩ := Int.eq_ofNat_of_zero_le hb.1
    have hj : j < x.n := by omega
    have hji : (j : Int) < (x.n : Int) := by omega
    have H1 := hid (HR.out.frF HF2.out)
    have k0 : w2.cell? ⟨x.X, 0, none⟩ = some (.slice (some ⟨x.M, 0, none⟩) x.n x.n) := row_cell H1.out.hx _
    have m0 := H1.out.word j hj
    clear hb
    go_wp2_with fail
    go_ret2
    rw [HRD.out]
    exact ⟨rfl, HF2.out⟩

set_option maxRecDepth 100000 in
set_option maxHeartbeats 1000000 in
theorem peek_no (x : KX) (ck : Int) (mem : List Int) (sts : List StV) (devs : List DevV) (vL : List Value) (w : World) (h : KerF x ck mem sts devs vL w) (k : Int) (hk : hasB x.regs.length k = false) (a : Int) :
    Calls Tryz.prog 22 #[.pointer (some ⟨x.X, 0, none⟩), .int .i64 k, .int .u32 a] w fun e w' => e = .returned (.tuple #[.int .u32 0, .int .i64 4]) ∧ Fr (fun _ => False) w w' := by
  have hl : (sts.zip x.vR).length = x.regs.length := by rw [List.length_zip, h.sl, ← h.r.wn, Nat.min_self]
  have HHB : Hid (Calls Tryz.prog 45 #[.pointer (some ⟨x.X, 0, none⟩), .int .i64 k] w fun e w' => e = .returned (.bool false) ∧ w' = w) := by
    have := khas_any w x.X x.M x.n mem ck _ _ k (KerF.at' h)
    rw [hl, hk] at this
    exact this
  clear h hk hl
  go_enter Tryz.func22, Tryz.ntmps22
  go_wp2_with fail
  refine HHB.out.mono ?_
  rintro e w1 ⟨rfl, rfl⟩
  go_wp2_with fail
  go_ret2
  exact ⟨rfl, Fr.refl _ _⟩

set_option maxRecDepth 100000 in
set_option maxHeartbeats 1000000 in
theorem hasDev_any (x : KX) (ck : Int) (mem : List Int) (w : World) (h : KerR x ck mem w) (d : Int) :
    Calls Tryz.prog 49 #[.pointer (some ⟨x.X, 0, none⟩), .int .i64 d] w fun e w' => e = .returned (.bool (hasB x.dn d)) ∧ w' = w := by
  have c2 : w.cell? ⟨x.X, 6, none⟩ = some (.slice (some ⟨x.gD, 0, none⟩) x.dn x.dn) := row_cell h.hx _
  clear h
  unfold hasB
  by_cases h1 : 0 ≤ d
  · go_enter Tryz.func49, Tryz.ntmps49
    go_wp2
    all_goals go_ret
    all_goals exact ⟨ret_bool (by simp [h1]), rfl⟩
  · go_enter Tryz.func49, Tryz.ntmps49
    go_wp2
    all_goals go_ret
    all_goals exact ⟨ret_bool (by simp; omega), rfl⟩

/-- A device's latch is set. -/
theorem KerF.latch {x : KX} {ck : Int} {mem : List Int} {sts : List StV} {devs : List DevV} {vL : List Value} {w : World} (h : KerF x ck mem sts devs vL w) (i : Nat) (d : DevV) (hi : devs[i]? = some d) (v : Int) (v0 : 0 ≤ v) (v1 : v < 4294967296) :
    KerF x ck mem sts (devs.set i (v, d.2)) vL (w.setCell ⟨x.gD, i * 2, none⟩ (.int .u32 v)) := by
  have hD := h.d
  have hil : i < devs.length := (List.getElem?_eq_some_iff.1 hi).1
  have hvl : i < vL.length := by rw [hD.n2, ← hD.n1]; exact hil
  have hf : Fr (fun b => b = x.gD) w (w.setCell ⟨x.gD, i * 2, none⟩ (.int .u32 v)) := Fr.one w x.gD (i * 2) _
  obtain ⟨L, hL, hS⟩ := h.st
  have ne : ∀ {b : Nat} {cs : Array Value} {t : TypeId}, w.heap[b]? = some (.cells cs t (0, 0)) → t ≠ 109 → b ≠ x.gD := fun h1 h2 => ne_of_ty h1 hD.hd h2
  refine ⟨h.r.fr hf (fun b hb => by rw [hb]; exact h.r.notKS hD.hd h.vdl (by decide) (by decide) (by decide) (by decide) (by decide) (by decide)), ⟨L, hf.get hL (ne hL (by decide)), hS⟩, h.sl, h.sb, ?_, h.vdl, h.n64, h.q, h.ql⟩
  refine ⟨?_, by rw [List.length_set]; exact hD.n1, hD.n2, ?_, ?_, hD.ds⟩
  · rw [row_set hD.hd, List.setIfInBounds_toArray, devCells_set0 i devs vL d v hi hvl]
  · intro e he
    rcases List.mem_or_eq_of_mem_set he with h1 | h1
    · exact hD.lb e h1
    · rw [h1]; exact ⟨v0, v1⟩
  · intro j e u he hu
    obtain ⟨e0, he0, hlog⟩ : ∃ e0, devs[j]? = some e0 ∧ e.2 = e0.2 := by
      by_cases hij : i = j
      · subst hij
        rw [List.getElem?_set_self hil] at he
        cases he
        exact ⟨d, hi, rfl⟩
      · rw [List.getElem?_set_ne hij] at he
        exact ⟨e, he, rfl⟩
    rw [hlog]
    refine hf.owns (hD.lg j e0 u he0 hu) (fun b hb e => ?_)
    obtain ⟨cs, hcs⟩ := hD.own (List.mem_of_getElem? hu) hb
    exact ne hcs (by decide) e

set_option maxRecDepth 100000 in
set_option maxHeartbeats 1000000 in
theorem latch_yes (x : KX) (ck : Int) (mem : List Int) (sts : List StV) (devs : List DevV) (vL : List Value) (w : World) (h : KerF x ck mem sts devs vL w) (i : Nat) (d : DevV) (hi : devs[i]? = some d) (v : Int) (v0 : 0 ≤ v) (v1 : v < 4294967296) :
    Calls Tryz.prog 33 #[.pointer (some ⟨x.X, 0, none⟩), .int .i64 i, .int .u32 v] w fun e w' => e = .returned (.int .i64 0) ∧ KerF x ck mem sts (devs.set i (v, d.2)) vL w' ∧ Fr (fun b => b = x.gD) w w' := by
  have hil : i < x.dn := by rw [← h.d.n1]; exact (List.getElem?_eq_some_iff.1 hi).1
  have hii : (i : Int) < (x.dn : Int) := by omega
  have hvl : i < vL.length := by rw [h.d.n2]; exact hil
  have HB : Hid (Calls Tryz.prog 49 #[.pointer (some ⟨x.X, 0, none⟩), .int .i64 i] w fun e w' => e = .returned (.bool true) ∧ w' = w) := by
    have := hasDev_any x ck mem w h.r i
    rw [show hasB x.dn (i : Int) = true by simp [hasB]; omega] at this
    exact this
  have c2 : w.cell? ⟨x.X, 6, none⟩ = some (.slice (some ⟨x.gD, 0, none⟩) x.dn x.dn) := row_cell h.r.hx _
  have cd : w.cell? ⟨x.gD, i * 2, none⟩ = some (.int .u32 d.1) := (row_cell h.d.hd _).trans (by rw [List.getElem?_toArray]; exact (dev_get devs vL i d _ hi (List.getElem?_eq_getElem hvl)).1)
  have fd : w.frozen? ⟨x.gD, i * 2, none⟩ = false := row_frozen h.d.hd _
  have HK := hid (h.latch i d hi v v0 v1)
  clear h hi
  go_enter Tryz.func33, Tryz.ntmps33
  go_wp2_with fail
  refine HB.out.mono ?_
  rintro e w1 ⟨rfl, rfl⟩
  go_wp2_with fail
  go_ret
  exact ⟨rfl, HK.out, Fr.one _ _ _ _⟩

set_option maxRecDepth 100000 in
set_option maxHeartbeats 1000000 in
theorem latch_no (x : KX) (ck : Int) (mem : List Int) (w : World) (h : KerR x ck mem w) (i : Int) (hi : hasB x.dn i = false) (v : Int) :
    Calls Tryz.prog 33 #[.pointer (some ⟨x.X, 0, none⟩), .int .i64 i, .int .u32 v] w fun e w' => e = .returned (.int .i64 5) ∧ w' = w := by
  have HB := hid (hasDev_any x ck mem w h i)
  rw [hi] at HB
  clear h hi
  go_enter Tryz.func33, Tryz.ntmps33
  go_wp2_with fail
  refine HB.out.mono ?_
  rintro e w1 ⟨rfl, rfl⟩
  go_wp2_with fail
  go_ret
  exact ⟨rfl, rfl⟩

/-- A log as text. -/
def logS (l : List Int) : ByteArray := strOfNums (logB l)

theorem log_conv (w : World) (v : Value) (l : List Int) (h : w.ownsRow 0 5 1 v (logB l).length (logCells l)) : (convert 107 9 v).run Tryz.prog w = .ok (.string (logS l)) w := by
  have h2 := h
  rcases h.2 with ⟨rfl, h1⟩ | ⟨g, cap, cur, rfl, _, hg, _⟩
  · have e : logB l = [] := List.eq_nil_of_length_eq_zero h1
    have := run_convert_bytes_nil (P := Tryz.prog) w 107 5 Tryz.underlying107 Tryz.underlying5 0 0 9 Tryz.underlying9
    rw [this]
    unfold logS
    rw [e]
    rfl
  · refine run_convert_bytes_arg (P := Tryz.prog) w 107 5 Tryz.underlying107 Tryz.underlying5 g 0 (logB l).length cap (logB l) rfl ?_ 9 Tryz.underlying9
    intro i hi
    have := h2.cellAt i (by simpa using hi)
    rw [Nat.zero_add, this]
    unfold logCells
    rw [List.getElem?_map, List.getD_eq_getElem?_getD, List.getElem?_eq_getElem hi]
    rfl

set_option maxRecDepth 100000 in
set_option maxHeartbeats 1000000 in
theorem log_yes (x : KX) (ck : Int) (mem : List Int) (sts : List StV) (devs : List DevV) (vL : List Value) (w : World) (h : KerF x ck mem sts devs vL w) (i : Nat) (d : DevV) (hi : devs[i]? = some d) :
    Calls Tryz.prog 31 #[.pointer (some ⟨x.X, 0, none⟩), .int .i64 i] w fun e w' => e = .returned (.tuple #[.string (logS d.2), .int .i64 0]) ∧ w' = w := by
  have hil : i < x.dn := by rw [← h.d.n1]; exact (List.getElem?_eq_some_iff.1 hi).1
  have hii : (i : Int) < (x.dn : Int) := by omega
  have hvl : i < vL.length := by rw [h.d.n2]; exact hil
  have HB : Hid (Calls Tryz.prog 49 #[.pointer (some ⟨x.X, 0, none⟩), .int .i64 i] w fun e w' => e = .returned (.bool true) ∧ w' = w) := by
    have := hasDev_any x ck mem w h.r i
    rw [show hasB x.dn (i : Int) = true by simp [hasB]; omega] at this
    exact this
  obtain ⟨u, hu⟩ : ∃ u, vL[i]? = some u := ⟨_, List.getElem?_eq_getElem hvl⟩
  have c2 : w.cell? ⟨x.X, 6, none⟩ = some (.slice (some ⟨x.gD, 0, none⟩) x.dn x.dn) := row_cell h.r.hx _
  have cd : w.cell? ⟨x.gD, i * 2 + 1, none⟩ = some u := (row_cell h.d.hd _).trans (by rw [List.getElem?_toArray]; exact (dev_get devs vL i d u hi hu).2)
  have hcv := log_conv w u d.2 (h.d.lg i d u hi hu)
  clear h hi hu hvl
  go_enter Tryz.func31, Tryz.ntmps31
  go_wp2_with fail
  refine HB.out.mono ?_
  rintro e w1 ⟨rfl, rfl⟩
  go_wp2_with fail
  go_ret2
  exact ⟨rfl, rfl⟩

set_option maxRecDepth 100000 in
set_option maxHeartbeats 1000000 in
theorem log_no (x : KX) (ck : Int) (mem : List Int) (w : World) (h : KerR x ck mem w) (i : Int) (hi : hasB x.dn i = false) :
    Calls Tryz.prog 31 #[.pointer (some ⟨x.X, 0, none⟩), .int .i64 i] w fun e w' => e = .returned (.tuple #[.string ⟨#[]⟩, .int .i64 5]) ∧ w' = w := by
  have HB := hid (hasDev_any x ck mem w h i)
  rw [hi] at HB
  clear h hi
  go_enter Tryz.func31, Tryz.ntmps31
  go_wp2_with fail
  refine HB.out.mono ?_
  rintro e w1 ⟨rfl, rfl⟩
  go_wp2_with fail
  go_ret2
  exact ⟨rfl, rfl⟩

end Go.Proofs.YthmcheoehcmglaaGreat
/- A kernel beside the document's net: where they lie, what stays. -/
namespace Go.Proofs.YthmcheoehcmglaaGreat
open Go.RowKit
set_option linter.unusedVariables false

/-- All blocks of a net of the reference. -/
def RAll (x : RX) (vL : List Value) (b : Nat) : Prop := RA x vL b ∨ ∃ y ∈ x.st, y.vR.ownBlock = some b ∨ y.vD.ownBlock = some b
/-- All blocks of a machine. -/
def KB (kx : KX) (vL : List Value) (b : Nat) : Prop := KA kx vL b ∨ KS kx b

theorem RefAt.frS {x : RX} {N : NM} {vL : List Value} {w w' : World} {S : Nat → Prop} (h : RefAt x N vL w) (hf : Fr S w w') (hS : ∀ b, RAll x vL b → ¬ S b) : RefAt x N vL w' := by
  have hRA : ∀ b, RA x vL b → ¬ S b := fun b hb => hS b (.inl hb)
  refine ⟨⟨hf.get h.n.hy (hRA _ (.inl rfl)), hf.owns h.n.ow ?_, ?_, ?_, hf.owns h.n.iw (fun b hb => hRA b (.inr (.inr (.inl hb)))), ⟨_, hf.owns h.dd (fun b hb => hRA b (.inr (.inr (.inr (.inl hb)))))⟩⟩, hf.owns h.dd (fun b hb => hRA b (.inr (.inr (.inr (.inl hb))))), h.l3, ?_, h.sl, h.ss⟩
  · intro b hb
    cases hb
    exact hRA _ (.inr (.inl rfl))
  · intro r hr
    obtain ⟨k, hk⟩ := List.getElem?_of_mem hr
    obtain ⟨y, v, hy, hv, rfl⟩ := rws_inv x N k r hk
    have hz := h.n.rg _ hr
    refine ⟨⟨hf.owns hz.1.own (fun b hb => hS b (.inr ⟨y, List.mem_of_getElem? hy, .inl hb⟩)), ?_, hz.1.inc⟩, hz.2⟩
    intro z hz2
    obtain ⟨j, hj⟩ := List.getElem?_of_mem hz2
    obtain ⟨p, u, hp, hu, rfl⟩ := zip_inv _ _ _ _ hj
    exact ⟨hf.get (hz.1.blk _ hz2).1 (hRA _ (.inr (.inr (.inr (.inr (.inl ⟨y, List.mem_of_getElem? hy, p, List.mem_of_getElem? hp, rfl⟩)))))), Nat.zero_le _⟩
  · intro r hr
    obtain ⟨k, hk⟩ := List.getElem?_of_mem hr
    obtain ⟨y, v, hy, hv, rfl⟩ := rws_inv x N k r hk
    exact hf.owns (h.n.dr _ hr) (fun b hb => hS b (.inr ⟨y, List.mem_of_getElem? hy, .inr hb⟩))
  · intro i d v h1 h2
    exact hf.owns (h.lg i d v h1 h2) (fun b hb => hRA b (.inr (.inr (.inr (.inr (.inr ⟨v, List.mem_of_getElem? h2, hb⟩))))))

theorem RefAt.lt {x : RX} {N : NM} {vL : List Value} {w : World} (h : RefAt x N vL w) (hb : NLen x N) (b : Nat) (hr : RAll x vL b) : b < w.heap.size := by
  have hat : ∀ y ∈ x.st, ∃ (k : Nat) (v : WN), x.st[k]? = some y ∧ N.wn[k]? = some v := by
    intro y hy
    obtain ⟨k, hk⟩ := List.getElem?_of_mem hy
    exact ⟨k, _, hk, List.getElem?_eq_getElem (by rw [hb.l1]; exact (List.getElem?_eq_some_iff.1 hk).1)⟩
  rcases hr with (e | e | e | e | ⟨y, hy, p, hp, e⟩ | ⟨v, hv, e⟩) | ⟨y, hy, e | e⟩
  · rw [e]; exact lt_of_get h.n.hy
  · obtain ⟨cur, hg⟩ := h.blockW
    rw [e]; exact lt_of_get hg
  · exact (h.n.iw.lt b e).2
  · exact (h.dd.lt b e).2
  · obtain ⟨k, v, hk, hv⟩ := hat y hy
    obtain ⟨j, hj⟩ := List.getElem?_of_mem hp
    have hjl : j < v.ws.length := by rw [(hb.wl k v y hv hk).1]; exact (List.getElem?_eq_some_iff.1 hj).1
    have := lt_of_get ((h.rr k y v hk hv).1.blk _ (List.mem_of_getElem? (zip_at y v.ws j p _ hj (List.getElem?_eq_getElem hjl)))).1
    rw [e]; exact this
  · obtain ⟨i, hi⟩ := List.getElem?_of_mem hv
    have hil : i < N.devs.length := by rw [← h.l3]; exact (List.getElem?_eq_some_iff.1 hi).1
    exact ((h.lg i _ v (List.getElem?_eq_getElem hil) hi).lt b e).2
  · obtain ⟨k, v, hk, hv⟩ := hat y hy
    exact ((h.rr k y v hk hv).1.own.lt b e).2
  · obtain ⟨k, v, hk, hv⟩ := hat y hy
    exact ((h.rr k y v hk hv).2.lt b e).2

theorem Live.ltB {kx : KX} {s : KM} {N : NM} {vL : List Value} {w : World} (h : Live kx s N vL w) (b : Nat) (hb : KB kx vL b) : b < w.heap.size := by
  have hr := KerF.r h.k
  rcases hb with e | e | e | e | ⟨v, hv, e⟩ | e | e | ⟨v, hv, e⟩
  · exact KerF.ltA h.k e
  · rw [e]; exact lt_of_get hr.hx
  · rw [e]; exact lt_of_get hr.hm
  · obtain ⟨c, hc⟩ := hr.gk
    rw [e]; exact lt_of_get hc
  · obtain ⟨k, hk⟩ := List.getElem?_of_mem hv
    have hkl : k < kx.regs.length := by rw [hr.wn]; exact (List.getElem?_eq_some_iff.1 hk).1
    obtain ⟨v', hv', _, ho⟩ := hr.rg k _ (List.getElem?_eq_getElem hkl)
    rw [hk] at hv'
    cases hv'
    exact (ho.lt b e).2
  · exact (hr.wi.lt b e).2
  · exact (hr.hq.lt b e).2
  · obtain ⟨k, hk⟩ := List.getElem?_of_mem hv
    have hkl : k < kx.dvs.length := by rw [← KerF.vdl h.k]; exact (List.getElem?_eq_some_iff.1 hk).1
    obtain ⟨v', hv', _, ho⟩ := hr.dg k _ (List.getElem?_eq_getElem hkl)
    rw [hk] at hv'
    cases hv'
    exact (ho.lt b e).2
theorem Live.frS {kx : KX} {s : KM} {N : NM} {vL : List Value} {w w' : World} {S : Nat → Prop} (h : Live kx s N vL w) (hf : Fr S w w') (hS : ∀ b, KB kx vL b → ¬ S b) : Live kx s N vL w' := by
  obtain ⟨L, hL, hs⟩ := KerF.st h.k
  have hk := h.k
  refine ⟨⟨(KerF.r hk).fr hf (fun i hi hk2 => hS i (.inr hk2) hi), ⟨L, hf.get hL (hS _ (.inl (.inr (.inr (.inl rfl))))), hs⟩, KerF.sl hk, KerF.sb hk, (KerF.d hk).fr hf (hS _ (.inl (.inr (.inr (.inr (.inl rfl)))))) (fun v hv b hb => hS _ (.inl (.inr (.inr (.inr (.inr ⟨v, hv, hb⟩)))))), KerF.vdl hk, KerF.n64 hk, KerF.q hk, KerF.ql hk⟩, h.n, h.x⟩

/-- A kernel and the document's net. -/
structure PD where
  P : Nat
  kx : KX
  x : RX
  s : KM
  vK : List Value
  vR : List Value
  N : NM
/-- All their blocks. -/
def PB (d : PD) (b : Nat) : Prop := KB d.kx d.vK b ∨ RAll d.x d.vR b ∨ b = d.P
structure PairOk (d : PD) (w : World) : Prop where
  l : Live d.kx d.s d.N d.vK w
  r : RefAt d.x d.N d.vR w
  k : RKx d.x d.kx
  x : RXok d.x
  dn : d.N.devs.length = d.x.dn
  dk : d.kx.dn = d.x.dn
  wf : WasF d.N
  p : PairAt w d.P d.kx.X d.x.Y
  m : d.x.mem = d.kx.n
  sep : ∀ b, KB d.kx d.vK b → ¬ RAll d.x d.vR b
  s1 : ¬ KB d.kx d.vK d.P
  s2 : ¬ RAll d.x d.vR d.P

theorem PairOk.nbd {d : PD} {w : World} (h : PairOk d w) : NBd d.x d.N := nbd_of h.k h.x h.l.n h.dn
theorem PairOk.fr {d : PD} {w w' : World} {S : Nat → Prop} (h : PairOk d w) (hf : Fr S w w') (hS : ∀ b, PB d b → ¬ S b) : PairOk d w' :=
  ⟨h.l.frS hf (fun b hb => hS b (.inl hb)), h.r.frS hf (fun b hb => hS b (.inr (.inl hb))), h.k, h.x, h.dn, h.dk, h.wf, hf.get h.p (hS _ (.inr (.inr rfl))), h.m, h.sep, h.s1, h.s2⟩
theorem PairOk.frF {d : PD} {w w' : World} (h : PairOk d w) (hf : Fr (fun _ => False) w w') : PairOk d w' := h.fr hf (fun _ _ => id)
theorem PairOk.lt {d : PD} {w : World} (h : PairOk d w) (b : Nat) (hb : PB d b) : b < w.heap.size := by
  rcases hb with e | e | e
  · exact h.l.ltB b e
  · exact h.r.lt h.nbd.len b e
  · rw [e]; exact lt_of_get h.p

end Go.Proofs.YthmcheoehcmglaaGreat
/- The statements' own functions over a kernel beside the net: word, view, peek, looks without the logs. -/
namespace Go.Proofs.YthmcheoehcmglaaGreat
open Go.RowKit
set_option linter.unusedVariables false
attribute [local go_sem ↓] Go.wp_at_zero Go.wp_at_succ

theorem PairOk.turn {d : PD} {w : World} (h : PairOk d w) (hc : d.N.ck ≤ 9223372036854775807) : Calls Tryz.prog 107 #[.pointer (some ⟨d.x.Y, 0, none⟩)] w fun e w' => e = .returned (.int .i64 (turnN d.kx d.N.ck)) ∧ Fr (fun _ => False) w w' :=
  rturn_any d.x d.kx h.k d.N d.vR w h.r h.nbd.len h.x h.nbd.c0 hc h.l.x.q

set_option maxRecDepth 100000 in
set_option maxHeartbeats 2000000 in
theorem PairOk.word {d : PD} {w : World} (h : PairOk d w) (hc : d.N.ck ≤ 9223372036854775807) (a : Int) :
    Calls Tryz.prog 57 #[.pointer (some ⟨d.P, 0, none⟩), .int .i64 a] w fun e w' => e = .returned (.bool true) ∧ Fr (fun _ => False) w w' := by
  have c0 : w.cell? ⟨d.P, 0, none⟩ = some (.pointer (some ⟨d.kx.X, 0, none⟩)) := row_cell h.p 0
  have c1 : w.cell? ⟨d.P, 1, none⟩ = some (.pointer (some ⟨d.x.Y, 0, none⟩)) := row_cell h.p 1
  have HWD := hid (h.l.word a)
  have hn := (KerF.r h.l.k).n1
  by_cases ha : 0 ≤ a ∧ a < (d.kx.n : Int)
  · obtain ⟨i, rfl⟩ := Int.eq_ofNat_of_zero_le ha.1
    have hi : i < d.kx.n := by omega
    have hv : 0 ≤ d.s.mem.getD i 0 ∧ d.s.mem.getD i 0 < 4294967296 := (KerF.at' h.l.k).bdAt i
    have HRW := hid (rword_anyF w d.x.Y d.x.gap d.x.mem d.N.ck (turnN d.kx d.N.ck) _ _ _ _ _ _ h.r.n (regs_of h.x h.nbd.len) (by rw [h.m]; omega) h.nbd.c0 (h.turn hc) i (by rw [h.m]; omega))
    rw [← word_of h.k h.x h.l.x h.l.n h.nbd h.wf i hi] at HRW
    rw [if_pos ha, if_pos ha, Int.toNat_natCast] at HWD
    generalize d.s.mem.getD i 0 = v at *
    clear h hc ha
    go_enter Tryz.func57, Tryz.ntmps57
    go_wp2_with fail
    refine HWD.out.mono ?_
    rintro e w1 ⟨rfl, hw⟩
    obtain rfl := hw.symm
    go_wp2_with fail
    refine HRW.out.mono ?_
    rintro e w2 ⟨rfl, hf2⟩
    have HF := hid hf2
    clear hf2
    obtain ⟨hv0, hv1⟩ := hv
    go_wp2_with fail
    refine (num_any _ _).mono ?_
    rintro e w3 ⟨rfl, rfl⟩
    go_wp2_with fail
    go_ret
    exact ⟨rfl, HF.out⟩
  · have HRW := hid (rword_no w d.x.Y d.x.gap d.x.mem d.N.ck _ _ _ _ _ _ h.r.n a (by rw [h.m]; exact ha))
    rw [if_neg ha, if_neg ha] at HWD
    clear h hc ha
    go_enter Tryz.func57, Tryz.ntmps57
    go_wp2_with fail
    refine HWD.out.mono ?_
    rintro e w1 ⟨rfl, hw⟩
    obtain rfl := hw.symm
    go_wp2_with fail
    refine HRW.out.mono ?_
    rintro e w2 ⟨rfl, hf2⟩
    have HF := hid hf2
    clear hf2
    go_wp2_with fail
    refine (num_any _ _).mono ?_
    rintro e w3 ⟨rfl, rfl⟩
    go_wp2_with fail
    go_ret
    exact ⟨rfl, HF.out⟩

theorem PairOk.view {d : PD} {w : World} (h : PairOk d w) (k : Int) :
    Calls Tryz.prog 58 #[.pointer (some ⟨d.P, 0, none⟩), .int .i64 k] w fun e w' => e = .returned (.bool true) ∧ Fr (fun _ => False) w w' := by
  have hrl : d.kx.regs.length = d.x.st.length := by rw [h.k.regs]; simp
  have hl := rws_len d.x d.N h.nbd.len
  cases hb : hasB d.x.st.length k with
  | false => exact pview_of w d.P d.kx.X d.x.Y noSt noSt_W k 4 h.p (h.l.view_no k (by rw [hrl]; exact hb)) (fun w1 h1 => rview_no w1 d.x.Y d.x.gap d.x.mem d.N.ck _ _ _ _ _ _ ((h.frF h1).r.n) k (by rw [hl]; exact hb))
  | true =>
    simp only [hasB, Bool.and_eq_true, decide_eq_true_eq] at hb
    obtain ⟨i, rfl⟩ := Int.eq_ofNat_of_zero_le hb.1
    have hi : i < d.x.st.length := by omega
    have hy : d.x.st[i]? = some d.x.st[i] := List.getElem?_eq_getElem hi
    have hv : d.N.wn[i]? = some (d.N.wn[i]'(by rw [h.nbd.len.l1]; exact hi)) := List.getElem?_eq_getElem _
    have hr := rws_at d.x d.N i _ _ hy hv
    refine pview_of w d.P d.kx.X d.x.Y _ (stW_of (h.nbd.sb _ (List.mem_of_getElem? hv)).1) i 0 h.p (h.l.view i _ hv) ?_
    intro w1 h1
    have := rview_yes w1 d.x.Y d.x.gap d.x.mem d.N.ck _ _ _ _ _ _ ((h.frF h1).r.n) i (by rw [hl]; exact hi)
    rw [(List.getElem?_eq_some_iff.1 hr).2] at this
    exact this

end Go.Proofs.YthmcheoehcmglaaGreat
/- The statements' own functions over a kernel beside the net: address, peek. -/
namespace Go.Proofs.YthmcheoehcmglaaGreat
open Go.RowKit
set_option linter.unusedVariables false
attribute [local go_sem ↓] Go.wp_at_zero Go.wp_at_succ

set_option maxRecDepth 100000 in
set_option maxHeartbeats 1000000 in
theorem laddress_any (n : Int) (w : World) (hn : I64 n) : Calls Tryz.prog 13 #[.int .i64 n] w fun e w' => e = .returned (.int .i64 (n % 4294967296)) ∧ w' = w := by
  obtain ⟨h0, h1⟩ := hn
  by_cases hp : 0 ≤ n
  · go_enter Tryz.func13, Tryz.ntmps13
    go_wp2_with fail
    go_ret
    exact ⟨rfl, rfl⟩
  · have htm : n.tmod 4294967296 = -((-n) % 4294967296) := by
      have : n = -(-n) := by omega
      rw [this, Int.neg_tmod, Int.tmod_eq_emod_of_nonneg (by omega)]
      simp
    obtain ⟨r, hr⟩ : ∃ r, n.tmod 4294967296 = r := ⟨_, rfl⟩
    have hr0 : r ≤ 0 ∧ -4294967296 < r := by rw [← hr, htm]; omega
    have HE : Hid (n % 4294967296 = if r < 0 then r + 4294967296 else r) := by
      unfold Hid
      rw [← hr, htm]
      split <;> omega
    clear htm hp
    by_cases hz : r < 0
    · rw [if_pos hz] at HE
      go_enter Tryz.func13, Tryz.ntmps13
      go_wp2_with fail
      go_ret
      exact ⟨by rw [HE.out]; rfl, rfl⟩
    · rw [if_neg hz] at HE
      go_enter Tryz.func13, Tryz.ntmps13
      go_wp2_with fail
      go_ret
      exact ⟨by rw [HE.out]; rfl, rfl⟩

set_option maxRecDepth 100000 in
set_option maxHeartbeats 1000000 in
/-- Both answers, one number and one error. -/
theorem ppeek_of (w : World) (P X Y : Nat) (k ad z ec : Int) (z0 : 0 ≤ z) (z1 : z < 4294967296) (a0 : 0 ≤ ad) (a1 : ad < 4294967296) (hp : PairAt w P X Y)
    (h1 : Calls Tryz.prog 22 #[.pointer (some ⟨X, 0, none⟩), .int .i64 k, .int .u32 ad] w fun e w' => e = .returned (.tuple #[.int .u32 z, .int .i64 ec]) ∧ Fr (fun _ => False) w w')
    (h2 : ∀ w1, Fr (fun _ => False) w w1 → Calls Tryz.prog 85 #[.pointer (some ⟨Y, 0, none⟩), .int .i64 k, .int .i64 ad] w1 fun e w' => e = .returned (.tuple #[.int .i64 z, .int .i64 ec]) ∧ Fr (fun _ => False) w1 w') :
    Calls Tryz.prog 59 #[.pointer (some ⟨P, 0, none⟩), .int .i64 k, .int .i64 ad] w fun e w' => e = .returned (.bool true) ∧ Fr (fun _ => False) w w' := by
  have c0 : w.cell? ⟨P, 0, none⟩ = some (.pointer (some ⟨X, 0, none⟩)) := row_cell hp 0
  have HP := hid hp
  have H1 := hid h1
  have H2 := hid h2
  clear hp h1 h2
  go_enter Tryz.func59, Tryz.ntmps59
  go_wp2_with fail
  refine H1.out.mono ?_
  rintro e w1 ⟨rfl, hf1⟩
  have HF1 := hid hf1
  have c1 : w1.cell? ⟨P, 1, none⟩ = some (.pointer (some ⟨Y, 0, none⟩)) := row_cell (HP.out.fr hf1) 1
  clear hf1 c0
  go_wp2_with fail
  refine (H2.out w1 HF1.out).mono ?_
  rintro e w2 ⟨rfl, hf2⟩
  have HF2 := hid (HF1.out.step hf2 (fun _ h => .inl h))
  clear hf2 c1
  go_wp2_with fail
  refine (num_any _ _).mono ?_
  rintro e w3 ⟨rfl, rfl⟩
  go_wp2_with fail
  go_ret
  exact ⟨rfl, HF2.out⟩

theorem PairOk.peek {d : PD} {w : World} (h : PairOk d w) (k : Int) (ad : Int) (a0 : 0 ≤ ad) (a1 : ad < 4294967296) :
    Calls Tryz.prog 59 #[.pointer (some ⟨d.P, 0, none⟩), .int .i64 k, .int .i64 ad] w fun e w' => e = .returned (.bool true) ∧ Fr (fun _ => False) w w' := by
  have hrl : d.kx.regs.length = d.x.st.length := by rw [h.k.regs]; simp
  cases hb : hasB d.x.st.length k with
  | false => exact ppeek_of w d.P d.kx.X d.x.Y k ad 0 4 (by omega) (by omega) a0 a1 h.p (peek_no d.kx d.s.ck d.s.mem d.s.sts d.s.devs d.vK w h.l.k k (by rw [hrl]; exact hb) ad) (fun w1 h1 => rpeek_no d.x d.N d.vR w1 (h.frF h1).r k ad hb)
  | true =>
    simp only [hasB, Bool.and_eq_true, decide_eq_true_eq] at hb
    obtain ⟨i, rfl⟩ := Int.eq_ofNat_of_zero_le hb.1
    have hi : i < d.x.st.length := by omega
    have hy : d.x.st[i]? = some d.x.st[i] := List.getElem?_eq_getElem hi
    have hv : d.N.wn[i]? = some (d.N.wn[i]'(by rw [h.nbd.len.l1]; exact hi)) := List.getElem?_eq_getElem _
    have hrs : d.kx.regs[i]? = some (d.x.st[i].regs.map (·.1)) := by rw [h.k.regs, List.getElem?_map, hy]; rfl
    have hW : (d.N.wn.map (·.ws))[i]? = some (d.N.wn[i]'(by rw [h.nbd.len.l1]; exact hi)).ws := by rw [List.getElem?_map, hv]; rfl
    have h1 := peek_yes d.kx d.s.ck d.s.mem d.s.sts d.s.devs d.vK w h.l.k i _ hrs ad a0 a1
    have hrdE := h.l.n.hi.read h.l.x.ok i _ hW 0 ad
    rw [(h.k.reg i _ hy).1] at hrdE
    rw [hrdE] at h1
    have h2 := fun (w1 : World) (hf : Fr (fun _ => False) w w1) => rpeek_yes d.x d.N d.vR w1 (h.frF hf).r h.nbd.len h.x i _ _ hy hv ad a0 a1
    cases hrd : readN (d.x.st[i].regs.map (·.1)) 0 (d.N.wn[i]'(by rw [h.nbd.len.l1]; exact hi)).ws ad with
    | none =>
      rw [hrd] at h1 h2
      exact ppeek_of w d.P d.kx.X d.x.Y i ad 0 6 (by omega) (by omega) a0 a1 h.p h1 h2
    | some z =>
      have hz : bdW z := by
        unfold readN at hrd
        split at hrd
        · split at hrd
          · cases hrd
            rename_i j hj hh
            by_cases hjl : j < (d.N.wn[i]'(by rw [h.nbd.len.l1]; exact hi)).ws.length
            · rw [getD_of (List.getElem?_eq_getElem hjl)]
              generalize hQ : ((d.N.wn[i]'(by rw [h.nbd.len.l1]; exact hi)).ws[j]) = u
              by_cases hq : (ad - (regAt (d.x.st[i].regs.map (·.1)) j).1).toNat < u.length
              · exact h.nbd.nw _ (List.mem_of_getElem? hv) u (by rw [← hQ]; exact List.getElem_mem _) _ (getD_mem' _ _ _ hq)
              · rw [List.getD_eq_getElem?_getD, List.getElem?_eq_none (by omega)]
                exact ⟨by simp, by simp⟩
            · rw [List.getD_eq_getElem?_getD (l := (d.N.wn[i]'(by rw [h.nbd.len.l1]; exact hi)).ws), List.getElem?_eq_none (by omega)]
              exact ⟨by simp, by simp⟩
          · cases hrd
        · cases hrd
      rw [hrd] at h1 h2
      exact ppeek_of w d.P d.kx.X d.x.Y i ad z 0 hz.1 hz.2 a0 a1 h.p h1 h2

end Go.Proofs.YthmcheoehcmglaaGreat
/- What the devices have logged are words. -/
namespace Go.Proofs.YthmcheoehcmglaaGreat
open Go.RowKit
set_option linter.unusedVariables false

def logW (devs : List DevV) : Prop := ∀ d ∈ devs, ∀ v ∈ d.2, bdW v
theorem putD_logW {devs : List DevV} (h : logW devs) (i : Nat) (v : Int) (hv : bdW v) : logW (putD devs i v) := by
  intro d hd z hz
  unfold putD at hd
  rcases List.mem_or_eq_of_mem_set hd with h1 | h1
  · exact h d h1 z hz
  · rw [h1] at hz
    rcases List.mem_append.1 hz with h2 | h2
    · rw [List.getD_eq_getElem?_getD] at h2
      cases hi : devs[i]? with
      | none => rw [hi] at h2; simp at h2
      | some c => rw [hi] at h2; exact h c (List.mem_of_getElem? hi) z h2
    · rw [List.mem_singleton.1 h2]; exact hv

theorem cycleM_logW (x : KX) (k : Nat) (ck : Int) (s : StV) (m : NS) (hs : ∀ j, bdW (s.regs.getD j 0)) (h : logW m.2.2) : logW (cycleM (opsN x k ck) s m).2.2.2 := by
  have hW : ∀ code a b nn s', s'.regs = s.regs → logW (workM (opsN x k ck) code a b nn s' m).2.2.2.2 := by
    intro code a b nn s' hs'
    unfold workM
    dsimp only
    split <;> (try exact h)
    · split <;> exact h
    · split <;> exact h
    · split
      · rename_i u hu
        simp only [opsN, putN] at hu
        split at hu
        · cases hu
          exact putD_logW h _ _ (by rw [hs']; exact hs a)
        · split at hu
          · split at hu
            · cases hu; exact h
            · cases hu
          · cases hu
      · exact h
  unfold cycleM
  split
  · exact h
  · split
    · exact h
    · have hI : logW (instrM (opsN x k ck) s m).2.2.2.2 := by
        unfold instrM
        split
        · exact h
        · split
          · exact h
          · split
            · exact h
            · dsimp only
              split
              · exact hW _ _ _ _ _ rfl
              · exact hW _ _ _ _ _ rfl
      unfold stepM
      dsimp only
      split <;> exact hI

theorem cycleN_logW (x : KX) (N : NM) (hs : ∀ v ∈ N.wn, StB v.now) (h : logW N.devs) : logW (cycleN x N).devs := by
  unfold cycleN actN
  simp only
  split
  · refine cycleM_logW x _ _ _ _ ?_ h
    intro j
    generalize (slotK x N.ck).1 = k
    have hv : ∀ v : WN, (∀ r ∈ v.now.regs, bdW r) → bdW (v.now.regs.getD j 0) := by
      intro v hB
      rw [List.getD_eq_getElem?_getD]
      cases hj : v.now.regs[j]? with
      | none => unfold bdW; simp
      | some z => exact hB z (List.mem_of_getElem? hj)
    refine hv _ ?_
    have e := List.getD_eq_getElem?_getD (l := N.wn) (i := k) (a := zeroWN)
    rw [e]
    cases hk : N.wn[k]? with
    | none =>
      intro r hr
      simp only [Option.getD_none, zeroWN, zeroSt, List.mem_cons, List.not_mem_nil, or_false, or_self] at hr
      rw [hr]
      unfold bdW
      omega
    | some v => exact (hs v (List.mem_of_getElem? hk)).r
  · split <;> exact h
theorem iterN_logW (x : KX) (N : NM) (h : logW N.devs) : ∀ j, (∀ i, i < j → ∀ v ∈ (iterN x i N).wn, StB v.now) → logW (iterN x j N).devs
  | 0, _ => h
  | j + 1, hs => cycleN_logW x _ (hs j (by omega)) (iterN_logW x N h j (fun i hi => hs i (by omega)))

end Go.Proofs.YthmcheoehcmglaaGreat
