/- The statements' own functions: looks, without the logs. -/
import Derived.Test.YthmcheoehcmglaaL2
namespace Go.Proofs.Ythmcheoehcmglaa
open Go.RowKit
set_option linter.unusedVariables false
attribute [local go_sem ↓] Go.wp_at_zero Go.wp_at_succ

/-- A kernel and a net that agree. -/
structure Agree (w : World) (P X Y M n : Nat) (mem : List Int) (gap ck tv : Int) (ks : List (StV × Value)) (vK : Value) (rws : List RWard) (wi : List (Int × Int × Int × Int)) (vW vI vD : Value) (nd : Nat) : Prop where
  pa : PairAt w P X Y
  ke : KerAt w X M n mem ck ks vK
  ne : NetAt w Y gap n ck rws wi vW vI vD nd
  re : RegsOk rws wi.length
  c0 : 0 ≤ ck
  t : ∀ w1, Fr (fun _ => False) w w1 → Calls Try.prog 68 #[.pointer (some ⟨Y, 0, none⟩)] w1 fun e w' => e = .returned (.int .i64 tv) ∧ w' = w1
  wd : ∀ a : Nat, a < n → mem.getD a 0 = rwordV tv ck rws wi a
  len : ks.length = rws.length
  vw : ∀ k y, rws[k]? = some y → viewSt mem ks k = y.now ∧ StW y.now

theorem Agree.fr {w w' : World} {P X Y M n : Nat} {mem : List Int} {gap ck tv : Int} {ks : List (StV × Value)} {vK : Value} {rws : List RWard} {wi : List (Int × Int × Int × Int)} {vW vI vD : Value} {nd : Nat} (h : Agree w P X Y M n mem gap ck tv ks vK rws wi vW vI vD nd) (hf : Fr (fun _ => False) w w') : Agree w' P X Y M n mem gap ck tv ks vK rws wi vW vI vD nd :=
  ⟨h.pa.fr hf, h.ke.fr hf, h.ne.fr hf, h.re, h.c0, fun w1 h1 => h.t w1 (hf.step h1 (fun _ h => .inl h)), h.wd, h.len, h.vw⟩

theorem noSt_W : StW noSt := ⟨rfl, by decide, by decide, by decide⟩

theorem pview_any (w : World) (P X Y M n : Nat) (mem : List Int) (gap ck tv : Int) (ks : List (StV × Value)) (vK : Value) (rws : List RWard) (wi : List (Int × Int × Int × Int)) (vW vI vD : Value) (nd : Nat) (h : Agree w P X Y M n mem gap ck tv ks vK rws wi vW vI vD nd) (k : Int) :
    Calls Try.prog 25 #[.pointer (some ⟨P, 0, none⟩), .int .i64 k] w fun e w' => e = .returned (.bool true) ∧ Fr (fun _ => False) w w' := by
  cases hb : hasB rws.length k with
  | false => exact pview_of w P X Y noSt noSt_W k 4 h.pa (kview_no w X M n mem ck ks vK k h.ke (by rw [h.len]; exact hb)) (fun w1 h1 => rview_no w1 Y gap n ck rws wi vW vI vD nd (h.ne.fr h1) k hb)
  | true =>
    simp only [hasB, Bool.and_eq_true, decide_eq_true_eq] at hb
    obtain ⟨i, rfl⟩ := Int.eq_ofNat_of_zero_le hb.1
    have hi : i < rws.length := by omega
    have hv := h.vw i rws[i] (List.getElem?_eq_getElem hi)
    refine pview_of w P X Y rws[i].now hv.2 i 0 h.pa ?_ (fun w1 h1 => rview_yes w1 Y gap n ck rws wi vW vI vD nd (h.ne.fr h1) i hi)
    rw [← hv.1]
    exact kview_yes w X M n mem ck ks vK i h.ke (by rw [h.len]; exact hi)

set_option maxRecDepth 100000 in
set_option maxHeartbeats 4000000 in
theorem looks_no (w : World) (P X Y M n : Nat) (mem : List Int) (gap ck tv : Int) (ks : List (StV × Value)) (vK : Value) (rws : List RWard) (wi : List (Int × Int × Int × Int)) (vW vI vD : Value) (nd : Nat) (h : Agree w P X Y M n mem gap ck tv ks vK rws wi vW vI vD nd) :
    Calls Try.prog 10 #[.pointer (some ⟨P, 0, none⟩), .bool false] w fun e w' => e = .returned (.bool true) ∧ Fr (fun _ => False) w w' := by
  have HA := hid h
  have c0 : w.cell? ⟨P, 0, none⟩ = some (.pointer (some ⟨X, 0, none⟩)) := row_cell h.pa 0
  have c1 : w.cell? ⟨P, 1, none⟩ = some (.pointer (some ⟨Y, 0, none⟩)) := row_cell h.pa 1
  have c5 : w.cell? ⟨Y, 5, none⟩ = some (.int .i64 ck) := row_cell h.ne.hy 5
  have hn := h.ke.h1
  have hr4 := h.re.l
  clear h
  go_enter Try.func10, Try.ntmps10
  go_wp2_with fail
  refine (clock_any w X M n mem ck ks vK HA.out.ke).mono ?_
  rintro e w1 ⟨rfl, rfl⟩
  go_wp2_with fail
  clear c0 c1 c5
  go_loopw [6, 7] (fun a b wr => a = .bool true ∧ ∃ i : Nat, i ≤ n + 2 ∧ b = .int .i64 ((i : Int) - 1) ∧ Fr (fun _ => False) w1 wr) (fun _ b _ => n + 2 - (intOf b + 1).toNat)
  case atStart => exact ⟨rfl, 0, by omega, rfl, Fr.refl _ _⟩
  case round =>
    obtain ⟨rfl, i, hi, rfl, hf⟩ := hrel
    have HB := hid (HA.out.fr hf)
    have HF := hid hf
    have c1 : wr.cell? ⟨P, 1, none⟩ = some (.pointer (some ⟨Y, 0, none⟩)) := row_cell HB.out.pa 1
    have cm : wr.cell? ⟨Y, 1, none⟩ = some (.int .i64 n) := row_cell HB.out.ne.hy 1
    clear hf
    by_cases hlt : i < n + 2
    · have hlti : (i : Int) - 1 ≤ (n : Int) := by omega
      go_wp2_with fail
      refine (pword_any wr P X Y M n mem gap ck tv ks vK rws wi vW vI vD nd HB.out.pa HB.out.ke HB.out.ne HB.out.re HB.out.ke.h1 HB.out.c0 (HB.out.t wr (Fr.refl _ _)) HB.out.wd _).mono ?_
      rintro e w2 ⟨rfl, hf2⟩
      have HF2 := hid (HF.out.step hf2 (fun _ h => .inl h))
      clear hf2
      go_wp2_with fail
      go_roundw
      case rel => exact ⟨rfl, i + 1, by omega, by go_num, HF2.out⟩
      case measure => simp [intOf]; omega
    · have hlti : ¬ ((i : Int) - 1 ≤ (n : Int)) := by omega
      go_wp2_with fail
      clear c1 cm
      go_loopw [6, 9] (fun a b wq => a = .bool true ∧ ∃ j : Nat, j ≤ rws.length + 2 ∧ b = .int .i64 ((j : Int) - 1) ∧ Fr (fun _ => False) w1 wq) (fun _ b _ => rws.length + 2 - (intOf b + 1).toNat)
      case atStart => exact ⟨rfl, 0, by omega, rfl, HF.out⟩
      case round =>
        obtain ⟨rfl, j, hj, rfl, hf⟩ := hrel
        clear HB HF
        have HB := hid (HA.out.fr hf)
        have HF := hid hf
        have c1 : wr.cell? ⟨P, 1, none⟩ = some (.pointer (some ⟨Y, 0, none⟩)) := row_cell HB.out.pa 1
        obtain ⟨a1, q1, hvW⟩ := owns_shape HB.out.ne.ow
        have cw : wr.cell? ⟨Y, 2, none⟩ = some (.slice a1 rws.length q1) := by rw [← hvW]; exact row_cell HB.out.ne.hy 2
        clear hf hvW
        by_cases hlt : j < rws.length + 2
        · have hlti : (j : Int) - 1 ≤ (rws.length : Int) := by omega
          go_wp2_with fail
          refine (pview_any wr P X Y M n mem gap ck tv ks vK rws wi vW vI vD nd HB.out _).mono ?_
          rintro e w2 ⟨rfl, hf2⟩
          have HF2 := hid (HF.out.step hf2 (fun _ h => .inl h))
          clear hf2
          go_wp2_with fail
          go_roundw
          case rel => exact ⟨rfl, j + 1, by omega, by go_num, HF2.out⟩
          case measure => simp [intOf]; omega
        · have hlti : ¬ ((j : Int) - 1 ≤ (rws.length : Int)) := by omega
          go_wp2_with fail
          clear c1 cw
          go_loopw [6, 11] (fun a b wq => a = .bool true ∧ b = .int .i64 (-1) ∧ Fr (fun _ => False) w1 wq) (fun _ _ _ => 0)
          case atStart => exact ⟨rfl, rfl, HF.out⟩
          case round =>
            obtain ⟨rfl, rfl, hf⟩ := hrel
            have HF3 := hid hf
            clear hf HB HF
            go_wp2_with fail
            go_ret
            exact ⟨rfl, HF3.out⟩

end Go.Proofs.Ythmcheoehcmglaa
