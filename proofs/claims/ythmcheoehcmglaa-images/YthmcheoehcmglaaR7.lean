/- The reference's Word: the words of the regions; Word as a whole. -/
import Derived.Test.YthmcheoehcmglaaR6
namespace Go.Proofs.Ythmcheoehcmglaa
open Go.RowKit
set_option linter.unusedVariables false
attribute [local go_sem ↓] Go.wp_at_zero Go.wp_at_succ

theorem findW_skip (A B : List RReg) (a : Int) (h : ∀ r ∈ A, inReg a r = false) : findW (A ++ B) a = findW B a := by
  unfold findW
  rw [List.find?_append]
  have : A.find? (inReg a) = none := by simpa [List.find?_eq_none] using h
  rw [this]
  simp
theorem findW_hit (r : RReg) (B : List RReg) (a : Int) (h : inReg a r = true) : findW (r :: B) a = regWord a r := by
  unfold findW
  rw [List.find?_cons_of_pos h]
  rfl
theorem flat_take {α β : Type} (f : α → List β) (xs : List α) (k : Nat) (x : α) (hx : xs[k]? = some x) : xs.flatMap f = (xs.take k).flatMap f ++ (f x ++ (xs.drop (k + 1)).flatMap f) := by
  have hk : k < xs.length := (List.getElem?_eq_some_iff.1 hx).1
  have e : xs[k] = x := (List.getElem?_eq_some_iff.1 hx).2
  conv => lhs; rw [← List.take_append_drop k xs, List.drop_eq_getElem_cons hk, e]
  simp
theorem split_at {α : Type} (xs : List α) (k : Nat) (x : α) (hx : xs[k]? = some x) : xs = xs.take k ++ x :: xs.drop (k + 1) := by
  have hk : k < xs.length := (List.getElem?_eq_some_iff.1 hx).1
  have e : xs[k] = x := (List.getElem?_eq_some_iff.1 hx).2
  conv => lhs; rw [← List.take_append_drop k xs, List.drop_eq_getElem_cons hk, e]
theorem take_snoc_mem {α : Type} {P : α → Prop} (xs : List α) (k : Nat) (x : α) (hx : xs[k]? = some x) (h : ∀ y ∈ xs.take k, P y) (hp : P x) : ∀ y ∈ xs.take (k + 1), P y := by
  have hk : k < xs.length := (List.getElem?_eq_some_iff.1 hx).1
  have e : xs[k] = x := (List.getElem?_eq_some_iff.1 hx).2
  intro y hy
  rw [List.take_succ_eq_append_getElem hk, e] at hy
  rcases List.mem_append.1 hy with hy | hy
  · exact h y hy
  · rw [List.mem_singleton.1 hy]; exact hp

theorem ward_regs (w : World) (Y : Nat) (gap mem ck : Int) (rws : List RWard) (wi : List (Int × Int × Int × Int)) (g c : Nat) (vI vD : Value) (nd : Nat) (h : NetAt w Y gap mem ck rws wi (.slice (some ⟨g, 0, none⟩) rws.length c) vI vD nd) (k : Nat) (y : RWard) (hy : rws[k]? = some y) :
    w.cell? ⟨g, k * 29 + 1, none⟩ = some y.vR ∧ w.cell? ⟨g, k * 29 + 2, none⟩ = some y.vD := by
  have hk : k < rws.length := (List.getElem?_eq_some_iff.1 hy).1
  have e : rws[k] = y := (List.getElem?_eq_some_iff.1 hy).2
  exact ⟨by rw [h.now k hk 1 (by omega), e]; rfl, by rw [h.now k hk 2 (by omega), e]; rfl⟩

set_option maxRecDepth 100000 in
set_option maxHeartbeats 4000000 in
theorem rword_reg (w : World) (Y : Nat) (gap mem ck tv : Int) (rws : List RWard) (wi : List (Int × Int × Int × Int)) (vW vI vD : Value) (nd : Nat) (h : NetAt w Y gap mem ck rws wi vW vI vD nd) (hr : RegsOk rws wi.length) (hm : mem ≤ 100000)
    (a : Int) (ha : a < mem) (h0 : 16 * (1 + (rws.length : Int)) + 2 * wi.length ≤ a) :
    Calls Try.prog 47 #[.pointer (some ⟨Y, 0, none⟩), .int .i64 a] w fun e w' => e = .returned (.tuple #[.int .i64 (findW (rws.flatMap (·.regs)) a), .int .i64 0]) ∧ Fr (fun _ => False) w w' := by
  have HH := hid h
  have HR := hid hr
  have c1 : w.cell? ⟨Y, 1, none⟩ = some (.int .i64 mem) := row_cell h.hy 1
  obtain ⟨a1, q1, rfl⟩ := owns_shape h.ow
  have c2 : w.cell? ⟨Y, 2, none⟩ = some (.slice a1 rws.length q1) := row_cell h.hy 2
  have hrl := hr.l
  have hrli := hr.li
  have e0 : 0 ≤ a := by omega
  have e1 : ¬ a = 0 := by omega
  have e2 : ¬ a = 1 := by omega
  have e3 : ¬ a < 16 := by omega
  have e4 : ¬ a < 16 * (1 + (rws.length : Int)) := by omega
  have e5 : ¬ mem ≤ a := by omega
  have e6 : ¬ a < 16 * (1 + (rws.length : Int)) + 2 * (wi.length : Int) := by omega
  clear h hr
  go_enter Try.func47, Try.ntmps47
  go_wp2_with fail
  refine (rkernel_any w Y _ _ _ _ _ _ _ _ _ HH.out HR.out.l HR.out.li).mono ?_
  rintro e w1 ⟨rfl, n, hn⟩
  have HF : Hid (Fr (fun _ => False) w w1) := by rw [hn]; exact (Fr.refl _ w).drewN n
  clear hn c1 c2
  go_wp2_with fail
  clear e1 e2 e3 e4 e5 e6
  go_loopw [8] (fun i wr => ∃ k : Nat, k ≤ rws.length ∧ i = .int .i64 k ∧ (∀ y ∈ rws.take k, ∀ r ∈ y.regs, inReg a r = false) ∧ Fr (fun _ => False) w wr) (fun i _ => rws.length - (intOf i).toNat)
  case atStart => exact ⟨0, Nat.zero_le _, rfl, by simp, HF.out⟩
  case round =>
    obtain ⟨k, hk, rfl, hno, hF⟩ := hrel
    have hP := HH.out.fr hF
    have c2 : wr.cell? ⟨Y, 2, none⟩ = some (.slice a1 rws.length q1) := row_cell hP.hy 2
    have HNO := hid hno
    have HFr := hid hF
    clear hno hF
    by_cases hlt : k < rws.length
    · obtain ⟨y, hy⟩ : ∃ y, rws[k]? = some y := ⟨_, List.getElem?_eq_getElem hlt⟩
      have hym := List.mem_of_getElem? hy
      obtain ⟨gv, cp, hv, -, hgl⟩ := hP.ow.form (by omega)
      simp only [Value.slice.injEq] at hv
      obtain ⟨rfl, -, rfl⟩ := hv
      have hvr := (ward_regs _ _ _ _ _ _ _ _ _ _ _ _ hP k y hy).1
      obtain ⟨a3, q3, ea⟩ := owns_shape (hP.rg y hym).1.own
      rw [ea] at hvr
      have HY := hid hy
      have HYM := hid hym
      have hki : (k : Int) < (rws.length : Int) := by omega
      have hy3 := HR.out.c y hym
      clear hP hy hym
      go_wp2_with fail
      go_loopw [9] (fun i wq => ∃ j : Nat, j ≤ y.regs.length ∧ i = .int .i64 j ∧ (∀ r ∈ y.regs.take j, inReg a r = false) ∧ Fr (fun _ => False) w wq) (fun i _ => y.regs.length - (intOf i).toNat)
      case atStart => exact ⟨0, Nat.zero_le _, rfl, by simp, HFr.out⟩
      case round =>
        obtain ⟨j, hj, rfl, hno2, hFq⟩ := hrel
        have hP := HH.out.fr hFq
        have c2' : wr.cell? ⟨Y, 2, none⟩ = some (.slice (some ⟨gv, 0, none⟩) rws.length q1) := row_cell hP.hy 2
        have hvr' := (ward_regs _ _ _ _ _ _ _ _ _ _ _ _ hP k y HY.out).1
        rw [ea] at hvr'
        have hreg := (hP.rg y HYM.out).1
        have HP := hid hP
        have HNO2 := hid hno2
        have HFq := hid hFq
        clear hno2 hFq hP c2 hvr
        by_cases hjl : j < y.regs.length
        · obtain ⟨r, hrj⟩ : ∃ r, y.regs[j]? = some r := ⟨_, List.getElem?_eq_getElem hjl⟩
          have hrm := List.mem_of_getElem? hrj
          have hb := HR.out.r y HYM.out r hrm
          have hblk := (hreg.blk r hrm).1
          have ho := hreg.own
          rw [ea] at ho
          obtain ⟨gr, cr, hv, -, -⟩ := ho.form (by omega)
          simp only [Value.slice.injEq] at hv
          obtain ⟨rfl, -, rfl⟩ := hv
          have hcell : ∀ c', c' < 5 → wr.cell? ⟨gr, j * 5 + c', none⟩ = (rrCells r)[c']? := by
            intro c' hc'
            rw [ho.cellAt (j * 5 + c') (by omega), flat_get rrCells 5 (fun _ => rfl) y.regs j c' hjl hc']
            rw [List.getElem?_eq_getElem hjl] at hrj
            rw [Option.some.inj hrj]
          have d0 : wr.cell? ⟨gr, j * 5, none⟩ = some (.int .i64 r.r.1) := hcell 0 (by omega)
          have d1 : wr.cell? ⟨gr, j * 5 + 1, none⟩ = some (.int .i64 r.r.2.1) := hcell 1 (by omega)
          have d2 : wr.cell? ⟨gr, j * 5 + 2, none⟩ = some (.int .i64 r.r.2.2.1) := hcell 2 (by omega)
          have d3 : wr.cell? ⟨gr, j * 5 + 3, none⟩ = some (.int .i64 r.r.2.2.2) := hcell 3 (by omega)
          have d4 : wr.cell? ⟨gr, j * 5 + 4, none⟩ = some (.slice (some ⟨r.g, 0, none⟩) r.ws.length r.ws.length) := hcell 4 (by omega)
          have hjl' : (j : Int) < (y.regs.length : Int) := by omega
          have HRJ := hid hrj
          obtain ⟨b1, b2, b3, b4, b5, b6, b7⟩ := hb
          have hgs := lt_of_get hblk
          have hne : ¬ r.g = wr.heap.size := by omega
          clear hcell ho hreg hrj hrm ea
          by_cases hin : r.r.2.2.1 ≤ a
          · by_cases hin2 : a < r.r.2.2.1 + r.r.2.1
            · have HV : Hid (findW (rws.flatMap (·.regs)) a = regWord a r) := by
                unfold Hid
                rw [flat_take (fun y : RWard => y.regs) rws k y HY.out, findW_skip _ _ _ (fun r' hr' => by
                  obtain ⟨y', hy', hr''⟩ := List.mem_flatMap.1 hr'
                  exact HNO.out y' hy' r' hr'')]
                have e := split_at y.regs j r HRJ.out
                rw [e, List.append_assoc, findW_skip _ _ _ HNO2.out, List.cons_append, findW_hit _ _ _ (by simp [inReg, hin, hin2])]
              obtain ⟨p, hp⟩ := Int.eq_ofNat_of_zero_le (show 0 ≤ a - r.r.2.2.1 by omega)
              have hpl : p < r.ws.length := by omega
              have hpl' : (p : Int) < (r.ws.length : Int) := by omega
              have cw : wr.cell? ⟨r.g, p, none⟩ = some (.int .i64 (regWord a r)) := by
                rw [row_cell hblk]
                simp only [regWord, hp, Int.toNat_natCast, intCells, List.getElem?_toArray, List.getElem?_map, List.getElem?_eq_getElem hpl, Option.map_some, List.getD_eq_getElem?_getD, Option.getD_some]
              clear hblk
              go_wp2_with fail
              go_ret2
              exact ⟨by rw [HV.out]; rfl, HFq.out.alloc _⟩
            · have hin3 : r.r.2.2.1 + r.r.2.1 ≤ a := by omega
              clear hblk
              go_wp2_with fail
              go_roundw
              case rel => exact ⟨j + 1, by omega, by go_num, take_snoc_mem _ _ _ HRJ.out HNO2.out (by simp [inReg]; omega), HFq.out.alloc _⟩
              case measure => simp [intOf]; omega
          · have hin3 : a < r.r.2.2.1 := by omega
            clear hblk
            go_wp2_with fail
            go_roundw
            case rel => exact ⟨j + 1, by omega, by go_num, take_snoc_mem _ _ _ HRJ.out HNO2.out (by simp [inReg]; omega), HFq.out.alloc _⟩
            case measure => simp [intOf]; omega
        · obtain rfl : j = y.regs.length := by omega
          clear hreg
          go_wp2_with fail
          go_roundw
          case rel =>
            refine ⟨k + 1, by omega, by go_num, take_snoc_mem _ _ _ HY.out HNO.out ?_, HFq.out⟩
            have := HNO2.out
            rwa [List.take_length] at this
          case measure => simp [intOf]; omega
    · obtain rfl : k = rws.length := by omega
      clear hP
      go_wp2_with fail
      go_ret2
      refine ⟨?_, HFr.out⟩
      have : findW (rws.flatMap (·.regs)) a = 0 := by
        have h2 := findW_skip (rws.flatMap (·.regs)) [] a (fun r' hr' => by
          obtain ⟨y', hy', hr''⟩ := List.mem_flatMap.1 hr'
          have := HNO.out
          rw [List.take_length] at this
          exact this y' hy' r' hr'')
        rw [List.append_nil] at h2
        rw [h2]
        rfl
      rw [this]
      rfl

theorem rword_any (w : World) (Y : Nat) (gap mem ck tv : Int) (rws : List RWard) (wi : List (Int × Int × Int × Int)) (vW vI vD : Value) (nd : Nat) (h : NetAt w Y gap mem ck rws wi vW vI vD nd) (hr : RegsOk rws wi.length) (hm : mem ≤ 100000) (hk0 : 0 ≤ ck)
    (hT : Calls Try.prog 68 #[.pointer (some ⟨Y, 0, none⟩)] w fun e w' => e = .returned (.int .i64 tv) ∧ w' = w) (a : Nat) (ha : (a : Int) < mem) :
    Calls Try.prog 47 #[.pointer (some ⟨Y, 0, none⟩), .int .i64 a] w fun e w' => e = .returned (.tuple #[.int .i64 (rwordV tv ck rws wi a), .int .i64 0]) ∧ Fr (fun _ => False) w w' := by
  by_cases h1 : a < 16
  · exact rword_low w Y gap mem ck tv rws wi vW vI vD nd h hk0 hr.l hT a ha h1
  · by_cases h2 : a < 16 * (1 + rws.length)
    · have hk : a / 16 - 1 < rws.length := by omega
      have e := rwordV_area tv ck rws wi (a / 16 - 1) (a % 16) hk (by omega)
      rw [show 16 * (a / 16 - 1 + 1) + a % 16 = a by omega] at e
      rw [e]
      exact rword_area w Y gap mem ck tv rws wi vW vI vD nd h hr.l _ _ hk (by omega) _ (by omega) ha
    · by_cases h3 : a < 16 * (1 + rws.length) + 2 * wi.length
      · have hk : (a - 16 * (1 + rws.length)) / 2 < wi.length := by omega
        have key := rword_cell w Y gap mem ck tv rws wi vW vI vD nd h hr.l hr.li ((a - 16 * (1 + rws.length)) / 2) ((a - 16 * (1 + rws.length)) % 2) hk (by omega) a (by omega) ha _ (List.getElem?_eq_getElem hk)
        have e : rwordV tv ck rws wi a = if (a - 16 * (1 + rws.length)) % 2 = 0 then (wi[(a - 16 * (1 + rws.length)) / 2]).2.2.1 else (wi[(a - 16 * (1 + rws.length)) / 2]).2.2.2 := by
          unfold rwordV
          rw [if_neg (by omega), if_neg (by omega), if_neg (by omega), if_neg (by omega), if_pos h3]
          simp only [List.getD_eq_getElem?_getD, List.getElem?_eq_getElem hk, Option.getD_some]
        rw [e]
        exact key
      · have e : rwordV tv ck rws wi a = findW (rws.flatMap (·.regs)) a := by
          unfold rwordV
          rw [if_neg (by omega), if_neg (by omega), if_neg (by omega), if_neg (by omega), if_neg (by omega)]
        rw [e]
        exact rword_reg w Y gap mem ck tv rws wi vW vI vD nd h hr hm a ha (by omega)

end Go.Proofs.Ythmcheoehcmglaa
