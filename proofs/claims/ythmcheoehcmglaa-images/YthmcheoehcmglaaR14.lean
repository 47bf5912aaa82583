/- The reference's Read. -/
import Derived.Test.YthmcheoehcmglaaR13
import Derived.Test.YthmcheoehcmglaaM3
namespace Go.Proofs.Ythmcheoehcmglaa
open Go.RowKit
set_option linter.unusedVariables false
attribute [local go_sem ↓] Go.wp_at_zero Go.wp_at_succ

/-- What is known of an image. -/
structure Img.Is (m : Img) : Prop where
  ok : m.Ok
  w : ∀ x ∈ m.ws, WardGood x
  n1 : 1 ≤ m.ws.length
  wi : ∀ x ∈ m.wi, 0 ≤ x.1 ∧ 0 ≤ x.2
  ow : ∀ o ∈ m.ow, 0 ≤ o

theorem img_of (l : List UInt8) (m : Img) (hm : rimg l = (m, true)) : m.Is := by
  have hok := rimg_ok l
  rw [hm] at hok
  unfold rimg at hm
  simp only [Prod.mk.injEq, Bool.and_eq_true, Bool.not_eq_true'] at hm
  obtain ⟨rfl, hu, _⟩ := hm
  have h3 := ownersN_inv _ _ _ hu
  have h2 := wiresN_inv _ _ _ h3
  have h1 := wardsN_inv _ _ _ h2
  have hh := rhead_inv l h1.1
  refine ⟨hok, h1.2, ?_, wiresN_bd _ _ _, ownersN_bd _ _ _⟩
  simp only [wardsN_len, rhead_good l hh]
  have := hh.n1
  omega

theorem NetAt.wire {w : World} {Y : Nat} {gap mem ck : Int} {rws : List RWard} {wi : List (Int × Int × Int × Int)} {g c : Nat} {vW vD : Value} {nd : Nat} (h : NetAt w Y gap mem ck rws wi vW (.slice (some ⟨g, 0, none⟩) wi.length c) vD nd) (k : Nat) (x : Int × Int × Int × Int) (hx : wi[k]? = some x) (j : Nat) (hj : j < 4) :
    w.cell? ⟨g, k * 4 + j, none⟩ = (rwireCells x)[j]? := by
  have hk : k < wi.length := (List.getElem?_eq_some_iff.1 hx).1
  have e : wi[k] = x := (List.getElem?_eq_some_iff.1 hx).2
  rw [h.iw.cellAt (k * 4 + j) (by omega), flat_getM rwireCells 4 wi (fun y hy => rfl) k j hk hj, e]

def WiresUpto (m : Img) (j : Nat) : Prop := ∀ x ∈ m.wi.take j, wireOk m.ws.length x = true
def SameW (a b : World) : Prop := a = b
def ReadPostR (m : Img) (ok : Bool) (w : World) (e : Ending) (w' : World) : Prop :=
  Fr (fun _ => False) w w' ∧ (mkErr m ok ≠ 0 → e = .returned (.tuple #[.pointer none, .int .i64 (mkErr m ok)])) ∧
    (mkErr m ok = 0 → ∃ Y rws wi vW vI vD, e = .returned (.tuple #[.pointer (some ⟨Y, 0, none⟩), .int .i64 0]) ∧ NetAt w' Y m.gap m.mem 0 rws wi vW vI vD m.ow.length ∧ NetOf m rws wi)

theorem mk1 (m : Img) : mkErr m false = 1 := rfl
theorem mk2 (m : Img) (h : (fitsB m && apartB m) = false) : mkErr m true = 2 := by unfold mkErr; rw [if_neg (by simp), if_pos h]
theorem mk3 (m : Img) (h : (fitsB m && apartB m) = true) (h2 : (wiresB m && devsB m) = false) : mkErr m true = 3 := by unfold mkErr; rw [if_neg (by simp), if_neg (by rw [h]; simp), if_pos h2]
theorem mk0 (m : Img) (h : (fitsB m && apartB m) = true) (h2 : (wiresB m && devsB m) = true) : mkErr m true = 0 := by unfold mkErr; rw [if_neg (by simp), if_neg (by rw [h]; simp), if_neg (by rw [h2]; simp)]

theorem post_no (m : Img) (ok : Bool) (w w' : World) (k : Int) (hf : Fr (fun _ => False) w w') (h : mkErr m ok = k) (hk : k ≠ 0) : ReadPostR m ok w (.returned (.tuple #[.pointer none, .int .i64 k])) w' :=
  ⟨hf, fun _ => by rw [h], fun h0 => absurd (h.symm.trans h0) hk⟩

theorem sum_le (rws : List RWard) (k : Nat) (h : ∀ y ∈ rws, y.devs.length ≤ 8) : ((rws.take k).map (fun y => y.devs.length)).sum ≤ 8 * k := by
  induction k with
  | zero => simp
  | succ k ih =>
    rw [List.take_add_one, List.map_append, List.sum_append]
    cases hy : rws[k]? with
    | none => simp only [Option.toList_none, List.map_nil, List.sum_nil]; omega
    | some y =>
      have := h y (List.mem_of_getElem? hy)
      simp only [Option.toList_some, List.map_cons, List.map_nil, List.sum_cons, List.sum_nil]; omega

set_option maxRecDepth 100000 in
set_option maxHeartbeats 8000000 in
theorem rRead_any (s : ByteArray) (hs : s.size ≤ maxLen) (w : World) (m : Img) (ok : Bool) (E : Hid (rimg s.data.toList = (m, ok))) :
    Calls Try.prog 8 #[.string s] w fun e w' => ReadPostR m ok w e w' := by
  go_enter Try.func8, Try.ntmps8
  go_wp2_with fail
  refine (rread_core s hs w _ rfl).mono ?_
  rintro e w1 ⟨Y, rfl, hf1, hyes⟩
  have HYES := hid hyes
  have HF1 := hid hf1
  rw [E.out] at HYES ⊢
  clear hyes hf1
  cases ok with
  | false =>
    go_wp2_with fail
    go_ret2
    exact post_no m false w w1 1 HF1.out rfl (by omega)
  | true =>
    have HIS := hid (img_of _ m E.out)
    obtain ⟨rws, wi, vW, vI, vD, hN, hO⟩ := HYES.out rfl
    have HNA := hid hN
    have HO := hid hO
    have HRO := hid (regs_ok m HIS.out.ok HIS.out.w rws wi hO)
    clear hN hO HYES
    go_wp2_with fail
    refine (laid_any w1 Y m.gap m.mem 0 rws wi vW vI vD m.ow.length HNA.out HRO.out.1 HIS.out.ok.m1 HRO.out.2).mono ?_
    rintro e w2 ⟨rfl, hf2⟩
    have HF2 := hid (HF1.out.step hf2 (fun _ h => .inl h))
    have HNB := hid (HNA.out.fr hf2)
    rw [laid_eq m rws wi HO.out]
    clear hf2 HNA HF1
    cases hl : (fitsB m && apartB m) with
    | false =>
      go_wp2_with fail
      go_ret2
      exact post_no m true w w2 2 HF2.out (mk2 m hl) (by omega)
    | true =>
      have HL := hid hl
      have hrl := key_len HO.out.key
      have hwl : wi.length = m.wi.length := by rw [HO.out.wi]; simp
      have hn4 := HIS.out.ok.l
      have hli := HIS.out.ok.li
      have hlo := HIS.out.ok.lo
      have hn1 := HIS.out.n1
      obtain ⟨gW, cW, hvW⟩ : ∃ g c, vW = .slice (some ⟨g, 0, none⟩) rws.length c := by
        obtain ⟨g, c, h, _⟩ := HNB.out.ow.form (by omega)
        exact ⟨g, c, h⟩
      subst hvW
      obtain ⟨aI, cI, hvI⟩ := owns_shape HNB.out.iw
      subst hvI
      obtain ⟨csD, hcsD⟩ := HNB.out.dv
      obtain ⟨aD, cD, hvD⟩ := owns_shape hcsD
      subst hvD
      have c2 : w2.cell? ⟨Y, 2, none⟩ = some (.slice (some ⟨gW, 0, none⟩) rws.length cW) := row_cell HNB.out.hy 2
      have HRL := hid hrl
      have HWL := hid hwl
      have hr4 : rws.length ≤ 4 := by omega
      have hw8 : wi.length ≤ 8 := by omega
      clear hl hcsD hrl hwl
      go_wp2_with fail
      clear c2
      go_loopw [7] (fun b wq => ∃ j : Nat, j ≤ wi.length ∧ b = .int .i64 j ∧ WiresUpto m j ∧ Fr (fun _ => False) w2 wq) (fun b _ => wi.length - (intOf b).toNat)
      case atStart => exact ⟨0, Nat.zero_le _, rfl, by simp [WiresUpto], Fr.refl _ _⟩
      case round =>
        obtain ⟨j, hj, rfl, hall, hfr⟩ := hrel
        have HALL := hid hall
        have HFR := hid hfr
        have HNC := hid (HNB.out.fr hfr)
        have c3 : wr.cell? ⟨Y, 3, none⟩ = some (.slice aI wi.length cI) := row_cell HNC.out.hy 3
        clear hall hfr
        by_cases hlt : j < wi.length
        · have hlti : (j : Int) < (wi.length : Int) := by omega
          obtain ⟨x, hx⟩ : ∃ x, m.wi[j]? = some x := ⟨_, List.getElem?_eq_getElem (by have := HWL.out; omega)⟩
          have hxw : wi[j]? = some (x.1, x.2, 0, 0) := by rw [HO.out.wi, List.getElem?_map, hx]; rfl
          obtain ⟨gI, cI', hvI⟩ : ∃ g c, Value.slice aI wi.length cI = .slice (some ⟨g, 0, none⟩) wi.length c := by
            obtain ⟨g, c, h, _⟩ := HNC.out.iw.form (by omega)
            exact ⟨g, c, h⟩
          have hNC := HNC.out
          rw [hvI] at c3 hNC
          have d0 : wr.cell? ⟨gI, j * 4, none⟩ = some (.int .i64 x.1) := hNC.wire j _ hxw 0 (by omega)
          have d1 : wr.cell? ⟨gI, j * 4 + 1, none⟩ = some (.int .i64 x.2) := hNC.wire j _ hxw 1 (by omega)
          have d2 : wr.cell? ⟨gI, j * 4 + 2, none⟩ = some (.int .i64 0) := hNC.wire j _ hxw 2 (by omega)
          have d3 : wr.cell? ⟨gI, j * 4 + 3, none⟩ = some (.int .i64 0) := hNC.wire j _ hxw 3 (by omega)
          have hx0 := HIS.out.wi x (List.mem_of_getElem? hx)
          have HX := hid hx
          have HNO : Hid (wireOk m.ws.length x = false → (wiresB m && devsB m) = false) := by
            intro h
            have : wiresB m = false := by
              unfold wiresB
              rw [List.all_eq_false]
              exact ⟨x, List.mem_of_getElem? HX.out, by simp [h]⟩
            rw [this]; rfl
          clear hNC hx hxw hvI
          obtain ⟨x1, x2⟩ := x
          simp only at d0 d1 hx0
          by_cases h1 : (rws.length : Int) ≤ x1
          · have HB := hid (HNO.out (by have := HRL.out; simp [wireOk, hasB]; omega))
            go_wp2_with fail
            go_ret2
            exact post_no m true w _ 3 (((HF2.out.step HFR.out (fun _ h => .inl h)).alloc _)) (mk3 m HL.out HB.out) (by omega)
          · by_cases h2 : (rws.length : Int) ≤ x2
            · have HB := hid (HNO.out (by have := HRL.out; simp [wireOk, hasB]; omega))
              go_wp2_with fail
              go_ret2
              exact post_no m true w _ 3 (((HF2.out.step HFR.out (fun _ h => .inl h)).alloc _)) (mk3 m HL.out HB.out) (by omega)
            · by_cases h3 : x1 = x2
              · have HB := hid (HNO.out (by have := HRL.out; simp [wireOk, hasB]; omega))
                go_wp2_with fail
                go_ret2
                exact post_no m true w _ 3 (((HF2.out.step HFR.out (fun _ h => .inl h)).alloc _)) (mk3 m HL.out HB.out) (by omega)
              · have HG : Hid (wireOk m.ws.length (x1, x2) = true) := by have := HRL.out; unfold Hid; simp [wireOk, hasB]; omega
                go_wp2_with fail
                go_roundw
                case rel =>
                  refine ⟨j + 1, by omega, by go_num, ?_, HFR.out.alloc _⟩
                  intro y hy
                  rw [List.take_add_one, HX.out] at hy
                  rcases List.mem_append.1 hy with hy | hy
                  · exact HALL.out y hy
                  · simp only [Option.toList_some, List.mem_singleton] at hy
                    rw [hy]; exact HG.out
                case measure => simp [intOf]; omega
        · have hjw : j = wi.length := by omega
          have hlti : ¬ ((j : Int) < (wi.length : Int)) := by omega
          have HWB : Hid (wiresB m = true) := by
            unfold wiresB Hid
            rw [List.all_eq_true]
            intro x hx
            exact HALL.out x (by rw [hjw, HWL.out, List.take_length]; exact hx)
          go_wp2_with fail
          go_loopw [9, 10] (fun a b wq => ∃ k : Nat, k ≤ rws.length ∧ b = .int .i64 k ∧ a = .int .i64 (((rws.take k).map (fun y => y.devs.length)).sum : Nat) ∧ SameW wq wr) (fun _ b _ => rws.length - (intOf b).toNat)
          case atStart => exact ⟨0, Nat.zero_le _, rfl, rfl, rfl⟩
          case round =>
            obtain ⟨k, hk, rfl, rfl, hwq⟩ := hrel
            have hwq : _ = _ := hwq
            subst hwq
            have hS := sum_le rws k (fun y hy => by
              obtain ⟨i, hi, rfl⟩ := List.getElem_of_mem hy
              rw [HO.out.dev i _ (List.getElem?_eq_getElem hi)]
              exact Nat.le_trans (devsN_len _ _ _) hlo)
            have c2 : wr.cell? ⟨Y, 2, none⟩ = some (.slice (some ⟨gW, 0, none⟩) rws.length cW) := row_cell HNC.out.hy 2
            have c4 : wr.cell? ⟨Y, 4, none⟩ = some (.slice aD m.ow.length cD) := row_cell HNC.out.hy 4
            clear c3 hlti hlt
            by_cases hlt : k < rws.length
            · have hlti : (k : Int) < (rws.length : Int) := by omega
              obtain ⟨y, hy⟩ : ∃ y, rws[k]? = some y := ⟨_, List.getElem?_eq_getElem hlt⟩
              obtain ⟨a5, q5, hy5⟩ := owns_shape (HNC.out.dr y (List.mem_of_getElem? hy))
              have cV : wr.cell? ⟨gW, k * 29 + 2, none⟩ = some (.slice a5 y.devs.length q5) := by rw [← hy5]; exact (ward_regs _ _ _ _ _ _ _ _ _ _ _ _ HNC.out k y hy).2
              have HSS : Hid (((rws.take (k + 1)).map (fun y => y.devs.length)).sum = ((rws.take k).map (fun y => y.devs.length)).sum + y.devs.length) := by
                unfold Hid
                rw [List.take_add_one, hy, List.map_append, List.sum_append]
                rfl
              have hyd : y.devs.length ≤ 8 := by
                rw [HO.out.dev k y hy]
                exact Nat.le_trans (devsN_len _ _ _) hlo
              generalize hSe : ((rws.take k).map (fun y => y.devs.length)).sum = S at *
              clear hy hy5 hSe
              go_wp2_with fail
              go_roundw
              case rel => exact ⟨k + 1, by omega, by go_num, by rw [HSS.out]; go_num, rfl⟩
              case measure => simp [intOf]; omega
            · have hke : k = rws.length := by omega
              have hlti : ¬ ((k : Int) < (rws.length : Int)) := by omega
              have hrl := HRL.out
              have HDE := hid (devs_eq m HIS.out.ow rws wi HO.out)
              rw [hke, List.take_length] at hS ⊢
              generalize ((rws.map (fun y => y.devs.length)).sum) = S at *
              subst hke
              by_cases he : S = m.ow.length
              · have hei : (S : Int) = (m.ow.length : Int) := by omega
                have HDB := hid (HDE.out.1 he)
                have H0 := hid (mk0 m HL.out (by rw [HWB.out, HDB.out]; rfl))
                clear HDE HDB HWB
                go_wp2_with fail
                go_ret2
                exact ⟨HF2.out.step HFR.out (fun _ h => .inl h), fun h => absurd H0.out h, fun _ => ⟨Y, rws, wi, _, _, _, rfl, HNC.out, HO.out⟩⟩
              · have hei : ¬ ((S : Int) = (m.ow.length : Int)) := by omega
                have HDB : Hid (devsB m = false) := by
                  cases h : devsB m with
                  | false => exact rfl
                  | true => exact absurd (HDE.out.2 h) he
                have H3 := hid (mk3 m HL.out (by rw [HWB.out, HDB.out]; rfl))
                clear HDE HDB HWB
                go_wp2_with fail
                go_ret2
                exact post_no m true w _ 3 (HF2.out.step HFR.out (fun _ h => .inl h)) H3.out (by omega)

end Go.Proofs.Ythmcheoehcmglaa
