/- What the net and the machine say of one image: the same. -/
import Derived.Test.YthmcheoehcmglaaGreatR12
import Derived.Test.YthmcheoehcmglaaGreatN5
import Derived.Test.YthmcheoehcmglaaGreatR13
import Derived.Test.YthmcheoehcmglaaGreatR9
import Derived.Test.YthmcheoehcmglaaGreatK2
import Derived.BigQuiet
import Derived.Test.YthmcheoehcmglaaGreatQ2
namespace Go.Proofs.YthmcheoehcmglaaGreat
open Go.RowKit
set_option linter.unusedVariables false

theorem findW_P (L : List RReg) (a : Int) : findW L a = findP (L.map (fun r => (r.r, r.ws))) a := by
  unfold findW findP
  rw [List.find?_map]
  simp only [Option.map_map]
  rfl

theorem flat_regs : ∀ (rws : List RWard) (ws : List WardV), rws.map rkey = ws.map wkey → (rws.flatMap (·.regs)).map (fun r => (r.r, r.ws)) = ws.flatMap wregs := by
  intro rws
  induction rws with
  | nil => intro ws h; cases ws with
    | nil => rfl
    | cons x ws => simp at h
  | cons y rws ih =>
    intro ws h
    cases ws with
    | nil => simp at h
    | cons x ws =>
      simp only [List.map_cons, List.cons.injEq] at h
      simp only [List.flatMap_cons, List.map_append, ih ws h.2]
      congr 1
      have h1 := h.1
      simp only [rkey, wkey, Prod.mk.injEq] at h1
      unfold wregs
      rw [← h1.2.2.2.2, ← h1.2.2.2.1]
      exact (List.zip_map' ..).symm

theorem key_len {rws : List RWard} {ws : List WardV} (h : rws.map rkey = ws.map wkey) : rws.length = ws.length := by
  have := congrArg List.length h
  simpa using this
theorem key_at {rws : List RWard} {ws : List WardV} (h : rws.map rkey = ws.map wkey) (k : Nat) (y : RWard) (x : WardV) (hy : rws[k]? = some y) (hx : ws[k]? = some x) : rkey y = wkey x := by
  have := congrArg (fun l => l[k]?) h
  simp only [List.getElem?_map, hy, hx, Option.map_some, Option.some.injEq] at this
  exact this

theorem saved_words (bg : Int) (i : Nat) : savedN (st0 bg) i = (stWords (st0 bg)).getD i 0 := by
  unfold savedN stWords st0 yWord
  match i with
  | 0 | 1 | 2 | 3 | 4 | 5 | 6 | 7 | 8 | 9 | 10 | 11 | 12 => rfl
  | n + 13 => rfl

/-- THE WORDS: the machine's memory is what the net tells. -/
theorem mem_word (m : Img) (h : m.Good) (rws : List RWard) (wi : List (Int × Int × Int × Int)) (hN : NetOf m rws wi) (a : Nat) : (memN m m.ws.length).getD a 0 = rwordV 0 0 rws wi a := by
  have hl := key_len hN.key
  have hwl : wi.length = m.wi.length := by rw [hN.wi]; simp
  unfold rwordV
  rw [hl, hwl]
  by_cases hK : a < 16 + 16 * m.ws.length + 2 * m.wi.length
  · rw [mem_lo m h a hK _ (Nat.le_refl _)]
    by_cases h16 : a < 16
    · rw [if_neg (by omega)]
      split
      · rfl
      · split <;> rfl
    · rw [if_neg (c := a = 0) (by omega), if_neg (c := a = 1) (by omega), if_neg h16]
      by_cases hA : a < 16 * (1 + m.ws.length)
      · rw [if_pos hA, if_pos (by omega)]
        have hk : a / 16 - 1 < m.ws.length := by omega
        have hx : m.ws[a / 16 - 1]? = some m.ws[a / 16 - 1] := List.getElem?_eq_getElem hk
        have hy : rws[a / 16 - 1]? = some rws[a / 16 - 1] := List.getElem?_eq_getElem (by omega)
        have key := key_at hN.key _ _ _ hy hx
        rw [hx, hy]
        simp only [Option.map_some, Option.getD_some]
        simp only [rkey, wkey, Prod.mk.injEq] at key
        rw [key.2.2.1, saved_words]
      · rw [if_neg hA, if_neg (by omega), if_pos (by omega)]
        have hz : ∀ j, (wi.getD j (0, 0, 0, 0)).2.2.1 = 0 ∧ (wi.getD j (0, 0, 0, 0)).2.2.2 = 0 := by
          intro j
          rw [hN.wi, List.getD_eq_getElem?_getD, List.getElem?_map]
          cases m.wi[j]? <;> exact ⟨rfl, rfl⟩
        split
        · exact (hz _).1.symm
        · exact (hz _).2.symm
  · rw [mem_hi m h a (by omega) _ (Nat.le_refl _), if_neg (c := a = 0) (by omega), if_neg (c := a = 1) (by omega), if_neg (c := a < 16) (by omega), if_neg (by omega), if_neg (by omega), findW_P, flat_regs _ _ hN.key, List.take_of_length_le (Nat.le_refl _)]

/-- THE VIEWS: a kernel that has not run. -/
theorem view_boot (m : Img) (h : m.Good) (xs : List (WardV × Value × Value)) (hxs : xs.map (·.1) = m.ws) (k : Nat) (x : WardV) (hx : m.ws[k]? = some x) : viewSt (memN m m.ws.length) (kws xs) k = st0 x.bg := by
  have hk : k < m.ws.length := (List.getElem?_eq_some_iff.1 hx).1
  unfold viewSt
  split
  · have : (kws xs)[k]?.map (·.1) = some (st0 x.bg) := by
      unfold kws
      have e := congrArg (fun l => l[k]?) hxs
      simp only [List.getElem?_map, hx] at e
      cases hq : xs[k]? with
      | none => rw [hq] at e; cases e
      | some q =>
        rw [hq] at e
        simp only [Option.map_some, Option.some.injEq] at e
        simp only [List.getElem?_map, hq, Option.map_some, e]
    rw [List.getD_eq_getElem?_getD]
    cases hq : (kws xs)[k]? with
    | none => rw [hq] at this; cases this
    | some q =>
      rw [hq] at this
      simp only [Option.map_some, Option.some.injEq] at this
      simp only [Option.getD_some, this]
  · have hlen := memN_len m h.f _ (Nat.le_refl _)
    have hkern := h.f.kern
    have hw : ∀ j, j < 16 → (memN m m.ws.length).getD (16 + 16 * k + j) 0 = (stWords (st0 x.bg)).getD j 0 := by
      intro j hj
      rw [mem_lo m h _ (by omega) _ (Nat.le_refl _), if_pos (by omega), show (16 + 16 * k + j) / 16 - 1 = k by omega, hx, show (16 + 16 * k + j) % 16 = j by omega]
      rfl
    unfold loadSt
    rw [hw 8 (by omega), hw 9 (by omega), hw 10 (by omega), hw 11 (by omega), hw 12 (by omega)]
    have hr : ((memN m m.ws.length).drop (16 + 16 * k)).take 8 = [0, 0, 0, 0, 0, 0, 0, 0] := by
      apply List.ext_getElem
      · simp; omega
      · intro j h1 h2
        have hj : j < 8 := by simpa using h2
        have := hw j (by omega)
        rw [List.getElem_take, List.getElem_drop]
        rw [List.getD_eq_getElem?_getD, List.getElem?_eq_getElem (by omega)] at this
        simp only [Option.getD_some] at this
        rw [this]
        match j, hj with
        | 0, _ | 1, _ | 2, _ | 3, _ | 4, _ | 5, _ | 6, _ | 7, _ => rfl
    rw [hr]
    rfl

/-- THE ERROR: laid. -/
theorem laid_eq (m : Img) (rws : List RWard) (wi : List (Int × Int × Int × Int)) (hN : NetOf m rws wi) : laidB rws wi.length m.mem = (fitsB m && apartB m) := by
  have hl := key_len hN.key
  have hwl : wi.length = m.wi.length := by rw [hN.wi]; simp
  have hregs : (wsOf rws).map (·.regs) = m.ws.map (·.regs) := by
    have := congrArg (List.map (fun t => t.2.2.2.1)) hN.key
    simp only [List.map_map] at this
    unfold wsOf
    rw [List.map_map]
    exact this
  unfold laidB fitsB apartB
  rw [hl, hwl, ownedN_congr _ _ hregs]

theorem regs_ok (m : Img) (hm : m.Ok) (hg : ∀ x ∈ m.ws, WardGood x) (rws : List RWard) (wi : List (Int × Int × Int × Int)) (hN : NetOf m rws wi) : RegsOk rws wi.length ∧ ∀ y ∈ rws, ∀ r ∈ y.regs, 1 ≤ r.r.2.1 := by
  have hl := key_len hN.key
  have hwl : wi.length = m.wi.length := by rw [hN.wi]; simp
  have hk : ∀ y ∈ rws, ∃ x ∈ m.ws, rkey y = wkey x := by
    intro y hy
    have : rkey y ∈ m.ws.map wkey := by rw [← hN.key]; exact List.mem_map_of_mem hy
    obtain ⟨x, hx, e⟩ := List.mem_map.1 this
    exact ⟨x, hx, e.symm⟩
  have hr : ∀ y ∈ rws, ∀ r ∈ y.regs, ∃ x ∈ m.ws, (r.r, r.ws) ∈ wregs x ∧ r.r ∈ x.regs := by
    intro y hy r hr
    obtain ⟨x, hx, e⟩ := hk y hy
    simp only [rkey, wkey, Prod.mk.injEq] at e
    have : (r.r, r.ws) ∈ wregs x := by
      unfold wregs
      rw [← e.2.2.2.2]
      rw [← e.2.2.2.1]
      rw [List.zip_map']
      exact List.mem_map.2 ⟨r, hr, rfl⟩
    exact ⟨x, hx, this, wregs_mem x _ this⟩
  refine ⟨⟨by rw [hl]; exact hm.l, by rw [hwl]; exact hm.li, ?_, ?_⟩, ?_⟩
  · intro y hy r hrr
    obtain ⟨x, hx, h1, h2⟩ := hr y hy r hrr
    have hok := (hm.w x hx).2.1 r.r h2
    have hpos := (hg x hx).pos r.r h2
    refine ⟨hok.1, hok.2.1, hok.2.2.1, hok.2.2.2.1, hok.2.2.2.2.1, hok.2.2.2.2.2, ?_⟩
    match hrs : x.regs, (hg x hx).one with
    | r0 :: rs, _ =>
      rw [wregs_cons x r0 rs hrs] at h1
      have hp := (hg x hx).prog
      rw [hrs] at hp
      have hp' : (x.prog.length : Int) ≤ r0.2.1 := hp
      rcases List.mem_cons.1 h1 with e | e
      · simp only [Prod.mk.injEq] at e
        rw [e.2, e.1]
        unfold splice
        simp only [List.length_append, List.length_take, List.length_drop, List.length_replicate]
        rw [e.1] at hpos
        omega
      · have := zeros_mem rs _ e
        simp only at this
        rw [this, List.length_replicate]
        omega
  · intro y hy
    obtain ⟨x, hx, e⟩ := hk y hy
    simp only [rkey, wkey, Prod.mk.injEq] at e
    have := congrArg List.length e.2.2.2.1
    rw [List.length_map] at this
    rw [this]
    exact (hm.w x hx).1
  · intro y hy r hrr
    obtain ⟨x, hx, h1, h2⟩ := hr y hy r hrr
    exact (hg x hx).pos r.r h2

theorem sum_add (f g : Nat → Nat) : ∀ n, ((List.range n).map (fun k => f k + g k)).sum = ((List.range n).map f).sum + ((List.range n).map g).sum := by
  intro n
  induction n with
  | zero => rfl
  | succ n ih => simp only [List.range_succ, List.map_append, List.sum_append, ih, List.map_cons, List.map_nil, List.sum_cons, List.sum_nil]; omega
theorem hasB_iff (n : Nat) (o : Int) (ho : 0 ≤ o) : hasB n o = decide (o < n) := by unfold hasB; rw [decide_eq_true ho]; rfl
theorem sum_one (o : Int) (ho : 0 ≤ o) : ∀ n : Nat, ((List.range n).map (fun k : Nat => if some o = some (k : Int) then 1 else 0)).sum = if hasB n o = true then 1 else 0 := by
  intro n
  induction n with
  | zero => rw [hasB_iff 0 o ho, if_neg (by simp; omega)]; rfl
  | succ n ih =>
    rw [List.range_succ, List.map_append, List.sum_append, ih, hasB_iff n o ho, hasB_iff (n + 1) o ho]
    simp only [List.map_cons, List.map_nil, List.sum_cons, List.sum_nil, Option.some.injEq, decide_eq_true_eq, Int.natCast_add, Int.cast_ofNat_Int]
    by_cases h1 : o < n
    · rw [if_pos h1, if_neg (by omega), if_pos (by omega)]; rfl
    · by_cases h2 : o = n
      · rw [if_neg h1, if_pos h2, if_pos (by omega)]; rfl
      · rw [if_neg h1, if_neg h2, if_neg (by omega)]; rfl
theorem sum_devs (ow : List Int) (ho : ∀ o ∈ ow, 0 ≤ o) (n : Nat) : ∀ d, d ≤ ow.length → ((List.range n).map (fun k => (devsN ow k d).length)).sum = (ow.take d).countP (hasB n) := by
  intro d
  induction d with
  | zero =>
    intro _
    simp only [devsN, List.length_nil, List.take_zero, List.countP_nil]
    induction n with
    | zero => rfl
    | succ n ih => simp only [List.range_succ, List.map_append, List.sum_append, ih]; rfl
  | succ d ih =>
    intro hd
    have e : (fun k => (devsN ow k (d + 1)).length) = fun k => (devsN ow k d).length + (if some ow[d] = some (k : Int) then 1 else 0) := by
      funext k
      simp only [devsN, List.length_append, List.getElem?_eq_getElem (show d < ow.length by omega)]
      split <;> rfl
    rw [e, sum_add, ih (by omega), sum_one _ (ho _ (List.getElem_mem _)), List.take_succ_eq_append_getElem (by omega), List.countP_append]
    simp only [List.countP_cons, List.countP_nil, Nat.zero_add]
theorem devs_len (m : Img) (rws : List RWard) (wi : List (Int × Int × Int × Int)) (hN : NetOf m rws wi) : rws.map (fun y => y.devs.length) = (List.range rws.length).map (fun k => (devsN m.ow k m.ow.length).length) := by
  apply List.ext_getElem
  · simp
  · intro k h1 h2
    have hk : k < rws.length := by simpa using h1
    simp only [List.getElem_map, List.getElem_range]
    rw [hN.dev k _ (List.getElem?_eq_getElem hk)]
theorem devs_eq (m : Img) (ho : ∀ o ∈ m.ow, 0 ≤ o) (rws : List RWard) (wi : List (Int × Int × Int × Int)) (hN : NetOf m rws wi) : ((rws.map (fun y => y.devs.length)).sum = m.ow.length) ↔ devsB m = true := by
  rw [devs_len m rws wi hN, sum_devs m.ow ho _ _ (Nat.le_refl _), List.take_length, key_len hN.key, List.countP_eq_length]
  unfold devsB
  rw [List.all_eq_true]

end Go.Proofs.YthmcheoehcmglaaGreat
/- The reference's Read. -/
namespace Go.Proofs.YthmcheoehcmglaaGreat
open Go.RowKit
set_option linter.unusedVariables false
attribute [local go_sem ↓] Go.wp_at_zero Go.wp_at_succ

theorem NetAt.wire {w : World} {Y : Nat} {gap mem ck : Int} {rws : List RWard} {wi : List (Int × Int × Int × Int)} {g c : Nat} {vW vD : Value} {nd : Nat} (h : NetAt w Y gap mem ck rws wi vW (.slice (some ⟨g, 0, none⟩) wi.length c) vD nd) (k : Nat) (x : Int × Int × Int × Int) (hx : wi[k]? = some x) (j : Nat) (hj : j < 4) :
    w.cell? ⟨g, k * 4 + j, none⟩ = (rwireCells x)[j]? := by
  have hk : k < wi.length := (List.getElem?_eq_some_iff.1 hx).1
  have e : wi[k] = x := (List.getElem?_eq_some_iff.1 hx).2
  rw [h.iw.cellAt (k * 4 + j) (by omega), flat_getM rwireCells 4 wi (fun y hy => rfl) k j hk hj, e]

def WiresUpto (m : Img) (j : Nat) : Prop := ∀ x ∈ m.wi.take j, wireOk m.ws.length x = true
def SameW (a b : World) : Prop := a = b
def ReadPostR (m : Img) (ok : Bool) (w : World) (e : Ending) (w' : World) : Prop :=
  Fr (fun _ => False) w w' ∧ (mkErr m ok ≠ 0 → e = .returned (.tuple #[.pointer none, .int .i64 (mkErr m ok)])) ∧
    (mkErr m ok = 0 → ∃ Y rws wi vW vI vD, e = .returned (.tuple #[.pointer (some ⟨Y, 0, none⟩), .int .i64 0]) ∧ NetAt w' Y m.gap m.mem 0 rws wi vW vI vD m.ow.length ∧ NetOf m rws wi ∧ RdEx w Y rws vW vI vD m.ow.length w')

theorem post_no (m : Img) (ok : Bool) (w w' : World) (k : Int) (hf : Fr (fun _ => False) w w') (h : mkErr m ok = k) (hk : k ≠ 0) : ReadPostR m ok w (.returned (.tuple #[.pointer none, .int .i64 k])) w' :=
  ⟨hf, fun _ => by rw [h], fun h0 => absurd (h.symm.trans h0) hk⟩

theorem sum_le (rws : List RWard) (k : Nat) (h : ∀ y ∈ rws, y.devs.length ≤ 8) : ((rws.take k).map (fun y => y.devs.length)).sum ≤ 8 * k := by
  induction k with
  | zero => simp
  | succ k ih =>
    rw [List.take_add_one, List.map_append, List.sum_append]
    cases hy : rws[k]? with
    | none => simp only [Option.toList_none, List.map_nil, List.sum_nil]; omega
    | some y =>
      have := h y (List.mem_of_getElem? hy)
      simp only [Option.toList_some, List.map_cons, List.map_nil, List.sum_cons, List.sum_nil]; omega

set_option maxRecDepth 100000 in
set_option maxHeartbeats 8000000 in
theorem rRead_any (s : ByteArray) (hs : s.size ≤ maxLen) (w : World) (m : Img) (ok : Bool) (E : Hid (rimg s.data.toList = (m, ok))) :
    Calls Tryz.prog 37 #[.string s] w fun e w' => ReadPostR m ok w e w' := by
  go_enter Tryz.func37, Tryz.ntmps37
  go_wp2_with fail
  refine (rread_core s hs w _ rfl).mono ?_
  rintro e w1 ⟨Y, rfl, hf1, hyes⟩
  have HYES := hid hyes
  have HF1 := hid hf1
  rw [E.out] at HYES ⊢
  clear hyes hf1
  cases ok with
  | false =>
    go_wp2_with fail
    go_ret2
    exact post_no m false w w1 1 HF1.out rfl (by omega)
  | true =>
    have HIS := hid (img_of _ m E.out)
    obtain ⟨rws, wi, vW, vI, vD, hN, hO, hEx⟩ := HYES.out rfl
    have HEX := hid hEx
    clear hEx
    have HNA := hid hN
    have HO := hid hO
    have HRO := hid (regs_ok m HIS.out.ok HIS.out.w rws wi hO)
    clear hN hO HYES
    go_wp2_with fail
    refine (laid_any w1 Y m.gap m.mem 0 rws wi vW vI vD m.ow.length HNA.out HRO.out.1 HIS.out.ok.m1 HRO.out.2).mono ?_
    rintro e w2 ⟨rfl, hf2⟩
    have HF2 := hid (HF1.out.step hf2 (fun _ h => .inl h))
    have HNB := hid (HNA.out.fr hf2)
    replace HEX := hid (HEX.out.fr hf2)
    rw [laid_eq m rws wi HO.out]
    clear hf2 HNA HF1
    cases hl : (fitsB m && apartB m) with
    | false =>
      go_wp2_with fail
      go_ret2
      exact post_no m true w w2 2 HF2.out (mk2 m hl) (by omega)
    | true =>
      have HL := hid hl
      have hrl := key_len HO.out.key
      have hwl : wi.length = m.wi.length := by rw [HO.out.wi]; simp
      have hn4 := HIS.out.ok.l
      have hli := HIS.out.ok.li
      have hlo := HIS.out.ok.lo
      have hn1 := HIS.out.n1
      obtain ⟨gW, cW, hvW⟩ : ∃ g c, vW = .slice (some ⟨g, 0, none⟩) rws.length c := by
        obtain ⟨g, c, h, _⟩ := HNB.out.ow.form (by omega)
        exact ⟨g, c, h⟩
      subst hvW
      obtain ⟨aI, cI, hvI⟩ := owns_shape HNB.out.iw
      subst hvI
      obtain ⟨csD, hcsD⟩ := HNB.out.dv
      obtain ⟨aD, cD, hvD⟩ := owns_shape hcsD
      subst hvD
      have c2 : w2.cell? ⟨Y, 2, none⟩ = some (.slice (some ⟨gW, 0, none⟩) rws.length cW) := row_cell HNB.out.hy 2
      have HRL := hid hrl
      have HWL := hid hwl
      have hr4 : rws.length ≤ 4 := by omega
      have hw8 : wi.length ≤ 8 := by omega
      clear hl hcsD hrl hwl
      go_wp2_with fail
      clear c2
      go_loopw [7] (fun b wq => ∃ j : Nat, j ≤ wi.length ∧ b = .int .i64 j ∧ WiresUpto m j ∧ Fr (fun _ => False) w2 wq) (fun b _ => wi.length - (intOf b).toNat)
      case atStart => exact ⟨0, Nat.zero_le _, rfl, by simp [WiresUpto], Fr.refl _ _⟩
      case round =>
        obtain ⟨j, hj, rfl, hall, hfr⟩ := hrel
        have HALL := hid hall
        have HFR := hid hfr
        have HNC := hid (HNB.out.fr hfr)
        have c3 : wr.cell? ⟨Y, 3, none⟩ = some (.slice aI wi.length cI) := row_cell HNC.out.hy 3
        clear hall hfr
        by_cases hlt : j < wi.length
        · have hlti : (j : Int) < (wi.length : Int) := by omega
          obtain ⟨x, hx⟩ : ∃ x, m.wi[j]? = some x := ⟨_, List.getElem?_eq_getElem (by have := HWL.out; omega)⟩
          have hxw : wi[j]? = some (x.1, x.2, 0, 0) := by rw [HO.out.wi, List.getElem?_map, hx]; rfl
          obtain ⟨gI, cI', hvI⟩ : ∃ g c, Value.slice aI wi.length cI = .slice (some ⟨g, 0, none⟩) wi.length c := by
            obtain ⟨g, c, h, _⟩ := HNC.out.iw.form (by omega)
            exact ⟨g, c, h⟩
          have hNC := HNC.out
          rw [hvI] at c3 hNC
          have d0 : wr.cell? ⟨gI, j * 4, none⟩ = some (.int .i64 x.1) := hNC.wire j _ hxw 0 (by omega)
          have d1 : wr.cell? ⟨gI, j * 4 + 1, none⟩ = some (.int .i64 x.2) := hNC.wire j _ hxw 1 (by omega)
          have d2 : wr.cell? ⟨gI, j * 4 + 2, none⟩ = some (.int .i64 0) := hNC.wire j _ hxw 2 (by omega)
          have d3 : wr.cell? ⟨gI, j * 4 + 3, none⟩ = some (.int .i64 0) := hNC.wire j _ hxw 3 (by omega)
          have hx0 := HIS.out.wi x (List.mem_of_getElem? hx)
          have HX := hid hx
          have HNO : Hid (wireOk m.ws.length x = false → (wiresB m && devsB m) = false) := by
            intro h
            have : wiresB m = false := by
              unfold wiresB
              rw [List.all_eq_false]
              exact ⟨x, List.mem_of_getElem? HX.out, by simp [h]⟩
            rw [this]; rfl
          clear hNC hx hxw hvI
          obtain ⟨x1, x2⟩ := x
          simp only at d0 d1 hx0
          by_cases h1 : (rws.length : Int) ≤ x1
          · have HB := hid (HNO.out (by have := HRL.out; simp [wireOk, hasB]; omega))
            go_wp2_with fail
            go_ret2
            exact post_no m true w _ 3 (((HF2.out.step HFR.out (fun _ h => .inl h)).alloc _)) (mk3 m HL.out HB.out) (by omega)
          · by_cases h2 : (rws.length : Int) ≤ x2
            · have HB := hid (HNO.out (by have := HRL.out; simp [wireOk, hasB]; omega))
              go_wp2_with fail
              go_ret2
              exact post_no m true w _ 3 (((HF2.out.step HFR.out (fun _ h => .inl h)).alloc _)) (mk3 m HL.out HB.out) (by omega)
            · by_cases h3 : x1 = x2
              · have HB := hid (HNO.out (by have := HRL.out; simp [wireOk, hasB]; omega))
                go_wp2_with fail
                go_ret2
                exact post_no m true w _ 3 (((HF2.out.step HFR.out (fun _ h => .inl h)).alloc _)) (mk3 m HL.out HB.out) (by omega)
              · have HG : Hid (wireOk m.ws.length (x1, x2) = true) := by have := HRL.out; unfold Hid; simp [wireOk, hasB]; omega
                go_wp2_with fail
                go_roundw
                case rel =>
                  refine ⟨j + 1, by omega, by go_num, ?_, HFR.out.alloc _⟩
                  intro y hy
                  rw [List.take_add_one, HX.out] at hy
                  rcases List.mem_append.1 hy with hy | hy
                  · exact HALL.out y hy
                  · simp only [Option.toList_some, List.mem_singleton] at hy
                    rw [hy]; exact HG.out
                case measure => simp [intOf]; omega
        · have hjw : j = wi.length := by omega
          have hlti : ¬ ((j : Int) < (wi.length : Int)) := by omega
          have HWB : Hid (wiresB m = true) := by
            unfold wiresB Hid
            rw [List.all_eq_true]
            intro x hx
            exact HALL.out x (by rw [hjw, HWL.out, List.take_length]; exact hx)
          go_wp2_with fail
          go_loopw [9, 10] (fun a b wq => ∃ k : Nat, k ≤ rws.length ∧ b = .int .i64 k ∧ a = .int .i64 (((rws.take k).map (fun y => y.devs.length)).sum : Nat) ∧ SameW wq wr) (fun _ b _ => rws.length - (intOf b).toNat)
          case atStart => exact ⟨0, Nat.zero_le _, rfl, rfl, rfl⟩
          case round =>
            obtain ⟨k, hk, rfl, rfl, hwq⟩ := hrel
            have hwq : _ = _ := hwq
            subst hwq
            have hS := sum_le rws k (fun y hy => by
              obtain ⟨i, hi, rfl⟩ := List.getElem_of_mem hy
              rw [HO.out.dev i _ (List.getElem?_eq_getElem hi)]
              exact Nat.le_trans (devsN_len _ _ _) hlo)
            have c2 : wr.cell? ⟨Y, 2, none⟩ = some (.slice (some ⟨gW, 0, none⟩) rws.length cW) := row_cell HNC.out.hy 2
            have c4 : wr.cell? ⟨Y, 4, none⟩ = some (.slice aD m.ow.length cD) := row_cell HNC.out.hy 4
            clear c3 hlti hlt
            by_cases hlt : k < rws.length
            · have hlti : (k : Int) < (rws.length : Int) := by omega
              obtain ⟨y, hy⟩ : ∃ y, rws[k]? = some y := ⟨_, List.getElem?_eq_getElem hlt⟩
              obtain ⟨a5, q5, hy5⟩ := owns_shape (HNC.out.dr y (List.mem_of_getElem? hy))
              have cV : wr.cell? ⟨gW, k * 29 + 2, none⟩ = some (.slice a5 y.devs.length q5) := by rw [← hy5]; exact (ward_regs _ _ _ _ _ _ _ _ _ _ _ _ HNC.out k y hy).2
              have HSS : Hid (((rws.take (k + 1)).map (fun y => y.devs.length)).sum = ((rws.take k).map (fun y => y.devs.length)).sum + y.devs.length) := by
                unfold Hid
                rw [List.take_add_one, hy, List.map_append, List.sum_append]
                rfl
              have hyd : y.devs.length ≤ 8 := by
                rw [HO.out.dev k y hy]
                exact Nat.le_trans (devsN_len _ _ _) hlo
              generalize hSe : ((rws.take k).map (fun y => y.devs.length)).sum = S at *
              clear hy hy5 hSe
              go_wp2_with fail
              go_roundw
              case rel => exact ⟨k + 1, by omega, by go_num, by rw [HSS.out]; go_num, rfl⟩
              case measure => simp [intOf]; omega
            · have hke : k = rws.length := by omega
              have hlti : ¬ ((k : Int) < (rws.length : Int)) := by omega
              have hrl := HRL.out
              have HDE := hid (devs_eq m HIS.out.ow rws wi HO.out)
              rw [hke, List.take_length] at hS ⊢
              generalize ((rws.map (fun y => y.devs.length)).sum) = S at *
              subst hke
              by_cases he : S = m.ow.length
              · have hei : (S : Int) = (m.ow.length : Int) := by omega
                have HDB := hid (HDE.out.1 he)
                have H0 := hid (mk0 m HL.out (by rw [HWB.out, HDB.out]; rfl))
                clear HDE HDB HWB
                go_wp2_with fail
                go_ret2
                exact ⟨HF2.out.step HFR.out (fun _ h => .inl h), fun h => absurd H0.out h, fun _ => ⟨Y, rws, wi, _, _, _, rfl, HNC.out, HO.out, HEX.out.fr HFR.out⟩⟩
              · have hei : ¬ ((S : Int) = (m.ow.length : Int)) := by omega
                have HDB : Hid (devsB m = false) := by
                  cases h : devsB m with
                  | false => exact rfl
                  | true => exact absurd (HDE.out.2 h) he
                have H3 := hid (mk3 m HL.out (by rw [HWB.out, HDB.out]; rfl))
                clear HDE HDB HWB
                go_wp2_with fail
                go_ret2
                exact post_no m true w _ 3 (HF2.out.step HFR.out (fun _ h => .inl h)) H3.out (by omega)

end Go.Proofs.YthmcheoehcmglaaGreat
/- The reference's ward: place, has, port. -/
namespace Go.Proofs.YthmcheoehcmglaaGreat
open Go.RowKit
set_option linter.unusedVariables false
attribute [local go_sem ↓] Go.wp_at_zero Go.wp_at_succ

def placeV (rs : List Reg) (a : Int) : Int × Int :=
  match regI rs a with
  | some j => ((j : Int), a - (regAt rs j).1)
  | none => (-1, 0)
theorem regI_hit (rs : List Reg) (a : Int) (j : Nat) (r : Reg) (hr : rs[j]? = some r) (h : inR r a = true) (hno : ∀ r ∈ rs.take j, inR r a = false) : placeV rs a = ((j : Int), a - r.1) := by
  have hj := (List.getElem?_eq_some_iff.1 hr).1
  have e : regI rs a = some j := by
    unfold regI
    rw [List.findIdx?_eq_some_iff_getElem]
    refine ⟨hj, by rw [(List.getElem?_eq_some_iff.1 hr).2]; exact h, ?_⟩
    intro i hi
    have := hno rs[i] (List.mem_take_iff_getElem.2 ⟨i, by omega, rfl⟩)
    simp [this]
  unfold placeV
  rw [e]
  simp only
  have : regAt rs j = r := by unfold regAt; rw [getD_of hr]
  rw [this]
theorem regI_no (rs : List Reg) (a : Int) (hno : ∀ r ∈ rs, inR r a = false) : placeV rs a = (-1, 0) := by
  have e : regI rs a = none := by
    unfold regI
    rw [List.findIdx?_eq_none_iff]
    exact hno
  unfold placeV
  rw [e]

set_option maxRecDepth 100000 in
set_option maxHeartbeats 2000000 in
theorem place_any (w : World) (g o : Nat) (v : Value) (ys : List RReg) (hc : w.cell? ⟨g, o + 1, none⟩ = some v) (hr : RRegsAt w 0 v ys) (hb : ∀ y ∈ ys, RegB y.r) (hl : ys.length ≤ 3) (a : Int) (a0 : 0 ≤ a) (a1 : a < 4294967296) :
    Calls Tryz.prog 103 #[.pointer (some ⟨g, o, none⟩), .int .i64 a] w fun e w' => e = .returned (.tuple #[.int .i64 (placeV (ys.map (·.r)) a).1, .int .i64 (placeV (ys.map (·.r)) a).2]) ∧ Fr (fun _ => False) w w' := by
  obtain ⟨a3, q3, ea⟩ := owns_shape hr.own
  subst ea
  have HC := hid hc
  have HR := hid hr
  have HB := hid hb
  clear hc hr hb
  go_enter Tryz.func103, Tryz.ntmps103
  go_wp2_with fail
  go_loopw [6] (fun i wr => ∃ k : Nat, k ≤ ys.length ∧ i = .int .i64 k ∧ (∀ y ∈ ys.take k, inR y.r a = false) ∧ Fr (fun _ => False) w wr) (fun i _ => ys.length - (intOf i).toNat)
  case atStart => exact ⟨0, Nat.zero_le _, rfl, by simp, Fr.refl _ _⟩
  case round =>
    obtain ⟨k, hk, rfl, hno, hF⟩ := hrel
    have c1 : wr.cell? ⟨g, o + 1, none⟩ = some (.slice a3 ys.length q3) := cell_fr HC.out hF
    have hP := HR.out.fr hF
    have HNO := hid hno
    have HF := hid hF
    clear hno hF
    by_cases hlt : k < ys.length
    · obtain ⟨y, hy⟩ : ∃ y, ys[k]? = some y := ⟨_, List.getElem?_eq_getElem hlt⟩
      have hym := List.mem_of_getElem? hy
      have ho := hP.own
      obtain ⟨gr, cr, hv, -, -⟩ := ho.form (by omega)
      simp only [Value.slice.injEq] at hv
      obtain ⟨rfl, -, rfl⟩ := hv
      have hcell : ∀ c', c' < 5 → wr.cell? ⟨gr, k * 5 + c', none⟩ = (rrCells y)[c']? := by
        intro c' hc'
        rw [ho.cellAt (k * 5 + c') (by omega), flat_get rrCells 5 (fun _ => rfl) ys k c' hlt hc']
        have := (List.getElem?_eq_some_iff.1 hy).2
        rw [this]
      have d0 : wr.cell? ⟨gr, k * 5, none⟩ = some (.int .i64 y.r.1) := hcell 0 (by omega)
      have d1 : wr.cell? ⟨gr, k * 5 + 1, none⟩ = some (.int .i64 y.r.2.1) := hcell 1 (by omega)
      have d2 : wr.cell? ⟨gr, k * 5 + 2, none⟩ = some (.int .i64 y.r.2.2.1) := hcell 2 (by omega)
      have d3 : wr.cell? ⟨gr, k * 5 + 3, none⟩ = some (.int .i64 y.r.2.2.2) := hcell 3 (by omega)
      have d4 : wr.cell? ⟨gr, k * 5 + 4, none⟩ = some (.slice (some ⟨y.g, 0, none⟩) y.ws.length y.ws.length) := hcell 4 (by omega)
      have hki : (k : Int) < (ys.length : Int) := by omega
      have hB := HB.out y hym
      have b0 := hB.f0
      have b1 := hB.f1
      have b2 := hB.s0
      have b3 := hB.s1
      have HY := hid hy
      clear hcell ho hP hy hym hB
      by_cases hin : y.r.1 ≤ a
      · by_cases hin2 : a < y.r.1 + y.r.2.1
        · have HV : Hid (placeV (ys.map (·.r)) a = ((k : Int), a - y.r.1)) := by
            refine regI_hit _ a k y.r (by rw [List.getElem?_map, HY.out]; rfl) (by simp [inR, hin, hin2]) ?_
            intro r hr'
            rw [← List.map_take] at hr'
            obtain ⟨y', hy', rfl⟩ := List.mem_map.1 hr'
            exact HNO.out y' hy'
          go_wp2_with fail
          go_quiet (fail)
          go_wp2_with fail
          go_ret2
          exact ⟨by rw [HV.out]; rfl, (HF.out.alloc _).drewN _⟩
        · have hin3 : y.r.1 + y.r.2.1 ≤ a := by omega
          go_wp2_with fail
          go_roundw
          case rel => exact ⟨k + 1, by omega, by go_num, take_snoc_mem _ _ _ HY.out HNO.out (by simp [inR]; omega), HF.out.alloc _⟩
          case measure => simp [intOf]; omega
      · have hin3 : a < y.r.1 := by omega
        go_wp2_with fail
        go_roundw
        case rel => exact ⟨k + 1, by omega, by go_num, take_snoc_mem _ _ _ HY.out HNO.out (by simp [inR]; omega), HF.out.alloc _⟩
        case measure => simp [intOf]; omega
    · obtain rfl : k = ys.length := by omega
      have HV : Hid (placeV (ys.map (·.r)) a = (-1, 0)) := by
        refine regI_no _ a ?_
        intro r hr'
        obtain ⟨y', hy', rfl⟩ := List.mem_map.1 hr'
        exact HNO.out y' (by rw [List.take_length]; exact hy')
      clear hP
      go_wp2_with fail
      go_ret2
      exact ⟨by rw [HV.out]; rfl, HF.out⟩

theorem has_bit (n : Nat) (hn : n < 256) : ((((n &&& 1 : Nat) : Int) == 1) = decide (n / 1 % 2 = 1)) ∧ ((((n &&& 2 : Nat) : Int) == 2) = decide (n / 2 % 2 = 1)) ∧ ((((n &&& 4 : Nat) : Int) == 4) = decide (n / 4 % 2 = 1)) := by
  have h : ∀ n : Fin 256, ((((n.val &&& 1 : Nat) : Int) == 1) = decide (n.val / 1 % 2 = 1)) ∧ ((((n.val &&& 2 : Nat) : Int) == 2) = decide (n.val / 2 % 2 = 1)) ∧ ((((n.val &&& 4 : Nat) : Int) == 4) = decide (n.val / 4 % 2 = 1)) := by decide +kernel
  exact h ⟨n, hn⟩
theorem hasR_div (r : Reg) (h0 : 0 ≤ r.2.2.2) (h1 : r.2.2.2 ≤ 255) (right : Int) (hr : right = 1 ∨ right = 2 ∨ right = 4) : hasR r right = decide (r.2.2.2 / right % 2 = 1) := by
  obtain ⟨n, hn⟩ := Int.eq_ofNat_of_zero_le h0
  have hb := has_bit n (by omega)
  unfold hasR
  rw [hn]
  rcases hr with rfl | rfl | rfl
  · rw [Int.toNat_natCast, show (1 : Int).toNat = 1 from rfl, hb.1]
    exact decide_eq_decide.2 (by omega)
  · rw [Int.toNat_natCast, show (2 : Int).toNat = 2 from rfl, hb.2.1]
    exact decide_eq_decide.2 (by omega)
  · rw [Int.toNat_natCast, show (4 : Int).toNat = 4 from rfl, hb.2.2]
    exact decide_eq_decide.2 (by omega)

set_option maxRecDepth 100000 in
set_option maxHeartbeats 1000000 in
theorem has_no (w : World) (g o : Nat) (right : Int) :
    Calls Tryz.prog 104 #[.pointer (some ⟨g, o, none⟩), .int .i64 (-1), .int .i64 right] w fun e w' => e = .returned (.bool false) ∧ w' = w := by
  go_enter Tryz.func104, Tryz.ntmps104
  go_wp2_with fail
  go_ret
  exact ⟨rfl, rfl⟩

set_option maxRecDepth 100000 in
set_option maxHeartbeats 1000000 in
theorem has_yes (w : World) (g o : Nat) (v : Value) (ys : List RReg) (hc : w.cell? ⟨g, o + 1, none⟩ = some v) (hr : RRegsAt w 0 v ys) (j : Nat) (y : RReg) (hy : ys[j]? = some y) (hb : RegB y.r) (hl : ys.length ≤ 3) (right : Int) (hrt : right = 1 ∨ right = 2 ∨ right = 4) :
    Calls Tryz.prog 104 #[.pointer (some ⟨g, o, none⟩), .int .i64 j, .int .i64 right] w fun e w' => e = .returned (.bool (hasR y.r right)) ∧ w' = w := by
  have hlt := (List.getElem?_eq_some_iff.1 hy).1
  have ho := hr.own
  obtain ⟨gr, cr, rfl, -, -⟩ := ho.form (by omega)
  have d3 : w.cell? ⟨gr, j * 5 + 3, none⟩ = some (.int .i64 y.r.2.2.2) := by
    rw [ho.cellAt (j * 5 + 3) (by omega), flat_get rrCells 5 (fun _ => rfl) ys j 3 hlt (by omega), (List.getElem?_eq_some_iff.1 hy).2]
    rfl
  have hji : (j : Int) < (ys.length : Int) := by omega
  have b0 := hb.r0
  have b1 := hb.r1
  have HE := hid (hasR_div y.r b0 b1 right hrt)
  clear ho hr hy hb
  rcases hrt with rfl | rfl | rfl
  all_goals
    generalize y.r.2.2.2 = z at *
    go_enter Tryz.func104, Tryz.ntmps104
    go_wp2_with fail
    go_ret
    exact ⟨by rw [HE.out]; (try rw [Int.ediv_one]); rfl, rfl⟩

/-- The device of an address; -1: there is none. -/
def portV (ds : List Int) (part a : Int) : Int := (findDev ds part a).getD (-1)
theorem portV_hit (ds : List Int) (part a : Int) (p0 : 0 ≤ part) (p1 : part ≤ 1) (k : Nat) (d : Int) (hd : ds[k]? = some d) (ha : a = 32768 + 2 * k + part) : portV ds part a = d := by
  have hk := (List.getElem?_eq_some_iff.1 hd).1
  unfold portV findDev
  rw [if_pos (by omega)]
  have e : ((a - 32768) / 2).toNat = k := by omega
  rw [e, getD_of hd]
  rfl
theorem portV_no (ds : List Int) (part a : Int) (p0 : 0 ≤ part) (p1 : part ≤ 1) (h : ∀ k, k < ds.length → a ≠ 32768 + 2 * (k : Int) + part) : portV ds part a = -1 := by
  unfold portV findDev
  rw [if_neg]
  · rfl
  · rintro ⟨h1, h2, h3⟩
    exact h ((a - 32768) / 2).toNat (by omega) (by omega)

set_option maxRecDepth 100000 in
set_option maxHeartbeats 1000000 in
theorem port_any (w : World) (g o : Nat) (v : Value) (ds : List Int) (hc : w.cell? ⟨g, o + 2, none⟩ = some v) (ho : w.ownsRow 0 3 1 v ds.length (ds.map (Value.int .i64))) (hl : ds.length ≤ 8) (part a : Int) (p0 : 0 ≤ part) (p1 : part ≤ 1) (a0 : 0 ≤ a) (a1 : a < 4294967296) :
    Calls Tryz.prog 123 #[.pointer (some ⟨g, o, none⟩), .int .i64 a, .int .i64 part] w fun e w' => e = .returned (.int .i64 (portV ds part a)) ∧ w' = w := by
  obtain ⟨a3, q3, ea⟩ := owns_shape ho
  subst ea
  have HO := hid ho
  clear ho
  go_enter Tryz.func123, Tryz.ntmps123
  go_wp2_with fail
  go_loopw [7] (fun i wr => ∃ k : Nat, k ≤ ds.length ∧ i = .int .i64 k ∧ (∀ j, j < k → a ≠ 32768 + 2 * (j : Int) + part) ∧ SameK wr w) (fun i _ => ds.length - (intOf i).toNat)
  case atStart => exact ⟨0, Nat.zero_le _, rfl, fun j hj => by omega, rfl⟩
  case round =>
    obtain ⟨k, hk, rfl, hno, hs⟩ := hrel
    have hs' : wr = w := hs
    subst hs'
    have HNO := hid hno
    clear hno
    by_cases hlt : k < ds.length
    · have hki : (k : Int) < (ds.length : Int) := by omega
      by_cases he : a = 32768 + 2 * (k : Int) + part
      · obtain ⟨d, hd⟩ : ∃ d, ds[k]? = some d := ⟨_, List.getElem?_eq_getElem hlt⟩
        have HV := hid (portV_hit ds part a p0 p1 k d hd he)
        obtain ⟨gr, cr, hv, -, -⟩ := HO.out.form (by omega)
        simp only [Value.slice.injEq] at hv
        obtain ⟨rfl, -, rfl⟩ := hv
        have d0 : wr.cell? ⟨gr, k, none⟩ = some (.int .i64 d) := by
          rw [HO.out.cellAt k (by omega), List.getElem?_map, hd]
          rfl
        have heb : (a == 32768 + 2 * (k : Int) + part) = true := by simpa using he
        clear he hd
        go_wp2_with fail
        go_ret
        exact ⟨by rw [HV.out]; rfl, rfl⟩
      · have heb : (a == 32768 + 2 * (k : Int) + part) = false := by simpa using he
        have HE := hid he
        clear he
        go_wp2_with fail
        go_roundw
        case rel =>
          refine ⟨k + 1, by omega, by go_num, ?_, rfl⟩
          intro j hj
          by_cases hjk : j < k
          · exact HNO.out j hjk
          · obtain rfl : j = k := by omega
            exact HE.out
        case measure => simp [intOf]; omega
    · obtain rfl : k = ds.length := by omega
      have HV := hid (portV_no ds part a p0 p1 HNO.out)
      go_wp2_with fail
      go_ret
      exact ⟨by rw [HV.out]; rfl, rfl⟩

end Go.Proofs.YthmcheoehcmglaaGreat
/- The reference's net against the model: where it lies, what each store leaves of it. -/
namespace Go.Proofs.YthmcheoehcmglaaGreat
open Go.RowKit
set_option linter.unusedVariables false

/-- What of a ward of the reference never changes. -/
structure RSt where
  q : Int
  vR : Value
  vD : Value
  regs : List (Reg × Nat)
  devs : List Int
/-- What of the reference's net never changes. -/
structure RX where
  Y : Nat
  gap : Int
  mem : Int
  gW : Nat
  cW : Nat
  vI : Value
  vD : Value
  st : List RSt
  wires : List (Int × Int)
  dn : Nat

def rregOf (p : Reg × Nat) (u : List Int) : RReg := ⟨p.1, p.2, u⟩
def rwOf (y : RSt) (v : WN) : RWard := ⟨y.q, y.vR, y.vD, v.now, v.was, List.zipWith rregOf y.regs v.ws, y.devs⟩
def rwsOf (x : RX) (N : NM) : List RWard := List.zipWith rwOf x.st N.wn
def wisOf (x : RX) (N : NM) : List (Int × Int × Int × Int) := List.zipWith (fun p c => (p.1, p.2, c.1, c.2)) x.wires N.wi
def rdevCells (devs : List DevV) (vL : List Value) : List Value := (devs.zip vL).flatMap (fun p => [.int .i64 p.1.1, p.2])

/-- The model's lists are as long as they should be. -/
structure NLen (x : RX) (N : NM) : Prop where
  l1 : N.wn.length = x.st.length
  l2 : N.wi.length = x.wires.length
  l4 : N.devs.length = x.dn
  s8 : ∀ v ∈ N.wn, v.now.regs.length = 8 ∧ v.was.regs.length = 8
  wl : ∀ (k : Nat) (v : WN) (y : RSt), N.wn[k]? = some v → x.st[k]? = some y → v.ws.length = y.regs.length ∧ ∀ (j : Nat) (p : Reg × Nat) (u : List Int), y.regs[j]? = some p → v.ws[j]? = some u → (u.length : Int) = p.1.2.1
/-- The model's numbers are words. -/
structure NBd (x : RX) (N : NM) : Prop where
  len : NLen x N
  c0 : 0 ≤ N.ck
  sb : ∀ v ∈ N.wn, StB v.now ∧ StB v.was
  nw : ∀ v ∈ N.wn, ∀ u ∈ v.ws, ∀ z ∈ u, bdW z
  ni : ∀ c ∈ N.wi, (c.1 = 0 ∨ c.1 = 1) ∧ bdW c.2
  nd : ∀ d ∈ N.devs, bdW d.1

/-- The static parts are as an image has them. -/
structure RXok (x : RX) : Prop where
  n1 : 1 ≤ x.st.length
  n4 : x.st.length ≤ 4
  w8 : x.wires.length ≤ 8
  rl : ∀ y ∈ x.st, y.regs.length ≤ 3
  rb : ∀ y ∈ x.st, ∀ p ∈ y.regs, RegB p.1
  dl : ∀ y ∈ x.st, y.devs.length ≤ 8
  q : ∀ y ∈ x.st, 1 ≤ y.q ∧ y.q ≤ 64
  g : 1 ≤ x.gap ∧ x.gap ≤ 16
  m : x.mem ≤ 1024
  d8 : x.dn ≤ 8
  db : ∀ y ∈ x.st, ∀ d ∈ y.devs, 0 ≤ d ∧ d < x.dn
  sp : (x.st.flatMap (fun y => y.regs.map (·.2))).Nodup
  sd : ∀ y ∈ x.st, ∀ b, y.vD.ownBlock = some b → ∀ z ∈ x.st, ∀ p ∈ z.regs, p.2 ≠ b

/-- The reference's net lies in the world. -/
structure RefAt (x : RX) (N : NM) (vL : List Value) (w : World) : Prop where
  n : NetAt w x.Y x.gap x.mem N.ck (rwsOf x N) (wisOf x N) (.slice (some ⟨x.gW, 0, none⟩) x.st.length x.cW) x.vI x.vD N.devs.length
  dd : w.ownsRow 0 157 2 x.vD N.devs.length (rdevCells N.devs vL)
  l3 : vL.length = N.devs.length
  lg : ∀ (i : Nat) (d : DevV) (v : Value), N.devs[i]? = some d → vL[i]? = some v → w.ownsRow 0 3 1 v d.2.length (d.2.map (Value.int .i64))
  sl : ∀ v ∈ vL, ∀ b, v.ownBlock = some b → (∀ z ∈ x.st, ∀ p ∈ z.regs, p.2 ≠ b) ∧ ∀ y ∈ x.st, y.vD.ownBlock ≠ some b
  ss : ∀ (i j : Nat) (v v' : Value) (b : Nat), i ≠ j → vL[i]? = some v → vL[j]? = some v' → v.ownBlock = some b → v'.ownBlock ≠ some b

theorem rws_len (x : RX) (N : NM) (hb : NLen x N) : (rwsOf x N).length = x.st.length := by
  unfold rwsOf
  rw [List.length_zipWith, hb.l1, Nat.min_self]
theorem wis_len (x : RX) (N : NM) (hb : NLen x N) : (wisOf x N).length = x.wires.length := by
  unfold wisOf
  rw [List.length_zipWith, hb.l2, Nat.min_self]
theorem rws_at (x : RX) (N : NM) (k : Nat) (y : RSt) (v : WN) (hy : x.st[k]? = some y) (hv : N.wn[k]? = some v) : (rwsOf x N)[k]? = some (rwOf y v) := by
  unfold rwsOf
  rw [List.getElem?_zipWith, hy, hv]
theorem rws_inv (x : RX) (N : NM) (k : Nat) (r : RWard) (hr : (rwsOf x N)[k]? = some r) : ∃ y v, x.st[k]? = some y ∧ N.wn[k]? = some v ∧ r = rwOf y v := by
  unfold rwsOf at hr
  rw [List.getElem?_zipWith] at hr
  cases h1 : x.st[k]? with
  | none => rw [h1] at hr; cases hr
  | some y =>
    cases h2 : N.wn[k]? with
    | none => rw [h1, h2] at hr; cases hr
    | some v => rw [h1, h2] at hr; exact ⟨y, v, rfl, rfl, (Option.some.inj hr).symm⟩
theorem wis_at (x : RX) (N : NM) (i : Nat) (p c : Int × Int) (hp : x.wires[i]? = some p) (hc : N.wi[i]? = some c) : (wisOf x N)[i]? = some (p.1, p.2, c.1, c.2) := by
  unfold wisOf
  rw [List.getElem?_zipWith, hp, hc]
theorem zipWith_set {α β γ : Type} (f : α → β → γ) : ∀ (l : List α) (m : List β) (k : Nat) (a : α) (b : β), l[k]? = some a → List.zipWith f l (m.set k b) = (List.zipWith f l m).set k (f a b) := by
  intro l
  induction l with
  | nil => intro m k a b h; simp at h
  | cons c l ih =>
    intro m k a b h
    cases m with
    | nil => simp
    | cons d m =>
      cases k with
      | zero =>
        simp only [List.getElem?_cons_zero, Option.some.injEq] at h
        subst h
        rfl
      | succ k =>
        simp only [List.set_cons_succ, List.zipWith_cons_cons]
        rw [ih m k a b (by simpa using h)]

/-- The net with ward k otherwise. -/
def putW (N : NM) (k : Nat) (v : WN) : NM := { N with wn := N.wn.set k v }
theorem rws_set (x : RX) (N : NM) (k : Nat) (y : RSt) (hy : x.st[k]? = some y) (v : WN) : rwsOf x (putW N k v) = (rwsOf x N).set k (rwOf y v) := zipWith_set rwOf x.st N.wn k y v hy

theorem RefAt.shape {x : RX} {N : NM} {vL : List Value} {w : World} (h : RefAt x N vL w) (hb : NLen x N) : NetAt w x.Y x.gap x.mem N.ck (rwsOf x N) (wisOf x N) (.slice (some ⟨x.gW, 0, none⟩) (rwsOf x N).length x.cW) x.vI x.vD N.devs.length := by
  rw [rws_len x N hb]
  exact h.n
/-- The cells of a ward. -/
theorem RefAt.cell {x : RX} {N : NM} {vL : List Value} {w : World} (h : RefAt x N vL w) (hb : NLen x N) (k : Nat) (y : RSt) (v : WN) (hy : x.st[k]? = some y) (hv : N.wn[k]? = some v) (j : Nat) (hj : j < 29) : w.cell? ⟨x.gW, k * 29 + j, none⟩ = (rwardCells (rwOf y v))[j]? := by
  have hr := rws_at x N k y v hy hv
  have hk := (List.getElem?_eq_some_iff.1 hr).1
  rw [(h.shape hb).now k hk j hj, (List.getElem?_eq_some_iff.1 hr).2]
theorem RefAt.blockW {x : RX} {N : NM} {vL : List Value} {w : World} (h : RefAt x N vL w) : ∃ cur, w.heap[x.gW]? = some (.cells cur 130 (0, 0)) := by
  have ho := h.n.ow
  rcases ho.2 with ⟨h1, _⟩ | ⟨g', cap', cur, h1, _, hg, _⟩
  · simp at h1
  · simp only [Value.slice.injEq, Option.some.injEq, Addr.mk.injEq] at h1
    obtain ⟨⟨rfl, _⟩, _, _⟩ := h1
    exact ⟨cur, hg⟩

/-- What a store into the wards' block leaves. -/
theorem RefAt.storeW {x : RX} {N : NM} {vL : List Value} {w w' : World} (h : RefAt x N vL w) (hb : NLen x N) (k : Nat) (y : RSt) (v v' : WN) (hy : x.st[k]? = some y) (hv : N.wn[k]? = some v) (hws : v'.ws = v.ws) (h8 : v'.now.regs.length = 8 ∧ v'.was.regs.length = 8)
    (K : Keep w w' 130) (how : w'.ownsRow 0 130 29 (.slice (some ⟨x.gW, 0, none⟩) x.st.length x.cW) x.st.length (((rwsOf x N).set k (rwOf y v')).flatMap rwardCells)) : RefAt x (putW N k v') vL w' := by
  have hr := rws_at x N k y v hy hv
  have hmem : ∀ z ∈ (rwsOf x N).set k (rwOf y v'), (∃ z0 ∈ rwsOf x N, z.vR = z0.vR ∧ z.regs = z0.regs ∧ z.vD = z0.vD ∧ z.devs = z0.devs) ∧ z.now.regs.length = 8 ∧ z.then_.regs.length = 8 := by
    intro z hz
    rcases List.mem_or_eq_of_mem_set hz with h1 | h1
    · exact ⟨⟨z, h1, rfl, rfl, rfl, rfl⟩, (h.n.rg z h1).2⟩
    · rw [h1]
      refine ⟨⟨rwOf y v, List.mem_of_getElem? hr, rfl, ?_, rfl, rfl⟩, h8⟩
      unfold rwOf
      rw [hws]
  have e := rws_set x N k y hy v'
  refine ⟨⟨?_, ?_, ?_, ?_, ?_, ?_⟩, K.owns _ (by decide) h.dd, h.l3, fun i d u h1 h2 => K.owns _ (by decide) (h.lg i d u h1 h2), h.sl, h.ss⟩
  · exact K _ _ _ _ h.n.hy (by decide)
  · rw [e, List.length_set, rws_len x N hb]
    exact how
  · rw [e]
    intro z hz
    obtain ⟨⟨z0, hz0, e1, e2, e3, e4⟩, h2⟩ := hmem z hz
    rw [e1, e2]
    exact ⟨K.regs (h.n.rg z0 hz0).1 (by decide) (by decide), h2⟩
  · rw [e]
    intro z hz
    obtain ⟨⟨z0, hz0, e1, e2, e3, e4⟩, h2⟩ := hmem z hz
    rw [e3, e4]
    exact K.owns _ (by decide) (h.n.dr z0 hz0)
  · exact K.owns _ (by decide) h.n.iw
  · exact ⟨_, K.owns _ (by decide) h.dd⟩

/-- A cell of a ward is stored. -/
theorem RefAt.set1 {x : RX} {N : NM} {vL : List Value} {w : World} (h : RefAt x N vL w) (hb : NLen x N) (k : Nat) (y : RSt) (v v' : WN) (hy : x.st[k]? = some y) (hv : N.wn[k]? = some v) (hws : v'.ws = v.ws) (h8 : v'.now.regs.length = 8 ∧ v'.was.regs.length = 8) (c : Nat) (hc : c < 29) (u : Value) (hu : (rwardCells (rwOf y v)).set c u = rwardCells (rwOf y v')) :
    RefAt x (putW N k v') vL (w.setCell ⟨x.gW, k * 29 + c, none⟩ u) := by
  have hr := rws_at x N k y v hy hv
  have hk := (List.getElem?_eq_some_iff.1 hr).1
  have hkl := rws_len x N hb
  obtain ⟨cur, hgW⟩ := h.blockW
  refine h.storeW hb k y v v' hy hv hws h8 (Keep.set hgW u) ?_
  have hsh := h.shape hb
  have := owns_set hsh.ow (k * 29 + c) (by omega) u
  rw [flat_set rwardCells 29 (rwsOf x N) (fun z hz => rward_len z (h.n.rg z hz).2) k c (rwOf y v) (rwOf y v') hr (rward_len _ h8) hc u hu] at this
  rw [hkl] at this
  exact this

theorem stI_len (s : StV) (h : s.regs.length = 8) : (stI s).length = 13 := by simp [stI, h]
theorem rw_set_now (y : RSt) (v : WN) (s' : StV) (c : Nat) (hc : c < 13) (h8 : v.now.regs.length = 8) (u : Value) (hu : (stI v.now).set c u = stI s') : (rwardCells (rwOf y v)).set (3 + c) u = rwardCells (rwOf y { v with now := s' }) := by
  unfold rwardCells rwOf
  simp only
  rw [← hu, List.append_assoc, List.append_assoc, List.set_append_right _ _ (by simp), List.set_append_left _ _ (by rw [stI_len _ h8]; simp; omega)]
  simp
/-- A cell of a ward's state is stored. -/
theorem RefAt.setNow {x : RX} {N : NM} {vL : List Value} {w : World} (h : RefAt x N vL w) (hb : NLen x N) (k : Nat) (y : RSt) (v : WN) (hy : x.st[k]? = some y) (hv : N.wn[k]? = some v) (s' : StV) (h8 : s'.regs.length = 8) (c : Nat) (hc : c < 13) (u : Value) (hu : (stI v.now).set c u = stI s') :
    RefAt x (putW N k { v with now := s' }) vL (w.setCell ⟨x.gW, k * 29 + 3 + c, none⟩ u) := by
  have hB := hb.s8 v (List.mem_of_getElem? hv)
  rw [Nat.add_assoc]
  exact h.set1 hb k y v { v with now := s' } hy hv rfl ⟨h8, hB.2⟩ (3 + c) (by omega) u (rw_set_now y v s' c hc hB.1 u hu)

theorem stI_reg (s : StV) (h : s.regs.length = 8) (a : Nat) (ha : a < 8) (z : Int) : (stI s).set a (.int .i64 z) = stI { s with regs := s.regs.set a z } := by
  unfold stI
  rw [List.set_append_left _ _ (by simp; omega), List.map_set]
theorem stI_place (s : StV) (h : s.regs.length = 8) (z : Int) : (stI s).set 8 (.int .i64 z) = stI { s with place := z } := by
  unfold stI
  rw [List.set_append_right _ _ (by simp; omega)]
  simp [h]
theorem stI_status (s : StV) (h : s.regs.length = 8) (z : Int) : (stI s).set 9 (.int .i64 z) = stI { s with status := z } := by
  unfold stI
  rw [List.set_append_right _ _ (by simp; omega)]
  simp [h]
theorem stI_cause (s : StV) (h : s.regs.length = 8) (z : Int) : (stI s).set 10 (.int .i64 z) = stI { s with cause := z } := by
  unfold stI
  rw [List.set_append_right _ _ (by simp; omega)]
  simp [h]
theorem stI_busy (s : StV) (h : s.regs.length = 8) (z : Int) : (stI s).set 11 (.int .i64 z) = stI { s with busy := z } := by
  unfold stI
  rw [List.set_append_right _ _ (by simp; omega)]
  simp [h]
theorem stI_y (s : StV) (h : s.regs.length = 8) (z : Bool) : (stI s).set 12 (.bool z) = stI { s with y := z } := by
  unfold stI
  rw [List.set_append_right _ _ (by simp; omega)]
  simp [h]

/-- The cells of a ward's state. -/
theorem RefAt.st {x : RX} {N : NM} {vL : List Value} {w : World} (h : RefAt x N vL w) (hb : NLen x N) (k : Nat) (y : RSt) (v : WN) (hy : x.st[k]? = some y) (hv : N.wn[k]? = some v) (j : Nat) (hj : j < 13) : w.cell? ⟨x.gW, k * 29 + 3 + j, none⟩ = (stI v.now)[j]? := by
  have hB := hb.s8 v (List.mem_of_getElem? hv)
  rw [Nat.add_assoc, h.cell hb k y v hy hv (3 + j) (by omega)]
  unfold rwardCells rwOf
  simp only
  rw [List.append_assoc, List.getElem?_append_right (by simp), List.getElem?_append_left (by rw [stI_len _ hB.1]; simp; omega)]
  simp
theorem RefAt.reg {x : RX} {N : NM} {vL : List Value} {w : World} (h : RefAt x N vL w) (hb : NLen x N) (k : Nat) (y : RSt) (v : WN) (hy : x.st[k]? = some y) (hv : N.wn[k]? = some v) (a : Nat) (ha : a < 8) : w.cell? ⟨x.gW, k * 29 + 3 + a, none⟩ = some (.int .i64 (v.now.regs.getD a 0)) := by
  have hB := (hb.s8 v (List.mem_of_getElem? hv)).1
  rw [h.st hb k y v hy hv a (by omega)]
  unfold stI
  rw [List.getElem?_append_left (by simp; omega), List.getElem?_map, List.getD_eq_getElem?_getD, List.getElem?_eq_getElem (by omega)]
  rfl
theorem RefAt.rest {x : RX} {N : NM} {vL : List Value} {w : World} (h : RefAt x N vL w) (hb : NLen x N) (k : Nat) (y : RSt) (v : WN) (hy : x.st[k]? = some y) (hv : N.wn[k]? = some v) :
    w.cell? ⟨x.gW, k * 29 + 3 + 8, none⟩ = some (.int .i64 v.now.place) ∧ w.cell? ⟨x.gW, k * 29 + 3 + 9, none⟩ = some (.int .i64 v.now.status) ∧ w.cell? ⟨x.gW, k * 29 + 3 + 10, none⟩ = some (.int .i64 v.now.cause) ∧ w.cell? ⟨x.gW, k * 29 + 3 + 11, none⟩ = some (.int .i64 v.now.busy) ∧ w.cell? ⟨x.gW, k * 29 + 3 + 12, none⟩ = some (.bool v.now.y) := by
  have hB := (hb.s8 v (List.mem_of_getElem? hv)).1
  have e : ∀ j, 8 ≤ j → j < 13 → w.cell? ⟨x.gW, k * 29 + 3 + j, none⟩ = ([.int .i64 v.now.place, .int .i64 v.now.status, .int .i64 v.now.cause, .int .i64 v.now.busy, .bool v.now.y] : List Value)[j - 8]? := by
    intro j h1 h2
    rw [h.st hb k y v hy hv j h2]
    unfold stI
    rw [List.getElem?_append_right (by simp; omega)]
    simp [hB]
  exact ⟨e 8 (by omega) (by omega), e 9 (by omega) (by omega), e 10 (by omega) (by omega), e 11 (by omega) (by omega), e 12 (by omega) (by omega)⟩
theorem RefAt.vr {x : RX} {N : NM} {vL : List Value} {w : World} (h : RefAt x N vL w) (hb : NLen x N) (k : Nat) (y : RSt) (v : WN) (hy : x.st[k]? = some y) (hv : N.wn[k]? = some v) : w.cell? ⟨x.gW, k * 29 + 1, none⟩ = some y.vR ∧ w.cell? ⟨x.gW, k * 29 + 2, none⟩ = some y.vD ∧ w.cell? ⟨x.gW, k * 29, none⟩ = some (.int .i64 y.q) := by
  refine ⟨?_, ?_, ?_⟩
  · rw [h.cell hb k y v hy hv 1 (by omega)]; rfl
  · rw [h.cell hb k y v hy hv 2 (by omega)]; rfl
  · have := h.cell hb k y v hy hv 0 (by omega)
    rw [Nat.add_zero] at this
    rw [this]; rfl
theorem RefAt.frF {x : RX} {N : NM} {vL : List Value} {w w' : World} (h : RefAt x N vL w) (hf : Fr (fun _ => False) w w') : RefAt x N vL w' :=
  ⟨h.n.fr hf, hf.ownsF _ h.dd, h.l3, fun i d v h1 h2 => hf.ownsF _ (h.lg i d v h1 h2), h.sl, h.ss⟩
theorem RefAt.rr {x : RX} {N : NM} {vL : List Value} {w : World} (h : RefAt x N vL w) (k : Nat) (y : RSt) (v : WN) (hy : x.st[k]? = some y) (hv : N.wn[k]? = some v) : RRegsAt w 0 y.vR (List.zipWith rregOf y.regs v.ws) ∧ w.ownsRow 0 3 1 y.vD y.devs.length (y.devs.map (Value.int .i64)) := by
  have hr := List.mem_of_getElem? (rws_at x N k y v hy hv)
  exact ⟨(h.n.rg _ hr).1, h.n.dr _ hr⟩
theorem zip_regs (y : RSt) (ws : List (List Int)) (hl : ws.length = y.regs.length) : (List.zipWith rregOf y.regs ws).map (·.r) = y.regs.map (·.1) := by
  rw [List.map_zipWith]
  have : ∀ (a : List (Reg × Nat)) (b : List (List Int)), b.length = a.length → List.zipWith (fun p u => (rregOf p u).r) a b = a.map (·.1) := by
    intro a
    induction a with
    | nil => intro b _; simp
    | cons p a ih =>
      intro b hb
      cases b with
      | nil => simp at hb
      | cons u b =>
        simp only [List.zipWith_cons_cons, List.map_cons]
        rw [ih b (by simpa using hb)]
        rfl
  exact this _ _ hl

theorem putW_self (N : NM) (k : Nat) (v v' : WN) (hv : N.wn[k]? = some v) : (putW N k v').wn[k]? = some v' := List.getElem?_set_self (List.getElem?_eq_some_iff.1 hv).1
theorem putW_put (N : NM) (k : Nat) (v v' : WN) : putW (putW N k v) k v' = putW N k v' := by unfold putW; simp [List.set_set]
/-- A ward otherwise, with as many words. -/
theorem NLen.put {x : RX} {N : NM} (h : NLen x N) (k : Nat) (v v' : WN) (hv : N.wn[k]? = some v) (h8 : v'.now.regs.length = 8 ∧ v'.was.regs.length = 8) (hl : v'.ws.map List.length = v.ws.map List.length) : NLen x (putW N k v') := by
  have hll : v'.ws.length = v.ws.length := by have := congrArg List.length hl; simpa using this
  refine ⟨by unfold putW; simp [h.l1], h.l2, h.l4, ?_, ?_⟩
  · intro u hu
    rcases List.mem_or_eq_of_mem_set hu with h1 | h1
    · exact h.s8 u h1
    · rw [h1]; exact h8
  · intro k' u y hu hy
    by_cases hk : k = k'
    · subst hk
      rw [putW_self N k v v' hv] at hu
      cases hu
      obtain ⟨h1, h2⟩ := h.wl k v y hv hy
      refine ⟨by rw [hll]; exact h1, ?_⟩
      intro j p u' hp hu'
      have hj : j < v.ws.length := by rw [← hll]; exact (List.getElem?_eq_some_iff.1 hu').1
      have e : (v'.ws.map List.length)[j]? = (v.ws.map List.length)[j]? := by rw [hl]
      rw [List.getElem?_map, List.getElem?_map, hu', List.getElem?_eq_getElem hj] at e
      simp only [Option.map_some, Option.some.injEq] at e
      rw [e]
      exact h2 j p _ hp (List.getElem?_eq_getElem hj)
    · have : (putW N k v').wn[k']? = N.wn[k']? := List.getElem?_set_ne hk
      rw [this] at hu
      exact h.wl k' u y hu hy
theorem NLen.wi {x : RX} {N : NM} (h : NLen x N) (wi : List (Int × Int)) (hl : wi.length = N.wi.length) : NLen x { N with wi := wi } := ⟨h.l1, by simp only; rw [hl]; exact h.l2, h.l4, h.s8, h.wl⟩
theorem NLen.dv {x : RX} {N : NM} (h : NLen x N) (dv : List DevV) (hl : dv.length = N.devs.length) : NLen x { N with devs := dv } := ⟨h.l1, h.l2, by simp only; rw [hl]; exact h.l4, h.s8, h.wl⟩

/-- The blocks that a net of the reference may write. -/
def RA (x : RX) (vL : List Value) (b : Nat) : Prop := b = x.Y ∨ b = x.gW ∨ x.vI.ownBlock = some b ∨ x.vD.ownBlock = some b ∨ (∃ y ∈ x.st, ∃ p ∈ y.regs, b = p.2) ∨ ∃ v ∈ vL, v.ownBlock = some b
/-- The static parts are those of a machine. -/
structure RKx (x : RX) (kx : KX) : Prop where
  gap : kx.gap = x.gap
  qs : kx.qs = x.st.map (·.q)
  regs : kx.regs = x.st.map (fun y => y.regs.map (·.1))
  wires : kx.wires = x.wires
  dvs : kx.dvs = x.st.map (·.devs)

end Go.Proofs.YthmcheoehcmglaaGreat
/- The reference's net: words, wires, devices and the clock are stored. -/
namespace Go.Proofs.YthmcheoehcmglaaGreat
open Go.RowKit
set_option linter.unusedVariables false

theorem flat_same {α β : Type} (f : α → List β) : ∀ (l : List α) (k : Nat) (a a' : α), l[k]? = some a → f a' = f a → (l.set k a').flatMap f = l.flatMap f := by
  intro l
  induction l with
  | nil => intro k a a' h; simp at h
  | cons b l ih =>
    intro k a a' h e
    cases k with
    | zero =>
      simp only [List.getElem?_cons_zero, Option.some.injEq] at h
      subst h
      simp [e]
    | succ k =>
      simp only [List.set_cons_succ, List.flatMap_cons]
      rw [ih k a a' (by simpa using h) e]

theorem block_inj {x : RX} (h : (x.st.flatMap (fun y => y.regs.map (·.2))).Nodup) {k k' j j' : Nat} {y y' : RSt} {p p' : Reg × Nat} (hy : x.st[k]? = some y) (hy' : x.st[k']? = some y') (hp : y.regs[j]? = some p) (hp' : y'.regs[j']? = some p') (e : p.2 = p'.2) : k = k' ∧ j = j' := by
  unfold List.Nodup at h
  rw [List.pairwise_flatMap] at h
  obtain ⟨h1, h2⟩ := h
  have hk := List.getElem?_eq_some_iff.1 hy
  have hk' := List.getElem?_eq_some_iff.1 hy'
  have hm : p.2 ∈ y.regs.map (·.2) := List.mem_map.2 ⟨p, List.mem_of_getElem? hp, rfl⟩
  have hm' : p'.2 ∈ y'.regs.map (·.2) := List.mem_map.2 ⟨p', List.mem_of_getElem? hp', rfl⟩
  have hkk : k = k' := by
    rw [List.pairwise_iff_getElem] at h2
    rcases Nat.lt_trichotomy k k' with hlt | he | hgt
    · have := h2 k k' hk.1 hk'.1 hlt p.2 (by rw [hk.2]; exact hm) p'.2 (by rw [hk'.2]; exact hm')
      exact absurd e this
    · exact he
    · have := h2 k' k hk'.1 hk.1 hgt p'.2 (by rw [hk'.2]; exact hm') p.2 (by rw [hk.2]; exact hm)
      exact absurd e.symm this
  refine ⟨hkk, ?_⟩
  subst hkk
  rw [hy] at hy'
  cases hy'
  have h3 := h1 y (List.mem_of_getElem? hy)
  rw [List.pairwise_iff_getElem] at h3
  have hj := List.getElem?_eq_some_iff.1 hp
  have hj' := List.getElem?_eq_some_iff.1 hp'
  rcases Nat.lt_trichotomy j j' with hlt | he | hgt
  · have := h3 j j' (by simpa using hj.1) (by simpa using hj'.1) hlt
    simp only [List.getElem_map, hj.2, hj'.2] at this
    exact absurd e this
  · exact he
  · have := h3 j' j (by simpa using hj'.1) (by simpa using hj.1) hgt
    simp only [List.getElem_map, hj.2, hj'.2] at this
    exact absurd e.symm this

theorem zip_at (y : RSt) (ws : List (List Int)) (j : Nat) (p : Reg × Nat) (u : List Int) (hp : y.regs[j]? = some p) (hu : ws[j]? = some u) : (List.zipWith rregOf y.regs ws)[j]? = some (rregOf p u) := by rw [List.getElem?_zipWith, hp, hu]
theorem zip_inv (y : RSt) (ws : List (List Int)) (j : Nat) (r : RReg) (h : (List.zipWith rregOf y.regs ws)[j]? = some r) : ∃ p u, y.regs[j]? = some p ∧ ws[j]? = some u ∧ r = rregOf p u := by
  rw [List.getElem?_zipWith] at h
  cases h1 : y.regs[j]? with
  | none => rw [h1] at h; cases h
  | some p =>
    cases h2 : ws[j]? with
    | none => rw [h1, h2] at h; cases h
    | some u => rw [h1, h2] at h; exact ⟨p, u, rfl, rfl, (Option.some.inj h).symm⟩

/-- A word of a region is stored. -/
theorem RefAt.setWord {x : RX} {N : NM} {vL : List Value} {w : World} (h : RefAt x N vL w) (hx : RXok x) (hb : NLen x N) (k : Nat) (y : RSt) (v : WN) (hy : x.st[k]? = some y) (hv : N.wn[k]? = some v) (j : Nat) (p : Reg × Nat) (u : List Int) (hp : y.regs[j]? = some p) (hu : v.ws[j]? = some u) (i : Nat) (z : Int) :
    RefAt x (putW N k { v with ws := v.ws.set j (u.set i z) }) vL (w.setCell ⟨p.2, i, none⟩ (.int .i64 z)) := by
  have hr := rws_at x N k y v hy hv
  have hrr := (h.rr k y v hy hv).1
  have hpu := zip_at y v.ws j p u hp hu
  have hblk := (hrr.blk _ (List.mem_of_getElem? hpu)).1
  have hf : Fr (fun b => b = p.2) w (w.setCell ⟨p.2, i, none⟩ (.int .i64 z)) := Fr.one w p.2 i _
  have K : Keep w (w.setCell ⟨p.2, i, none⟩ (.int .i64 z)) 3 := Keep.set hblk _
  have hnew : (w.setCell ⟨p.2, i, none⟩ (.int .i64 z)).heap[p.2]? = some (.cells (intCells (u.set i z)).toArray 3 (0, 0)) := by
    have hblk' : w.heap[p.2]? = some (.cells (intCells u).toArray 3 (0, 0)) := hblk
    rw [row_set hblk' i (.int .i64 z)]
    unfold intCells
    simp [List.map_set]
  have e := rws_set x N k y hy { v with ws := v.ws.set j (u.set i z) }
  have hdo : ∀ y' ∈ x.st, ∀ b, y'.vD.ownBlock = some b → ¬ b = p.2 := fun y' hy' b hb' e' => hx.sd y' hy' b hb' y (List.mem_of_getElem? hy) p (List.mem_of_getElem? hp) e'.symm
  refine ⟨⟨K _ _ _ _ h.n.hy (by decide), ?_, ?_, ?_, K.owns _ (by decide) h.n.iw, ⟨_, K.owns _ (by decide) h.dd⟩⟩, K.owns _ (by decide) h.dd, h.l3, ?_, h.sl, h.ss⟩
  · rw [e, flat_same rwardCells (rwsOf x N) k (rwOf y v) (rwOf y { v with ws := v.ws.set j (u.set i z) }) hr rfl, List.length_set]
    exact K.owns _ (by decide) h.n.ow
  · rw [e]
    intro r hrm
    obtain ⟨k', hk'⟩ := List.getElem?_of_mem hrm
    by_cases hkk : k = k'
    · subst hkk
      rw [List.getElem?_set_self (List.getElem?_eq_some_iff.1 hr).1] at hk'
      cases hk'
      refine ⟨⟨?_, ?_, ?_⟩, (h.n.rg _ (List.mem_of_getElem? hr)).2⟩
      · have : (List.zipWith rregOf y.regs (v.ws.set j (u.set i z))).flatMap rrCells = (List.zipWith rregOf y.regs v.ws).flatMap rrCells := by
          rw [zipWith_set rregOf y.regs v.ws j p (u.set i z) hp]
          refine flat_same rrCells _ j (rregOf p u) _ hpu ?_
          unfold rrCells rregOf
          simp
        show World.ownsRow _ 0 _ 5 y.vR (List.zipWith rregOf y.regs (v.ws.set j (u.set i z))).length ((List.zipWith rregOf y.regs (v.ws.set j (u.set i z))).flatMap rrCells)
        rw [this, zipWith_set rregOf y.regs v.ws j p (u.set i z) hp, List.length_set]
        exact K.owns _ (by decide) hrr.own
      · intro r hrm2
        obtain ⟨j', hj'⟩ := List.getElem?_of_mem hrm2
        obtain ⟨p', u', hp', hu', rfl⟩ := zip_inv _ _ _ _ hj'
        refine ⟨?_, Nat.zero_le _⟩
        by_cases hjj : j = j'
        · subst hjj
          rw [hp] at hp'
          cases hp'
          rw [List.getElem?_set_self (List.getElem?_eq_some_iff.1 hu).1] at hu'
          cases hu'
          exact hnew
        · rw [List.getElem?_set_ne hjj] at hu'
          have hb' := (hrr.blk _ (List.mem_of_getElem? (zip_at y v.ws j' p' u' hp' hu'))).1
          refine hf.get hb' ?_
          intro e'
          exact hjj (block_inj hx.sp hy hy hp hp' e'.symm).2
      · show ((List.zipWith rregOf y.regs (v.ws.set j (u.set i z))).map (·.g)).Pairwise (· < ·)
        have : (List.zipWith rregOf y.regs (v.ws.set j (u.set i z))).map (·.g) = (List.zipWith rregOf y.regs v.ws).map (·.g) := by
          rw [zipWith_set rregOf y.regs v.ws j p (u.set i z) hp, List.map_set]
          apply List.ext_getElem?
          intro m
          rw [List.getElem?_set]
          by_cases hjm : j = m
          · subst hjm
            rw [if_pos rfl, if_pos (by simpa using (List.getElem?_eq_some_iff.1 hpu).1), List.getElem?_map, hpu]
            rfl
          · rw [if_neg hjm]
        rw [this]
        exact hrr.inc
    · rw [List.getElem?_set_ne hkk] at hk'
      obtain ⟨y', v', hy', hv', rfl⟩ := rws_inv x N k' r hk'
      have hz := h.n.rg _ (List.mem_of_getElem? hk')
      refine ⟨⟨K.owns _ (by decide) hz.1.own, ?_, hz.1.inc⟩, hz.2⟩
      intro r hrm2
      obtain ⟨j', hj'⟩ := List.getElem?_of_mem hrm2
      obtain ⟨p', u', hp', hu', rfl⟩ := zip_inv _ _ _ _ hj'
      refine ⟨hf.get (hz.1.blk _ hrm2).1 ?_, Nat.zero_le _⟩
      intro e'
      exact hkk (block_inj hx.sp hy hy' hp hp' e'.symm).1
  · rw [e]
    intro r hrm
    obtain ⟨k', hk'⟩ := List.getElem?_of_mem hrm
    have hd : ∃ y', y' ∈ x.st ∧ r.vD = y'.vD ∧ r.devs = y'.devs := by
      by_cases hkk : k = k'
      · subst hkk
        rw [List.getElem?_set_self (List.getElem?_eq_some_iff.1 hr).1] at hk'
        cases hk'
        exact ⟨y, List.mem_of_getElem? hy, rfl, rfl⟩
      · rw [List.getElem?_set_ne hkk] at hk'
        obtain ⟨y', v', hy', hv', rfl⟩ := rws_inv x N k' r hk'
        exact ⟨y', List.mem_of_getElem? hy', rfl, rfl⟩
    obtain ⟨y', hy', e1, e2⟩ := hd
    obtain ⟨k2, hk2⟩ := List.getElem?_of_mem hy'
    have hkl : k2 < N.wn.length := by rw [hb.l1]; exact (List.getElem?_eq_some_iff.1 hk2).1
    have := (h.rr k2 y' _ hk2 (List.getElem?_eq_getElem hkl)).2
    rw [e1, e2]
    exact hf.owns this (fun b hb' => hdo y' hy' b hb')
  · intro m d u' h1 h2
    exact hf.owns (h.lg m d u' h1 h2) (fun b hb' e' => (h.sl u' (List.mem_of_getElem? h2) b hb').1 y (List.mem_of_getElem? hy) p (List.mem_of_getElem? hp) e'.symm)

/-- A wire's cell is stored. -/
theorem RefAt.setWire {x : RX} {N : NM} {vL : List Value} {w : World} (h : RefAt x N vL w) (hb : NLen x N) (g cap : Nat) (hI : x.vI = .slice (some ⟨g, 0, none⟩) x.wires.length cap) (i : Nat) (p c c' : Int × Int) (hp : x.wires[i]? = some p) (hc : N.wi[i]? = some c) (o : Nat) (ho : o < 4) (u : Value)
    (hu : (rwireCells (p.1, p.2, c.1, c.2)).set o u = rwireCells (p.1, p.2, c'.1, c'.2)) : RefAt x { N with wi := N.wi.set i c' } vL (w.setCell ⟨g, i * 4 + o, none⟩ u) := by
  have hw := wis_at x N i p c hp hc
  have hl := wis_len x N hb
  have hil := (List.getElem?_eq_some_iff.1 hw).1
  have hiw := h.n.iw
  rw [hI, hl] at hiw
  have hgb : ∃ cur, w.heap[g]? = some (.cells cur 124 (0, 0)) := by
    rcases hiw.2 with ⟨h1, _⟩ | ⟨g', cap', cur, h1, _, hg, _⟩
    · simp at h1
    · simp only [Value.slice.injEq, Option.some.injEq, Addr.mk.injEq] at h1
      obtain ⟨⟨rfl, _⟩, _, _⟩ := h1
      exact ⟨cur, hg⟩
  obtain ⟨cur, hgb⟩ := hgb
  have K : Keep w (w.setCell ⟨g, i * 4 + o, none⟩ u) 124 := Keep.set hgb u
  have e : wisOf x { N with wi := N.wi.set i c' } = (wisOf x N).set i (p.1, p.2, c'.1, c'.2) := zipWith_set _ x.wires N.wi i p c' hp
  refine ⟨⟨K _ _ _ _ h.n.hy (by decide), K.owns _ (by decide) h.n.ow, fun z hz => ⟨K.regs (h.n.rg z hz).1 (by decide) (by decide), (h.n.rg z hz).2⟩, fun z hz => K.owns _ (by decide) (h.n.dr z hz), ?_, ⟨_, K.owns _ (by decide) h.dd⟩⟩, K.owns _ (by decide) h.dd, h.l3, fun i d v h1 h2 => K.owns _ (by decide) (h.lg i d v h1 h2), h.sl, h.ss⟩
  have := owns_set hiw (i * 4 + o) (by omega) u
  rw [flat_set rwireCells 4 (wisOf x N) (fun _ _ => rfl) i o _ (p.1, p.2, c'.1, c'.2) hw rfl ho u hu] at this
  rw [e, List.length_set, hl, hI]
  exact this

theorem rdev_get (devs : List DevV) (vL : List Value) (i : Nat) (d : DevV) (v : Value) (h1 : devs[i]? = some d) (h2 : vL[i]? = some v) : (rdevCells devs vL)[i * 2]? = some (.int .i64 d.1) ∧ (rdevCells devs vL)[i * 2 + 1]? = some v := by
  have hz : (devs.zip vL)[i]? = some (d, v) := by rw [List.getElem?_zip_eq_some]; exact ⟨h1, h2⟩
  obtain ⟨hi, he⟩ := List.getElem?_eq_some_iff.1 hz
  have e0 := flat_get (fun p : DevV × Value => [.int .i64 p.1.1, p.2]) 2 (fun _ => rfl) (devs.zip vL) i 0 hi (by omega)
  have e1 := flat_get (fun p : DevV × Value => [.int .i64 p.1.1, p.2]) 2 (fun _ => rfl) (devs.zip vL) i 1 hi (by omega)
  rw [he] at e0 e1
  exact ⟨e0, e1⟩
theorem rdev_set1 (i : Nat) : ∀ (devs : List DevV) (vL : List Value) (d : DevV) (l : List Int) (v : Value), devs[i]? = some d → i < vL.length → rdevCells (devs.set i (d.1, l)) (vL.set i v) = (rdevCells devs vL).set (i * 2 + 1) v := by
  induction i with
  | zero =>
    intro devs vL d l v hd hv
    match devs, vL, hv with
    | d' :: devs, u :: vL, _ =>
      cases hd
      simp [rdevCells]
  | succ i ih =>
    intro devs vL d l v hd hv
    match devs, vL, hv with
    | d' :: devs, u :: vL, hv =>
      have := ih devs vL d l v (by simpa using hd) (by simpa using hv)
      unfold rdevCells at this ⊢
      simp only [List.set_cons_succ, List.zip_cons_cons, List.flatMap_cons]
      rw [this, show (i + 1) * 2 + 1 = (i * 2 + 1) + 1 + 1 by omega]
      rfl
theorem rdev_set0 (i : Nat) : ∀ (devs : List DevV) (vL : List Value) (d : DevV) (v : Int), devs[i]? = some d → i < vL.length → rdevCells (devs.set i (v, d.2)) vL = (rdevCells devs vL).set (i * 2) (.int .i64 v) := by
  induction i with
  | zero =>
    intro devs vL d v hd hv
    match devs, vL, hv with
    | d' :: devs, u :: vL, _ =>
      cases hd
      simp [rdevCells]
  | succ i ih =>
    intro devs vL d v hd hv
    match devs, vL, hv with
    | d' :: devs, u :: vL, hv =>
      have := ih devs vL d v (by simpa using hd) (by simpa using hv)
      unfold rdevCells at this ⊢
      simp only [List.set_cons_succ, List.zip_cons_cons, List.flatMap_cons]
      rw [this, show (i + 1) * 2 = (i * 2) + 1 + 1 by omega]
      rfl

/-- The clock is stored. -/
theorem RefAt.setCk {x : RX} {N : NM} {vL : List Value} {w : World} (h : RefAt x N vL w) (z : Int) : RefAt x { N with ck := z } vL (w.setCell ⟨x.Y, 5, none⟩ (.int .i64 z)) := by
  have K : Keep w (w.setCell ⟨x.Y, 5, none⟩ (.int .i64 z)) 122 := Keep.set h.n.hy _
  refine ⟨⟨?_, K.owns _ (by decide) h.n.ow, fun z hz => ⟨K.regs (h.n.rg z hz).1 (by decide) (by decide), (h.n.rg z hz).2⟩, fun z hz => K.owns _ (by decide) (h.n.dr z hz), K.owns _ (by decide) h.n.iw, ⟨_, K.owns _ (by decide) h.dd⟩⟩, K.owns _ (by decide) h.dd, h.l3, fun i d v h1 h2 => K.owns _ (by decide) (h.lg i d v h1 h2), h.sl, h.ss⟩
  rw [row_set h.n.hy]
  rfl

/-- A latch is stored. -/
theorem RefAt.setLatch {x : RX} {N : NM} {vL : List Value} {w : World} (h : RefAt x N vL w) (g cap : Nat) (hD : x.vD = .slice (some ⟨g, 0, none⟩) N.devs.length cap) (i : Nat) (d : DevV) (hd : N.devs[i]? = some d) (z : Int) :
    RefAt x { N with devs := N.devs.set i (z, d.2) } vL (w.setCell ⟨g, i * 2, none⟩ (.int .i64 z)) := by
  have hdd := h.dd
  rw [hD] at hdd
  obtain ⟨cur, hgb⟩ := own_block hdd
  have hil := (List.getElem?_eq_some_iff.1 hd).1
  have K : Keep w (w.setCell ⟨g, i * 2, none⟩ (.int .i64 z)) 157 := Keep.set hgb _
  have hs := owns_set hdd (i * 2) (by omega) (.int .i64 z)
  rw [← rdev_set0 i N.devs vL d z hd (by rw [h.l3]; exact hil)] at hs
  have hl : (N.devs.set i (z, d.2)).length = N.devs.length := List.length_set ..
  have hs' : World.ownsRow (w.setCell ⟨g, i * 2, none⟩ (.int .i64 z)) 0 157 2 x.vD (N.devs.set i (z, d.2)).length (rdevCells (N.devs.set i (z, d.2)) vL) := by rw [hl, hD]; exact hs
  refine ⟨⟨K _ _ _ _ h.n.hy (by decide), K.owns _ (by decide) h.n.ow, fun z hz => ⟨K.regs (h.n.rg z hz).1 (by decide) (by decide), (h.n.rg z hz).2⟩, fun z hz => K.owns _ (by decide) (h.n.dr z hz), K.owns _ (by decide) h.n.iw, ⟨_, hs'⟩⟩, hs', by simp only; rw [hl]; exact h.l3, ?_, h.sl, h.ss⟩
  intro m d' v h1 h2
  simp only at h1
  by_cases hm : i = m
  · subst hm
    rw [List.getElem?_set_self hil] at h1
    cases h1
    exact K.owns _ (by decide) (h.lg i d v hd h2)
  · rw [List.getElem?_set_ne hm] at h1
    exact K.owns _ (by decide) (h.lg m d' v h1 h2)

/-- A device's log has grown. -/
theorem RefAt.logged {x : RX} {N : NM} {vL : List Value} {w w3 : World} (h : RefAt x N vL w) (hx : RXok x) (hb : NLen x N) (g cap : Nat) (hD : x.vD = .slice (some ⟨g, 0, none⟩) N.devs.length cap) (i : Nat) (d : DevV) (vo : Value) (hd : N.devs[i]? = some d) (hvo : vL[i]? = some vo) (z : Int) (gg cp : Nat)
    (hown : w3.ownsRow 0 3 1 (.slice (some ⟨gg, 0, none⟩) (d.2.length + 1) cp) (d.2.length + 1) (d.2.map (Value.int .i64) ++ [Value.int .i64 z])) (hf : Fr (fun b => vo.ownBlock = some b) w w3) (hg : vo.ownBlock = some gg ∨ gg = w.heap.size) :
    RefAt x { N with devs := N.devs.set i (d.1, d.2 ++ [z]) } (vL.set i (.slice (some ⟨gg, 0, none⟩) (d.2.length + 1) cp)) (w3.setCell ⟨g, i * 2 + 1, none⟩ (.slice (some ⟨gg, 0, none⟩) (d.2.length + 1) cp)) := by
  have hil := (List.getElem?_eq_some_iff.1 hd).1
  have hvl := (List.getElem?_eq_some_iff.1 hvo).1
  have ho := h.lg i d vo hd hvo
  have K1 : Keep w w3 3 := Keep.app hf ho
  have hdd3 := K1.owns _ (by decide) h.dd
  rw [hD] at hdd3
  obtain ⟨cur, hgb⟩ := own_block hdd3
  generalize hu : Value.slice (some ⟨gg, 0, none⟩) (d.2.length + 1) cp = u at *
  have hub : u.ownBlock = some gg := by rw [← hu]; rfl
  have K2 : Keep w3 (w3.setCell ⟨g, i * 2 + 1, none⟩ u) 157 := Keep.set hgb _
  have K : ∀ e, e ≠ 3 → e ≠ 157 → Owns w (w3.setCell ⟨g, i * 2 + 1, none⟩ u) e := fun e h1 h2 {_ _ _ _ _} ho' => K2.owns e h2 (K1.owns e h1 ho')
  have hs := owns_set hdd3 (i * 2 + 1) (by omega) u
  rw [← rdev_set1 i N.devs vL d (d.2 ++ [z]) u hd hvl] at hs
  have hl : (N.devs.set i (d.1, d.2 ++ [z])).length = N.devs.length := List.length_set ..
  have hs' : World.ownsRow (w3.setCell ⟨g, i * 2 + 1, none⟩ u) 0 157 2 x.vD (N.devs.set i (d.1, d.2 ++ [z])).length (rdevCells (N.devs.set i (d.1, d.2 ++ [z])) (vL.set i u)) := by rw [hl, hD]; exact hs
  have hfi : ∀ (v : Value) (n : Nat) (cs : List Value), w.ownsRow 0 3 1 v n cs → (∀ b, v.ownBlock = some b → vo.ownBlock ≠ some b) → (w3.setCell ⟨g, i * 2 + 1, none⟩ u).ownsRow 0 3 1 v n cs := fun v n cs h1 h2 => K2.owns _ (by decide) (hf.owns h1 h2)
  have hsl := h.sl vo (List.mem_of_getElem? hvo)
  have hlt : ∀ b, vo.ownBlock = some b → b < w.heap.size := fun b hb' => (ho.lt b hb').2
  -- blocks that are there are not the new one
  have hfresh : ∀ b, b < w.heap.size → (vo.ownBlock ≠ some b) → b ≠ gg := by
    intro b h1 h2 e'
    subst e'
    rcases hg with h3 | h3
    · exact h2 h3
    · omega
  refine ⟨⟨?_, K _ (by decide) (by decide) h.n.ow, ?_, ?_, K _ (by decide) (by decide) h.n.iw, ⟨_, hs'⟩⟩, hs', by simp only; rw [List.length_set, hl]; exact h.l3, ?_, ?_, ?_⟩
  · exact K2 _ _ _ _ (K1 _ _ _ _ h.n.hy (by decide)) (by decide)
  · intro r hr
    obtain ⟨k', hk'⟩ := List.getElem?_of_mem hr
    obtain ⟨y', v', hy', hv', rfl⟩ := rws_inv x N k' r hk'
    have hz := h.n.rg _ hr
    refine ⟨⟨K _ (by decide) (by decide) hz.1.own, ?_, hz.1.inc⟩, hz.2⟩
    intro r' hrm
    obtain ⟨j', hj'⟩ := List.getElem?_of_mem hrm
    obtain ⟨p', u', hp', hu', rfl⟩ := zip_inv _ _ _ _ hj'
    refine ⟨K2 _ _ _ _ (hf.get (hz.1.blk _ hrm).1 ?_) (by decide), Nat.zero_le _⟩
    intro e'
    exact (hsl _ e').1 y' (List.mem_of_getElem? hy') p' (List.mem_of_getElem? hp') rfl
  · intro r hr
    obtain ⟨k', hk'⟩ := List.getElem?_of_mem hr
    obtain ⟨y', v', hy', hv', rfl⟩ := rws_inv x N k' r hk'
    exact hfi _ _ _ (h.n.dr _ hr) (fun b hb' e' => (hsl b e').2 y' (List.mem_of_getElem? hy') hb')
  · intro m d' v h1 h2
    simp only at h1
    by_cases hm : i = m
    · subst hm
      rw [List.getElem?_set_self hil] at h1
      rw [List.getElem?_set_self hvl] at h2
      cases h1
      cases h2
      simp only [List.length_append, List.length_cons, List.length_nil, List.map_append, List.map_cons, List.map_nil]
      exact K2.owns _ (by decide) hown
    · rw [List.getElem?_set_ne hm] at h1 h2
      exact hfi _ _ _ (h.lg m d' v h1 h2) (fun b hb' e' => h.ss i m vo v b hm hvo h2 e' hb')
  · intro v hv b hb'
    rcases List.mem_or_eq_of_mem_set hv with h1 | h1
    · exact h.sl v h1 b hb'
    · rw [h1, hub] at hb'
      cases hb'
      rcases hg with h3 | h3
      · exact hsl gg h3
      · refine ⟨?_, ?_⟩
        · intro z' hz' p' hp' e'
          obtain ⟨k', hk'⟩ := List.getElem?_of_mem hz'
          obtain ⟨j', hj'⟩ := List.getElem?_of_mem hp'
          have hkl : k' < N.wn.length := by rw [hb.l1]; exact (List.getElem?_eq_some_iff.1 hk').1
          have hwl := (hb.wl k' _ z' (List.getElem?_eq_getElem hkl) hk').1
          have hjl : j' < (N.wn[k']).ws.length := by rw [hwl]; exact (List.getElem?_eq_some_iff.1 hj').1
          have hz := (h.rr k' z' _ hk' (List.getElem?_eq_getElem hkl)).1
          have := lt_of_get (hz.blk _ (List.mem_of_getElem? (zip_at z' _ j' p' _ hj' (List.getElem?_eq_getElem hjl)))).1
          have e2 : p'.2 < w.heap.size := this
          omega
        · intro y' hy' e'
          obtain ⟨k', hk'⟩ := List.getElem?_of_mem hy'
          have hkl : k' < N.wn.length := by rw [hb.l1]; exact (List.getElem?_eq_some_iff.1 hk').1
          have := ((h.rr k' y' _ hk' (List.getElem?_eq_getElem hkl)).2.lt gg e').2
          omega
  · intro a b v v' c hab hva hvb hc hc'
    by_cases h1 : i = a
    · subst h1
      rw [List.getElem?_set_self hvl] at hva
      rw [List.getElem?_set_ne hab] at hvb
      cases hva
      rw [hub] at hc
      cases hc
      have hbl : b < N.devs.length := by rw [← h.l3]; exact (List.getElem?_eq_some_iff.1 hvb).1
      have hlt2 := ((h.lg b _ v' (List.getElem?_eq_getElem hbl) hvb).lt gg hc').2
      exact hfresh gg hlt2 (fun e' => h.ss i b vo v' gg hab hvo hvb e' hc') rfl
    · rw [List.getElem?_set_ne h1] at hva
      by_cases h2 : i = b
      · subst h2
        rw [List.getElem?_set_self hvl] at hvb
        cases hvb
        rw [hub] at hc'
        cases hc'
        have hbl : a < N.devs.length := by rw [← h.l3]; exact (List.getElem?_eq_some_iff.1 hva).1
        have hlt2 := ((h.lg a _ v (List.getElem?_eq_getElem hbl) hva).lt gg hc).2
        exact hfresh gg hlt2 (fun e' => h.ss i a vo v gg (fun e => h1 e) hvo hva e' hc) rfl
      · rw [List.getElem?_set_ne h2] at hvb
        exact h.ss a b v v' c hab hva hvb hc hc'

end Go.Proofs.YthmcheoehcmglaaGreat
/- The reference's wireOf and call. -/
namespace Go.Proofs.YthmcheoehcmglaaGreat
open Go.RowKit
set_option linter.unusedVariables false
attribute [local go_sem ↓] Go.wp_at_zero Go.wp_at_succ

def wireV (wires : List (Int × Int)) (n : Int) (k : Nat) (s r : Bool) : Int :=
  match wires[n.toNat]? with
  | none => -1
  | some (f, t) => if ((s && decide (f = (k : Int))) || (r && decide (t = (k : Int)))) = true then n else -1

/-- The wires' cells. -/
theorem RefAt.wcell {x : RX} {N : NM} {vL : List Value} {w : World} (h : RefAt x N vL w) (hb : NLen x N) (g cap : Nat) (hI : x.vI = .slice (some ⟨g, 0, none⟩) x.wires.length cap) (i : Nat) (p c : Int × Int) (hp : x.wires[i]? = some p) (hc : N.wi[i]? = some c) :
    w.cell? ⟨g, i * 4, none⟩ = some (.int .i64 p.1) ∧ w.cell? ⟨g, i * 4 + 1, none⟩ = some (.int .i64 p.2) ∧ w.cell? ⟨g, i * 4 + 2, none⟩ = some (.int .i64 c.1) ∧ w.cell? ⟨g, i * 4 + 3, none⟩ = some (.int .i64 c.2) ∧ ∀ o, w.frozen? ⟨g, o, none⟩ = false := by
  have hw := wis_at x N i p c hp hc
  have hl := wis_len x N hb
  have hil := (List.getElem?_eq_some_iff.1 hw).1
  have hiw := h.n.iw
  rw [hI] at hiw
  have e : ∀ o, o < 4 → w.cell? ⟨g, i * 4 + o, none⟩ = (rwireCells (p.1, p.2, c.1, c.2))[o]? := by
    intro o ho
    rw [hl] at hiw
    rw [hiw.cellAt (i * 4 + o) (by omega), flat_getM rwireCells 4 (wisOf x N) (fun _ _ => rfl) i o hil ho, (List.getElem?_eq_some_iff.1 hw).2]
  have e0 := e 0 (by omega)
  rw [Nat.add_zero] at e0
  refine ⟨e0, e 1 (by omega), e 2 (by omega), e 3 (by omega), ?_⟩
  rw [hl] at hiw
  obtain ⟨cur, hg⟩ := own_block hiw
  exact fun o => row_frozen hg o
theorem RefAt.vis {x : RX} {N : NM} {vL : List Value} {w : World} (h : RefAt x N vL w) (hb : NLen x N) : ∃ a cap, x.vI = .slice a x.wires.length cap ∧ (0 < x.wires.length → ∃ g, a = some ⟨g, 0, none⟩) := by
  have hiw := h.n.iw
  rw [wis_len x N hb] at hiw
  rcases hiw.2 with ⟨h1, h0⟩ | ⟨g', cap', cur, h1, _⟩
  · exact ⟨none, 0, by rw [h1, h0], fun h2 => absurd h0 (by omega)⟩
  · exact ⟨some ⟨g', 0, none⟩, cap', h1, fun _ => ⟨g', rfl⟩⟩

set_option maxRecDepth 100000 in
set_option maxHeartbeats 2000000 in
theorem wireOf_any (x : RX) (N : NM) (vL : List Value) (w : World) (h : RefAt x N vL w) (hb : NLen x N) (hx : RXok x) (k : Nat) (y : RSt) (v : WN) (hy : x.st[k]? = some y) (hv : N.wn[k]? = some v) (n0 : 0 ≤ v.now.regs.getD 1 0) (n1 : v.now.regs.getD 1 0 < 4294967296) (s r : Bool) :
    Calls Tryz.prog 124 #[.pointer (some ⟨x.Y, 0, none⟩), .int .i64 k, .bool s, .bool r] w fun e w' => e = .returned (.int .i64 (wireV x.wires (v.now.regs.getD 1 0) k s r)) ∧ w' = w := by
  obtain ⟨aI, cI, hI, hIg⟩ := h.vis hb
  have c2 : w.cell? ⟨x.Y, 2, none⟩ = some (.slice (some ⟨x.gW, 0, none⟩) x.st.length x.cW) := row_cell h.n.hy 2
  have c3 : w.cell? ⟨x.Y, 3, none⟩ = some (.slice aI x.wires.length cI) := by rw [← hI]; exact row_cell h.n.hy 3
  have r1 := h.reg hb k y v hy hv 1 (by omega)
  have hkl := (List.getElem?_eq_some_iff.1 hy).1
  have hki : (k : Int) < (x.st.length : Int) := by omega
  have hn4 := hx.n4
  have hw8 := hx.w8
  obtain ⟨n, hn⟩ := Int.eq_ofNat_of_zero_le n0
  rw [hn] at r1 n1
  have HNN := hid hn
  by_cases hlt : n < x.wires.length
  · obtain ⟨g, rfl⟩ := hIg (by omega)
    obtain ⟨p, hp⟩ : ∃ p, x.wires[n]? = some p := ⟨_, List.getElem?_eq_getElem hlt⟩
    obtain ⟨c, hc⟩ : ∃ c, N.wi[n]? = some c := ⟨_, List.getElem?_eq_getElem (by rw [hb.l2]; exact hlt)⟩
    obtain ⟨d0, d1, d2, d3, -⟩ := h.wcell hb g cI hI n p c hp hc
    have HE : Hid (wireV x.wires (n : Int) k s r = if ((s && decide (p.1 = (k : Int))) || (r && decide (p.2 = (k : Int)))) = true then (n : Int) else -1) := by
      unfold Hid wireV
      rw [Int.toNat_natCast, hp]
    have hni : (n : Int) < (x.wires.length : Int) := by omega
    have hni2 : ¬ (x.wires.length : Int) ≤ (n : Int) := by omega
    obtain ⟨f, t⟩ := p
    simp only at d0 d1 HE
    rw [hn]
    clear h hp hc hI hn hy hv hb hx d2 d3 n0
    by_cases hf : f = (k : Int)
    · by_cases ht : t = (k : Int)
      · subst hf ht
        rw [HE.out]
        cases s <;> cases r
        all_goals
          go_enter Tryz.func124, Tryz.ntmps124
          go_wp2_with fail
          go_ret
          exact ⟨by simp, rfl⟩
      · subst hf
        have htb : (t == (k : Int)) = false := by simpa using ht
        rw [HE.out]
        cases s <;> cases r
        all_goals
          go_enter Tryz.func124, Tryz.ntmps124
          go_wp2_with fail
          go_ret
          exact ⟨by first | (simp; done) | (simp [ht]; done), rfl⟩
    · have hfb : (f == (k : Int)) = false := by simpa using hf
      by_cases ht : t = (k : Int)
      · subst ht
        rw [HE.out]
        cases s <;> cases r
        all_goals
          go_enter Tryz.func124, Tryz.ntmps124
          go_wp2_with fail
          go_ret
          exact ⟨by first | (simp; done) | (simp [hf]; done), rfl⟩
      · have htb : (t == (k : Int)) = false := by simpa using ht
        rw [HE.out]
        cases s <;> cases r
        all_goals
          go_enter Tryz.func124, Tryz.ntmps124
          go_wp2_with fail
          go_ret
          exact ⟨by first | (simp; done) | (simp [hf]; done) | (simp [ht]; done) | (simp [hf, ht]; done), rfl⟩
  · have HE : Hid (wireV x.wires (n : Int) k s r = -1) := by
      unfold Hid wireV
      rw [Int.toNat_natCast, List.getElem?_eq_none (by omega)]
    have hni2 : (x.wires.length : Int) ≤ (n : Int) := by omega
    rw [hn, HE.out]
    clear h hI hn hy hv hb hx n0 hIg
    go_enter Tryz.func124, Tryz.ntmps124
    go_wp2_with fail
    go_ret
    exact ⟨rfl, rfl⟩

end Go.Proofs.YthmcheoehcmglaaGreat
/- The reference's call. -/
namespace Go.Proofs.YthmcheoehcmglaaGreat
open Go.RowKit
set_option linter.unusedVariables false
attribute [local go_sem ↓] Go.wp_at_zero Go.wp_at_succ

/-- What a call leaves. -/
def RCallPost (x : RX) (N : NM) (k : Nat) (v : WN) (vL : List Value) (r : Int × StV × List (Int × Int)) (w : World) (e : Ending) (w' : World) : Prop :=
  e = .returned (.int .i64 r.1) ∧ RefAt x { putW N k { v with now := r.2.1 } with wi := r.2.2 } vL w' ∧ Fr (RA x vL) w w'

theorem RefAt.frozenW {x : RX} {N : NM} {vL : List Value} {w : World} (h : RefAt x N vL w) (o : Nat) : w.frozen? ⟨x.gW, o, none⟩ = false := by
  obtain ⟨cur, hg⟩ := h.blockW
  exact row_frozen hg o
theorem putW_id (N : NM) (k : Nat) (v : WN) (hv : N.wn[k]? = some v) : putW N k v = N := by
  unfold putW
  have : N.wn.set k v = N.wn := by
    apply List.ext_getElem?
    intro i
    rw [List.getElem?_set]
    by_cases h : k = i
    · subst h
      rw [if_pos rfl, if_pos (List.getElem?_eq_some_iff.1 hv).1, hv]
    · rw [if_neg h]
  rw [this]

set_option maxRecDepth 100000 in
set_option maxHeartbeats 2000000 in
theorem call_small (x : RX) (kx : KX) (N : NM) (vL : List Value) (w : World) (h : RefAt x N vL w) (hb : NLen x N) (hx : RXok x) (k : Nat) (y : RSt) (v : WN) (hy : x.st[k]? = some y) (hv : N.wn[k]? = some v) (hc0 : 0 ≤ N.ck) (hc1 : N.ck ≤ 9223372036854775807) (n : Nat) (hn : n < 65536) (h3 : n ≠ 3) (h4 : n ≠ 4) (h5 : n ≠ 5) :
    Calls Tryz.prog 117 #[.pointer (some ⟨x.Y, 0, none⟩), .int .i64 k, .int .i64 n] w fun e w' => RCallPost x N k v vL (callN kx k N.ck v.now N.wi n) w e w' := by
  have hkl := (List.getElem?_eq_some_iff.1 hy).1
  have hki : (k : Int) < (x.st.length : Int) := by omega
  have hn4 := hx.n4
  have h8 := (hb.s8 v (List.mem_of_getElem? hv)).1
  have c2 : w.cell? ⟨x.Y, 2, none⟩ = some (.slice (some ⟨x.gW, 0, none⟩) x.st.length x.cW) := row_cell h.n.hy 2
  have hid1 : ∀ s' : StV, ({ putW N k { v with now := s' } with wi := N.wi } : NM) = putW N k { v with now := s' } := fun _ => rfl
  by_cases e0 : n = 0
  · subst e0
    have d9 := (h.rest hb k y v hy hv).2.1
    have f9 := h.frozenW (k * 29 + 3 + 9)
    have HN := hid (h.setNow hb k y v hy hv { v.now with status := 1 } h8 9 (by omega) (.int .i64 1) (stI_status _ h8 1))
    have HF : Hid (Fr (RA x vL) w (w.setCell ⟨x.gW, k * 29 + 3 + 9, none⟩ (.int .i64 1))) := (Fr.refl _ w).setCell (.inl (.inr (.inl rfl))) _
    clear h hb hx hy hv
    go_enter Tryz.func117, Tryz.ntmps117
    go_wp2_with fail
    go_ret
    exact ⟨rfl, HN.out, HF.out⟩
  by_cases e1 : n = 1
  · subst e1
    have d9 := (h.rest hb k y v hy hv).2.2.2.2
    have f9 := h.frozenW (k * 29 + 3 + 12)
    have HN := hid (h.setNow hb k y v hy hv { v.now with y := true } h8 12 (by omega) (.bool true) (stI_y _ h8 true))
    have HF : Hid (Fr (RA x vL) w (w.setCell ⟨x.gW, k * 29 + 3 + 12, none⟩ (.bool true))) := (Fr.refl _ w).setCell (.inl (.inr (.inl rfl))) _
    clear h hb hx hy hv
    go_enter Tryz.func117, Tryz.ntmps117
    go_wp2_with fail
    go_ret
    exact ⟨rfl, HN.out, HF.out⟩
  by_cases e2 : n = 2
  · subst e2
    have d9 : w.cell? ⟨x.gW, k * 29 + 3, none⟩ = _ := h.reg hb k y v hy hv 0 (by omega)
    have f9 := h.frozenW (k * 29 + 3)
    have HN := hid (h.setNow hb k y v hy hv (set0 v.now k) (by simp [set0, h8]) 0 (by omega) (.int .i64 k) (stI_reg _ h8 0 (by omega) k))
    have HF : Hid (Fr (RA x vL) w (w.setCell ⟨x.gW, k * 29 + 3, none⟩ (.int .i64 k))) := (Fr.refl _ w).setCell (.inl (.inr (.inl rfl))) _
    clear h hb hx hy hv
    go_enter Tryz.func117, Tryz.ntmps117
    go_wp2_with fail
    go_ret
    exact ⟨rfl, HN.out, HF.out⟩
  by_cases e6 : n = 6
  · subst e6
    have d9 : w.drew.cell? ⟨x.gW, k * 29 + 3, none⟩ = _ := h.reg hb k y v hy hv 0 (by omega)
    have f9 : w.drew.frozen? ⟨x.gW, k * 29 + 3, none⟩ = false := h.frozenW (k * 29 + 3)
    have c5 : w.drew.cell? ⟨x.Y, 5, none⟩ = some (.int .i64 N.ck) := row_cell h.n.hy 5
    have HN := hid (h.setNow hb k y v hy hv (set0 v.now (N.ck % 4294967296)) (by simp [set0, h8]) 0 (by omega) (.int .i64 (N.ck % 4294967296)) (stI_reg _ h8 0 (by omega) _))
    have HF : Hid (Fr (RA x vL) w (w.setCell ⟨x.gW, k * 29 + 3, none⟩ (.int .i64 (N.ck % 4294967296)))) := (Fr.refl _ w).setCell (.inl (.inr (.inl rfl))) _
    clear h hb hx hy hv
    go_enter Tryz.func117, Tryz.ntmps117
    go_wp2_with fail
    go_region
    go_wp2_with fail
    go_ret
    exact ⟨rfl, HN.out.frF (Fr.refl _ _).drew, HF.out.drew⟩
  · have he : callN kx k N.ck v.now N.wi n = (4, v.now, N.wi) := by
      match n, e0, e1, e2, h3, h4, h5, e6 with
      | n + 7, _, _, _, _, _, _, _ => rfl
    have HP : Hid (RCallPost x N k v vL (callN kx k N.ck v.now N.wi n) w (.returned (.int .i64 4)) w) := by
      rw [he]
      refine ⟨rfl, ?_, Fr.refl _ _⟩
      show RefAt x (putW N k v) vL w
      rw [putW_id N k v hv]
      exact h
    have b0 : ((n : Int) == 0) = false := by simpa using e0
    have b1 : ((n : Int) == 1) = false := by simp; omega
    have b2 : ((n : Int) == 2) = false := by simp; omega
    have b3 : ((n : Int) == 3) = false := by simp; omega
    have b4 : ((n : Int) == 4) = false := by simp; omega
    have b5 : ((n : Int) == 5) = false := by simp; omega
    have b6 : ((n : Int) == 6) = false := by simp; omega
    clear h hb hx hy hv he e0 e1 e2 e6 h3 h4 h5
    go_enter Tryz.func117, Tryz.ntmps117
    go_wp2_with fail
    go_ret
    exact HP.out

end Go.Proofs.YthmcheoehcmglaaGreat
