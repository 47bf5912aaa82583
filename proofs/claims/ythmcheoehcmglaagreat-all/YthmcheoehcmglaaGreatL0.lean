/- The reference's Turn, Word at any clock. -/
import Derived.Test.YthmcheoehcmglaaGreatF18
import Derived.Test.YthmcheoehcmglaaGreatR9
import Derived.Test.YthmcheoehcmglaaGreatW9
import Derived.Test.YthmcheoehcmglaaGreatW17
import Derived.Test.YthmcheoehcmglaaGreatK1
import Derived.ChangeKeysEq
namespace Go.Proofs.YthmcheoehcmglaaGreat
open Go.RowKit
set_option linter.unusedVariables false
attribute [local go_sem ↓] Go.wp_at_zero Go.wp_at_succ

set_option maxRecDepth 100000 in
set_option maxHeartbeats 1000000 in
theorem rturn_any (x : RX) (kx : KX) (hK : RKx x kx) (N : NM) (vL : List Value) (w : World) (h : RefAt x N vL w) (hb : NLen x N) (hx : RXok x) (hc0 : 0 ≤ N.ck) (hc1 : N.ck ≤ 9223372036854775807) (hQ : QsOk kx.gap kx.qs) :
    Calls Tryz.prog 107 #[.pointer (some ⟨x.Y, 0, none⟩)] w fun e w' => e = .returned (.int .i64 (turnN kx N.ck)) ∧ Fr (fun _ => False) w w' := by
  have c5 : w.cell? ⟨x.Y, 5, none⟩ = some (.int .i64 N.ck) := row_cell h.n.hy 5
  by_cases h0 : N.ck = 0
  · have HT : Hid (turnN kx N.ck = 0) := by unfold Hid turnN; rw [if_pos h0]
    rw [h0] at c5
    clear h hb hx hK hQ
    go_enter Tryz.func107, Tryz.ntmps107
    go_wp2_with fail
    go_ret
    exact ⟨by rw [HT.out]; rfl, Fr.refl _ _⟩
  · obtain ⟨k, r, hs⟩ := slot_is hQ (N.ck - 1) (by omega)
    have HSL := hid (slot_any x kx hK N vL w h hb hx (N.ck - 1) (by omega) (by omega) k r hs)
    have hrl : kx.regs.length = x.st.length := by rw [hK.regs]; simp
    have hql : kx.qs.length = x.st.length := by rw [hK.qs]; simp
    have hkl := hs.kl
    have hr0 := hs.r0
    have hr1 := hs.r1
    have hqa := hQ.at k hs.kl
    have hg16 := hQ.g1
    have hg1 := hQ.g0
    have hn4 := hx.n4
    have HTN : Hid (turnN kx N.ck = if r < kx.qs.getD k 0 then (k : Int) else if r - kx.qs.getD k 0 = kx.gap - 1 then (((k + 1) % x.st.length : Nat) : Int) else (x.st.length : Int)) := by
      unfold Hid turnN
      rw [if_neg h0, hs.e, hrl]
    have HCE : Hid (∀ w1, Fr (fun _ => False) w w1 → w1.cell? ⟨x.Y, 0, none⟩ = some (.int .i64 kx.gap) ∧ w1.cell? ⟨x.Y, 2, none⟩ = some (.slice (some ⟨x.gW, 0, none⟩) x.st.length x.cW)) := by
      intro w1 hf
      rw [hK.gap]
      exact ⟨row_cell (hf.get h.n.hy id) 0, row_cell (hf.get h.n.hy id) 2⟩
    have h0b : (N.ck == 0) = false := by simpa using h0
    obtain ⟨ck, hck⟩ : ∃ ck, N.ck = ck := ⟨_, rfl⟩
    rw [hck] at c5 h0 h0b HSL hc0 hc1 HTN ⊢
    obtain ⟨q, hq⟩ : ∃ q, kx.qs.getD k 0 = q := ⟨_, rfl⟩
    rw [hq] at HSL HTN hr1 hqa
    generalize kx.gap = gp at *
    clear h hb hx hK hQ hs hck hq
    by_cases hrq : r < q
    · have hsq : slotQ q k r = .tuple #[.int .i64 (k : Int), .int .i64 r, .int .i64 (k : Int)] := by unfold slotQ; rw [if_pos hrq, if_pos hrq]
      rw [hsq] at HSL
      rw [if_pos hrq] at HTN
      rw [HTN.out]
      clear hsq hrq
      go_enter Tryz.func107, Tryz.ntmps107
      go_wp2_with fail
      refine HSL.out.mono ?_
      rintro e w1 ⟨rfl, hf1⟩
      have HF1 := hid hf1
      clear hf1
      go_wp2_with fail
      go_ret
      exact ⟨rfl, HF1.out⟩
    · obtain ⟨ov, hov⟩ : ∃ ov, r - q = ov := ⟨_, rfl⟩
      have hsq : slotQ q k r = .tuple #[.int .i64 (-1), .int .i64 ov, .int .i64 (k : Int)] := by unfold slotQ; rw [if_neg hrq, if_neg hrq, hov]
      rw [hsq] at HSL
      rw [if_neg hrq, hov] at HTN
      by_cases hg : ov = gp - 1
      · rw [if_pos hg] at HTN
        rw [HTN.out]
        have hgb : (ov == gp - 1) = true := by simpa using hg
        have hs0 : ¬ (x.st.length : Int) = 0 := by omega
        have HMO : Hid (((k : Int) + 1) % (x.st.length : Int) = (((k + 1) % x.st.length : Nat) : Int)) := by unfold Hid; rw [Int.natCast_emod, Int.natCast_add]; rfl
        clear hsq hrq hov hg
        go_enter Tryz.func107, Tryz.ntmps107
        go_wp2_with fail
        refine HSL.out.mono ?_
        rintro e w1 ⟨rfl, hf1⟩
        have HF1 := hid hf1
        obtain ⟨d0, d2⟩ := HCE.out w1 hf1
        clear hf1
        go_wp2_with fail
        go_ret
        exact ⟨by rw [← HMO.out]; rfl, HF1.out⟩
      · rw [if_neg hg] at HTN
        rw [HTN.out]
        have hgb : (ov == gp - 1) = false := by simpa using hg
        clear hsq hrq hov hg
        go_enter Tryz.func107, Tryz.ntmps107
        go_wp2_with fail
        refine HSL.out.mono ?_
        rintro e w1 ⟨rfl, hf1⟩
        have HF1 := hid hf1
        obtain ⟨d0, d2⟩ := HCE.out w1 hf1
        clear hf1
        go_wp2_with fail
        go_ret
        exact ⟨rfl, HF1.out⟩

set_option maxRecDepth 100000 in
set_option maxHeartbeats 2000000 in
theorem rword_lowF (w : World) (Y : Nat) (gap mem ck tv : Int) (rws : List RWard) (wi : List (Int × Int × Int × Int)) (vW vI vD : Value) (nd : Nat) (h : NetAt w Y gap mem ck rws wi vW vI vD nd) (hk0 : 0 ≤ ck) (hl : rws.length ≤ 4)
    (hT : Calls Tryz.prog 107 #[.pointer (some ⟨Y, 0, none⟩)] w fun e w' => e = .returned (.int .i64 tv) ∧ Fr (fun _ => False) w w') (a : Nat) (ha : (a : Int) < mem) (h16 : a < 16) :
    Calls Tryz.prog 82 #[.pointer (some ⟨Y, 0, none⟩), .int .i64 a] w fun e w' => e = .returned (.tuple #[.int .i64 (rwordV tv ck rws wi a), .int .i64 0]) ∧ Fr (fun _ => False) w w' := by
  have c1 : w.cell? ⟨Y, 1, none⟩ = some (.int .i64 mem) := row_cell h.hy 1
  have c5 : w.cell? ⟨Y, 5, none⟩ = some (.int .i64 ck) := row_cell h.hy 5
  obtain ⟨a1, q1, rfl⟩ := owns_shape h.ow
  have c2 : w.cell? ⟨Y, 2, none⟩ = some (.slice a1 rws.length q1) := row_cell h.hy 2
  have HT := hid hT
  have hm : ¬ mem ≤ (a : Int) := by omega
  clear h hT
  by_cases ha0 : a = 0
  · subst ha0
    go_enter Tryz.func82, Tryz.ntmps82
    go_wp2_with fail
    refine HT.out.mono ?_
    rintro e w1 ⟨rfl, hf1⟩
    have HF1 := hid hf1
    clear hf1 c1 c2 c5
    go_wp2_with fail
    go_ret2
    exact ⟨by simp [rwordV], HF1.out⟩
  · by_cases ha1 : a = 1
    · subst ha1
      have hmod : Int.tmod ck 4294967296 = ck % 4294967296 := Int.tmod_eq_emod_of_nonneg hk0
      go_enter Tryz.func82, Tryz.ntmps82
      go_wp2_with fail
      go_ret2
      exact ⟨by simp [rwordV], Fr.refl _ _⟩
    · have e0 : ¬ (a : Int) = 0 := by omega
      have e1 : ¬ (a : Int) = 1 := by omega
      have e2 : (a : Int) < 16 := by omega
      have HV : Hid (rwordV tv ck rws wi a = 0) := by unfold Hid rwordV; rw [if_neg ha0, if_neg ha1, if_pos h16]
      clear ha0 ha1
      go_enter Tryz.func82, Tryz.ntmps82
      go_wp2_with fail
      go_ret2
      exact ⟨by rw [HV.out]; rfl, Fr.refl _ _⟩

theorem rword_anyF (w : World) (Y : Nat) (gap mem ck tv : Int) (rws : List RWard) (wi : List (Int × Int × Int × Int)) (vW vI vD : Value) (nd : Nat) (h : NetAt w Y gap mem ck rws wi vW vI vD nd) (hr : RegsOk rws wi.length) (hm : mem ≤ 100000) (hk0 : 0 ≤ ck)
    (hT : Calls Tryz.prog 107 #[.pointer (some ⟨Y, 0, none⟩)] w fun e w' => e = .returned (.int .i64 tv) ∧ Fr (fun _ => False) w w') (a : Nat) (ha : (a : Int) < mem) :
    Calls Tryz.prog 82 #[.pointer (some ⟨Y, 0, none⟩), .int .i64 a] w fun e w' => e = .returned (.tuple #[.int .i64 (rwordV tv ck rws wi a), .int .i64 0]) ∧ Fr (fun _ => False) w w' := by
  by_cases h1 : a < 16
  · exact rword_lowF w Y gap mem ck tv rws wi vW vI vD nd h hk0 hr.l hT a ha h1
  · by_cases h2 : a < 16 * (1 + rws.length)
    · have hk : a / 16 - 1 < rws.length := by omega
      have e := rwordV_area tv ck rws wi (a / 16 - 1) (a % 16) hk (by omega)
      rw [show 16 * (a / 16 - 1 + 1) + a % 16 = a by omega] at e
      rw [e]
      exact rword_area w Y gap mem ck tv rws wi vW vI vD nd h hr.l _ _ hk (by omega) _ (by omega) ha
    · by_cases h3 : a < 16 * (1 + rws.length) + 2 * wi.length
      · have hk : (a - 16 * (1 + rws.length)) / 2 < wi.length := by omega
        have key := rword_cell w Y gap mem ck tv rws wi vW vI vD nd h hr.l hr.li ((a - 16 * (1 + rws.length)) / 2) ((a - 16 * (1 + rws.length)) % 2) hk (by omega) a (by omega) ha _ (List.getElem?_eq_getElem hk)
        have e : rwordV tv ck rws wi a = if (a - 16 * (1 + rws.length)) % 2 = 0 then (wi[(a - 16 * (1 + rws.length)) / 2]).2.2.1 else (wi[(a - 16 * (1 + rws.length)) / 2]).2.2.2 := by
          unfold rwordV
          rw [if_neg (by omega), if_neg (by omega), if_neg (by omega), if_neg (by omega), if_pos h3]
          simp only [List.getD_eq_getElem?_getD, List.getElem?_eq_getElem hk, Option.getD_some]
        rw [e]
        exact key
      · have e : rwordV tv ck rws wi a = findW (rws.flatMap (·.regs)) a := by
          unfold rwordV
          rw [if_neg (by omega), if_neg (by omega), if_neg (by omega), if_neg (by omega), if_neg (by omega)]
        rw [e]
        exact rword_reg w Y gap mem ck tv rws wi vW vI vD nd h hr hm a ha (by omega)

end Go.Proofs.YthmcheoehcmglaaGreat
/- The reference's Peek and Latch. -/
namespace Go.Proofs.YthmcheoehcmglaaGreat
open Go.RowKit
set_option linter.unusedVariables false
attribute [local go_sem ↓] Go.wp_at_zero Go.wp_at_succ

/-- Who is no ward. -/
theorem rpeek_no (x : RX) (N : NM) (vL : List Value) (w : World) (h : RefAt x N vL w) (k ad : Int) (hk : hasB x.st.length k = false) :
    Calls Tryz.prog 85 #[.pointer (some ⟨x.Y, 0, none⟩), .int .i64 k, .int .i64 ad] w fun e w' => e = .returned (.tuple #[.int .i64 0, .int .i64 4]) ∧ Fr (fun _ => False) w w' := by
  have c2 : w.cell? ⟨x.Y, 2, none⟩ = some (.slice (some ⟨x.gW, 0, none⟩) x.st.length x.cW) := row_cell h.n.hy 2
  clear h
  by_cases h0 : k < 0
  · clear hk
    go_enter Tryz.func85, Tryz.ntmps85
    go_wp2_with fail
    go_ret2
    exact ⟨rfl, Fr.refl _ _⟩
  · have h1 : (x.st.length : Int) ≤ k := by simp [hasB] at hk; omega
    clear hk
    go_enter Tryz.func85, Tryz.ntmps85
    go_wp2_with fail
    go_ret2
    exact ⟨rfl, Fr.refl _ _⟩

def peekI (o : Option Int) : Value := match o with | some z => .tuple #[.int .i64 z, .int .i64 0] | none => .tuple #[.int .i64 0, .int .i64 6]

set_option maxRecDepth 100000 in
set_option maxHeartbeats 1000000 in
theorem rpeek_yes (x : RX) (N : NM) (vL : List Value) (w : World) (h : RefAt x N vL w) (hb : NLen x N) (hx : RXok x) (k : Nat) (y : RSt) (v : WN) (hy : x.st[k]? = some y) (hv : N.wn[k]? = some v) (ad : Int) (a0 : 0 ≤ ad) (a1 : ad < 4294967296) :
    Calls Tryz.prog 85 #[.pointer (some ⟨x.Y, 0, none⟩), .int .i64 k, .int .i64 ad] w fun e w' => e = .returned (peekI (readN (y.regs.map (·.1)) 0 v.ws ad)) ∧ Fr (fun _ => False) w w' := by
  have hkl := (List.getElem?_eq_some_iff.1 hy).1
  have hym := List.mem_of_getElem? hy
  have hki : (k : Int) < (x.st.length : Int) := by omega
  have hki2 : ¬ (x.st.length : Int) ≤ (k : Int) := by omega
  have hn4 := hx.n4
  have c2 : w.cell? ⟨x.Y, 2, none⟩ = some (.slice (some ⟨x.gW, 0, none⟩) x.st.length x.cW) := row_cell h.n.hy 2
  obtain ⟨vr, -, -⟩ := h.vr hb k y v hy hv
  obtain ⟨hrr, -⟩ := h.rr k y v hy hv
  have hlen := (hb.wl k v y hv hy).1
  have hzl : (List.zipWith rregOf y.regs v.ws).length = y.regs.length := by rw [List.length_zipWith, hlen, Nat.min_self]
  have HPL := hid (place_any w x.gW (k * 29) y.vR _ vr hrr (by
    intro r hr
    obtain ⟨j, hj⟩ := List.getElem?_of_mem hr
    obtain ⟨p, u, hp, hu, rfl⟩ := zip_inv _ _ _ _ hj
    exact hx.rb y hym p (List.mem_of_getElem? hp)) (by rw [hzl]; exact hx.rl y hym) ad a0 a1)
  rw [zip_regs y v.ws hlen] at HPL
  cases hri : regI (y.regs.map (·.1)) ad with
  | none =>
    have hpl : placeV (y.regs.map (·.1)) ad = (-1, 0) := by unfold placeV; rw [hri]
    rw [hpl] at HPL
    have HE : Hid (peekI (readN (y.regs.map (·.1)) 0 v.ws ad) = .tuple #[.int .i64 0, .int .i64 6]) := by unfold Hid readN; rw [hri]; rfl
    clear h hb hx hy hv hrr vr hlen hzl hym hri hpl
    go_enter Tryz.func85, Tryz.ntmps85
    go_wp2_with fail
    refine HPL.out.mono ?_
    rintro e w2 ⟨rfl, hf2⟩
    have HF2 := hid hf2
    clear hf2 c2
    go_wp2_with fail
    go_ret2
    exact ⟨by rw [HE.out]; rfl, HF2.out⟩
  | some j =>
    obtain ⟨r, hrj, hin, hra⟩ := readN_some hri
    have hpl : placeV (y.regs.map (·.1)) ad = ((j : Int), ad - r.1) := by unfold placeV; rw [hri]; simp only; rw [hra]
    rw [hpl] at HPL
    rw [List.getElem?_map] at hrj
    obtain ⟨p, hp, hpr⟩ := Option.map_eq_some_iff.1 hrj
    have hjl : j < v.ws.length := by rw [hlen]; exact (List.getElem?_eq_some_iff.1 hp).1
    have hu : v.ws[j]? = some v.ws[j] := List.getElem?_eq_getElem hjl
    have hzj := zip_at y v.ws j p _ hp hu
    have hul := (hb.wl k v y hv hy).2 j p _ hp hu
    have hRB := hx.rb y hym p (List.mem_of_getElem? hp)
    rw [inR_iff] at hin
    have hpr' : p.1 = r := hpr
    rw [hpr'] at hul
    obtain ⟨i, hi⟩ := Int.eq_ofNat_of_zero_le (show 0 ≤ ad - r.1 by omega)
    have hil : i < v.ws[j].length := by omega
    have hh0 : hasR r 0 = true := by unfold hasR; simp
    have HE : Hid (peekI (readN (y.regs.map (·.1)) 0 v.ws ad) = .tuple #[.int .i64 (v.ws[j].getD i 0), .int .i64 0]) := by
      unfold Hid readN
      rw [hri]
      simp only
      rw [hra, hh0, if_pos rfl, getD_of hu, hi, Int.toNat_natCast]
      rfl
    rw [hi] at HPL
    have hrl := hx.rl y hym
    have HCE : Hid (∀ w2, Fr (fun _ => False) w w2 → ∃ gr cr, w2.cell? ⟨x.Y, 2, none⟩ = some (.slice (some ⟨x.gW, 0, none⟩) x.st.length x.cW) ∧ w2.cell? ⟨x.gW, k * 29 + 1, none⟩ = some (.slice (some ⟨gr, 0, none⟩) y.regs.length cr) ∧ w2.cell? ⟨gr, j * 5 + 4, none⟩ = some (.slice (some ⟨p.2, 0, none⟩) v.ws[j].length v.ws[j].length) ∧ w2.cell? ⟨p.2, i, none⟩ = some (.int .i64 (v.ws[j].getD i 0))) := by
      intro w2 hf
      have hr2 := hrr.fr hf
      have ho := hr2.own
      rw [hzl] at ho
      obtain ⟨gr, cr, hvv, -, -⟩ := ho.form (by omega)
      have hvr := cell_fr vr hf
      rw [hvv] at hvr ho
      refine ⟨gr, cr, row_cell (hf.get h.n.hy id) 2, hvr, ?_, ?_⟩
      · have hjz : j < (List.zipWith rregOf y.regs v.ws).length := by rw [hzl]; omega
        rw [ho.cellAt (j * 5 + 4) (by omega), flat_get rrCells 5 (fun _ => rfl) _ j 4 hjz (by omega), (List.getElem?_eq_some_iff.1 hzj).2]
        rfl
      · have hbk := (hr2.blk _ (List.mem_of_getElem? hzj)).1
        have hbk' : w2.heap[p.2]? = some (.cells (intCells v.ws[j]).toArray 3 (0, 0)) := hbk
        rw [row_cell hbk']
        unfold intCells
        rw [List.getElem?_toArray, List.getElem?_map, List.getElem?_eq_getElem hil, List.getD_eq_getElem?_getD, List.getElem?_eq_getElem hil]
        rfl
    have hji : (j : Int) < (y.regs.length : Int) := by omega
    have hii : (i : Int) < (v.ws[j].length : Int) := by omega
    have hj3 : j < 3 := by omega
    have hiB : i < 65536 := by have := hRB.s1; rw [hpr'] at this; omega
    have hlB : v.ws[j].length ≤ 65536 := by have := hRB.s1; rw [hpr'] at this; omega
    generalize v.ws[j].getD i 0 = z at *
    generalize v.ws[j].length = lu at *
    clear h hb hx hy hv hrr vr hlen hzl hym hri hpl hrj hin hra hp hpr hu hzj hul hRB hpr' hi hh0
    go_enter Tryz.func85, Tryz.ntmps85
    go_wp2_with fail
    refine HPL.out.mono ?_
    rintro e w2 ⟨rfl, hf2⟩
    have HF2 := hid hf2
    obtain ⟨gr, cr, q0, q1, q2, q3⟩ := HCE.out w2 hf2
    clear hf2 c2
    go_wp2_with fail
    go_ret2
    exact ⟨by rw [HE.out]; rfl, HF2.out⟩

set_option maxRecDepth 100000 in
set_option maxHeartbeats 1000000 in
theorem rlatch_no (x : RX) (N : NM) (vL : List Value) (w : World) (h : RefAt x N vL w) (d z : Int) (hd : hasB N.devs.length d = false) :
    Calls Tryz.prog 55 #[.pointer (some ⟨x.Y, 0, none⟩), .int .i64 d, .int .i64 z] w fun e w' => e = .returned (.int .i64 5) ∧ w' = w := by
  obtain ⟨a3, q3, ea⟩ := owns_shape h.dd
  have c4 : w.cell? ⟨x.Y, 4, none⟩ = some (.slice a3 N.devs.length q3) := by rw [← ea]; exact row_cell h.n.hy 4
  clear h ea
  by_cases h0 : d < 0
  · clear hd
    go_enter Tryz.func55, Tryz.ntmps55
    go_wp2_with fail
    go_ret
    exact ⟨rfl, rfl⟩
  · have h1 : (N.devs.length : Int) ≤ d := by simp [hasB] at hd; omega
    clear hd
    go_enter Tryz.func55, Tryz.ntmps55
    go_wp2_with fail
    go_ret
    exact ⟨rfl, rfl⟩

set_option maxRecDepth 100000 in
set_option maxHeartbeats 1000000 in
theorem rlatch_yes (x : RX) (N : NM) (vL : List Value) (w : World) (h : RefAt x N vL w) (hb : NLen x N) (hx : RXok x) (i : Nat) (d : DevV) (hd : N.devs[i]? = some d) (z : Int) :
    Calls Tryz.prog 55 #[.pointer (some ⟨x.Y, 0, none⟩), .int .i64 i, .int .i64 z] w fun e w' => e = .returned (.int .i64 0) ∧ RefAt x { N with devs := N.devs.set i (z, d.2) } vL w' ∧ Fr (RA x vL) w w' := by
  have hil := (List.getElem?_eq_some_iff.1 hd).1
  obtain ⟨g, cap, hD⟩ := h.vds (by omega)
  have c4 : w.cell? ⟨x.Y, 4, none⟩ = some (.slice (some ⟨g, 0, none⟩) N.devs.length cap) := by rw [← hD]; exact row_cell h.n.hy 4
  obtain ⟨d0, -, df⟩ := h.dcell g cap hD i d hd
  have f0 := df (i * 2)
  have HN := hid (h.setLatch g cap hD i d hd z)
  have HF : Hid (Fr (RA x vL) w (w.setCell ⟨g, i * 2, none⟩ (.int .i64 z))) := (Fr.refl _ w).setCell (.inl (.inr (.inr (.inr (.inl (by rw [hD]; rfl)))))) _
  have hii : (i : Int) < (N.devs.length : Int) := by omega
  have hii2 : ¬ (N.devs.length : Int) ≤ (i : Int) := by omega
  have hd8 := hx.d8
  have hi8 : i < 8 := by rw [hb.l4] at hil; omega
  clear h hb hx hd hD df
  go_enter Tryz.func55, Tryz.ntmps55
  go_wp2_with fail
  go_ret
  exact ⟨rfl, HN.out, HF.out⟩

end Go.Proofs.YthmcheoehcmglaaGreat
/- The statements' own functions: num, state. -/
namespace Go.Proofs.YthmcheoehcmglaaGreat
open Go.RowKit
set_option linter.unusedVariables false
attribute [local go_sem ↓] Go.wp_at_zero Go.wp_at_succ

set_option maxRecDepth 100000 in
set_option maxHeartbeats 1000000 in
theorem num_any (e : Int) (w : World) : Calls Tryz.prog 38 #[.int .i64 e] w fun r w' => r = .returned (.int .i64 e) ∧ w' = w := by
  go_enter Tryz.func38, Tryz.ntmps38
  go_wp2
  go_ret
  exact ⟨rfl, rfl⟩

def regRow (s : StV) (j : Nat) : List Value := ((s.regs.map (Value.int .i64)).take j ++ List.replicate (8 - j) (.int .i64 0)) ++ [.int .i64 s.place, .int .i64 s.status, .int .i64 s.cause, .int .i64 s.busy, .bool s.y]
theorem regRow_full (s : StV) (h : s.regs.length = 8) : regRow s 8 = stI s := by
  unfold regRow stI
  rw [List.take_of_length_le (by simp [h])]
  simp
theorem regRow_set (s : StV) (h : s.regs.length = 8) (j : Nat) (hj : j < 8) (r : Int) (hr : s.regs[j]? = some r) : (regRow s j).set j (.int .i64 r) = regRow s (j + 1) := by
  unfold regRow
  have hl : ((s.regs.map (Value.int .i64)).take j).length = j := by simp [h]; omega
  rw [List.set_append_left _ _ (by simp [hl]; omega), List.set_append_right _ _ (by omega), hl, Nat.sub_self]
  congr 1
  rw [show 8 - j = (8 - (j + 1)) + 1 by omega, List.replicate_succ, List.set_cons_zero, List.take_add_one, List.getElem?_map, hr]
  simp

structure StW (s : StV) : Prop where
  l : s.regs.length = 8
  r : ∀ r ∈ s.regs, 0 ≤ r ∧ r < 4294967296
  p0 : 0 ≤ s.place
  p1 : s.place < 4294967296

set_option maxRecDepth 100000 in
set_option maxHeartbeats 4000000 in
theorem state_any (w : World) (s : StV) (hs : StW s) :
    Calls Tryz.prog 84 #[.agg (stCells s).toArray] w fun e w' => e = .returned (.agg (stI s).toArray) ∧ Fr (fun _ => False) w w' := by
  obtain ⟨r0, r1, r2, r3, r4, r5, r6, r7, hr⟩ := st13 _ hs.l
  have HS := hid hs
  have hp0 := hs.p0
  have hp1 := hs.p1
  have hv : (stCells s).toArray = #[.int .u32 r0, .int .u32 r1, .int .u32 r2, .int .u32 r3, .int .u32 r4, .int .u32 r5, .int .u32 r6, .int .u32 r7, .int .u32 s.place, .int .i64 s.status, .int .i64 s.cause, .int .i64 s.busy, .bool s.y] := by unfold stCells; rw [hr]; rfl
  have HV := hid hv
  have HR0 : Hid (regRow s 0 = [.int .i64 0, .int .i64 0, .int .i64 0, .int .i64 0, .int .i64 0, .int .i64 0, .int .i64 0, .int .i64 0, .int .i64 s.place, .int .i64 s.status, .int .i64 s.cause, .int .i64 s.busy, .bool s.y]) := rfl
  have HRR := hid hr
  rw [hv]
  clear hv hs hr
  go_enter Tryz.func84, Tryz.ntmps84
  go_wp2_with fail
  have HF0 : Hid (Fr (fun _ => False) w (((w.alloc (.cells #[.int .u32 r0, .int .u32 r1, .int .u32 r2, .int .u32 r3, .int .u32 r4, .int .u32 r5, .int .u32 r6, .int .u32 r7, .int .u32 s.place, .int .i64 s.status, .int .i64 s.cause, .int .i64 s.busy, .bool s.y] 48)).alloc (.cells (stI noSt').toArray 128)).alloc (.cells (regRow s 0).toArray 128))) := (((Fr.refl _ w).alloc _).alloc _).alloc _
  have HA : Hid ((((w.alloc (.cells #[.int .u32 r0, .int .u32 r1, .int .u32 r2, .int .u32 r3, .int .u32 r4, .int .u32 r5, .int .u32 r6, .int .u32 r7, .int .u32 s.place, .int .i64 s.status, .int .i64 s.cause, .int .i64 s.busy, .bool s.y] 48)).alloc (.cells (stI noSt').toArray 128)).alloc (.cells (regRow s 0).toArray 128)).heap[w.heap.size]? = some (.cells #[.int .u32 r0, .int .u32 r1, .int .u32 r2, .int .u32 r3, .int .u32 r4, .int .u32 r5, .int .u32 r6, .int .u32 r7, .int .u32 s.place, .int .i64 s.status, .int .i64 s.cause, .int .i64 s.busy, .bool s.y] 48 (0, 0))) := get_alloc (get_alloc (heap_alloc_new w _) _) _
  have HB : Hid ((((w.alloc (.cells #[.int .u32 r0, .int .u32 r1, .int .u32 r2, .int .u32 r3, .int .u32 r4, .int .u32 r5, .int .u32 r6, .int .u32 r7, .int .u32 s.place, .int .i64 s.status, .int .i64 s.cause, .int .i64 s.busy, .bool s.y] 48)).alloc (.cells (stI noSt').toArray 128)).alloc (.cells (regRow s 0).toArray 128)).heap[w.heap.size + 1]? = some (.cells (stI noSt').toArray 128 (0, 0))) := get_alloc (heap_new2 w _ _) _
  have HC : Hid ((((w.alloc (.cells #[.int .u32 r0, .int .u32 r1, .int .u32 r2, .int .u32 r3, .int .u32 r4, .int .u32 r5, .int .u32 r6, .int .u32 r7, .int .u32 s.place, .int .i64 s.status, .int .i64 s.cause, .int .i64 s.busy, .bool s.y] 48)).alloc (.cells (stI noSt').toArray 128)).alloc (.cells (regRow s 0).toArray 128)).heap[w.heap.size + 2]? = some (.cells (regRow s 0).toArray 128 (0, 0))) := by
    unfold Hid
    have := heap_new2 (w.alloc (.cells #[.int .u32 r0, .int .u32 r1, .int .u32 r2, .int .u32 r3, .int .u32 r4, .int .u32 r5, .int .u32 r6, .int .u32 r7, .int .u32 s.place, .int .i64 s.status, .int .i64 s.cause, .int .i64 s.busy, .bool s.y] 48)) (.cells (stI noSt').toArray 128) (.cells (regRow s 0).toArray 128)
    rw [size_alloc1'] at this
    exact this
  go_loopw [4] (fun i wr => ∃ j : Nat, j ≤ 8 ∧ i = .int .i64 j ∧ wr.heap[w.heap.size]? = some (.cells #[.int .u32 r0, .int .u32 r1, .int .u32 r2, .int .u32 r3, .int .u32 r4, .int .u32 r5, .int .u32 r6, .int .u32 r7, .int .u32 s.place, .int .i64 s.status, .int .i64 s.cause, .int .i64 s.busy, .bool s.y] 48 (0, 0)) ∧ wr.heap[w.heap.size + 1]? = some (.cells (stI noSt').toArray 128 (0, 0)) ∧ wr.heap[w.heap.size + 2]? = some (.cells (regRow s j).toArray 128 (0, 0)) ∧ Fr (fun _ => False) w wr) (fun i _ => 8 - (intOf i).toNat)
  case atStart => exact ⟨0, by omega, rfl, HA.out, HB.out, HC.out, HF0.out⟩
  case round =>
    obtain ⟨j, hj, rfl, ha, hb, hc, hf⟩ := hrel
    clear HF0 HA HB HC
    by_cases hlt : j < 8
    · have hlti : (j : Int) < 8 := by omega
      obtain ⟨r, hrj⟩ : ∃ r, s.regs[j]? = some r := ⟨_, List.getElem?_eq_getElem (by rw [HS.out.l]; exact hlt)⟩
      have hrb := HS.out.r r (List.mem_of_getElem? hrj)
      have cV : wr.cell? ⟨w.heap.size, j, none⟩ = some (.int .u32 r) := by
        rw [row_cell ha, ← HV.out]
        unfold stCells
        rw [List.getElem?_toArray, List.getElem?_append_left (by rw [List.length_map, HS.out.l]; exact hlt), List.getElem?_map, hrj]
        rfl
      have fT := row_frozen hc j
      have cT : wr.cell? ⟨w.heap.size + 2, j, none⟩ = some ((regRow s j).toArray[j]'(by unfold regRow; simp [HS.out.l]; omega)) := by rw [row_cell hc, Array.getElem?_eq_getElem]
      have HA := hid (set_other ha (p := ⟨w.heap.size + 2, j, none⟩) (by simp only; omega) (.int .i64 r))
      have HB := hid (set_other hb (p := ⟨w.heap.size + 2, j, none⟩) (by simp only; omega) (.int .i64 r))
      have HC : Hid ((wr.setCell ⟨w.heap.size + 2, j, none⟩ (.int .i64 r)).heap[w.heap.size + 2]? = some (.cells (regRow s (j + 1)).toArray 128 (0, 0))) := by
        unfold Hid
        rw [row_set hc, List.setIfInBounds_toArray, regRow_set s HS.out.l j hlt r hrj]
      have HF := hid (hf.setCell (p := ⟨w.heap.size + 2, j, none⟩) (.inr (by simp only; omega)) (.int .i64 r))
      clear ha hb hc hf hrj
      go_wp2_with fail
      go_roundw
      case rel => exact ⟨j + 1, by omega, by go_num, HA.out, HB.out, HC.out, HF.out⟩
      case measure => simp [intOf]; omega
    · obtain rfl : j = 8 := by omega
      rw [regRow_full s HS.out.l] at hc
      have HB := hid hb
      have HC := hid hc
      have HF := hid hf
      have HI : Hid (stI s = [.int .i64 r0, .int .i64 r1, .int .i64 r2, .int .i64 r3, .int .i64 r4, .int .i64 r5, .int .i64 r6, .int .i64 r7, .int .i64 s.place, .int .i64 s.status, .int .i64 s.cause, .int .i64 s.busy, .bool s.y]) := by unfold Hid stI; rw [HRR.out]; rfl
      have HSZ : Hid ((stI s).toArray.size = 13) := by unfold Hid; rw [HI.out]; rfl
      have HON : Hid ((stI s).toArray.all (·.oneCell') = true) := by unfold Hid; rw [HI.out]; simp only [List.all_toArray, List.all_cons, List.all_nil]; rfl
      clear ha hb hc hf
      go_wp2_with (first
        | (refine wpList_loadRow (hu := Tryz.underlying128) ?_ 128 (.tmp 3) ?_ (w.heap.size + 2) 128 (stI s).toArray ?_ HC.out ?_ ?_ ?_; rfl; rfl; rfl; rfl; (rw [HSZ.out]; kernel_rfl))
        | (refine wpList_storeRow ?_ 128 (.tmp 2) (.tmp 29) ?_ (w.heap.size + 1) 128 _ (stI s).toArray ?_ ?_ HB.out ?_ ?_ HON.out ?_; rfl; rfl; rfl; rfl; (rw [HSZ.out]; kernel_rfl); (rw [HSZ.out]; rfl); intro w3 g3 hf3; have HG3 := hid g3; have HF3 := hid hf3; clear g3 hf3))
      refine bodyPost_ret (v := .agg (stI s).toArray) ?_ rfl ⟨rfl, HF.out.step HF3.out (fun i hi => .inr (by omega))⟩
      have hi : (Tryz.prog.info? 128).map (·.size) = some (stI s).toArray.size := by rw [HSZ.out]; kernel_rfl
      simp [results, Tryz.results84, Act.put, asAddr, run_loadVar_row w3 (w.heap.size + 1) _ 128 (stI s).toArray (0, 0) _ HG3.out Tryz.underlying128 rfl hi]

end Go.Proofs.YthmcheoehcmglaaGreat
/- Arrays compared with themselves. -/
namespace Go.Proofs.YthmcheoehcmglaaGreat
open Go.RowKit

theorem eq8 (q : IntKind) (t e : TypeId) (d : Nat) (i : TypeInfo) (hu : Tryz.prog.underlying t = some (.array 8 e)) (he : Tryz.prog.underlying e = some (.int q)) (hi : Tryz.prog.info? e = some i) (hc : Tryz.prog.cellsOf e = 1) (hp : Tryz.prog.plainKey e = true) (r0 r1 r2 r3 r4 r5 r6 r7 : Int) (w : World) :
    (Op.equalIn (d + 2) t (.agg #[.int q r0, .int q r1, .int q r2, .int q r3, .int q r4, .int q r5, .int q r6, .int q r7]) (.agg #[.int q r0, .int q r1, .int q r2, .int q r3, .int q r4, .int q r5, .int q r6, .int q r7])).run Tryz.prog w = .ok true w := by
  have hp8 : ∀ (off : Nat) (v : Value), (#[.int q r0, .int q r1, .int q r2, .int q r3, .int q r4, .int q r5, .int q r6, .int q r7] : Array Value)[off]? = some v → (part e #[.int q r0, .int q r1, .int q r2, .int q r3, .int q r4, .int q r5, .int q r6, .int q r7] off).run Tryz.prog w = .ok v w := fun off v h => run_part_plain w hp h
  have heq : ∀ r : Int, (Op.equalIn (d + 1) e (.int q r) (.int q r)).run Tryz.prog w = .ok true w := by
    intro r
    simp [Op.equalIn, run_underlying he]
  rw [run_equalIn_array w (d + 1) _ _ hu hi, hc]
  simp only [List.range_succ, List.range_zero, List.nil_append, List.cons_append, Op.eqItems, Sem.run_bind, Nat.mul_one]
  rw [hp8 0 (.int q r0) rfl]
  simp only [Result.andThen_ok]
  rw [hp8 0 (.int q r0) rfl]
  simp only [Result.andThen_ok, heq, Bool.not_true, Bool.false_eq_true, if_false, Sem.run_bind]
  rw [hp8 1 (.int q r1) rfl]
  simp only [Result.andThen_ok]
  rw [hp8 1 (.int q r1) rfl]
  simp only [Result.andThen_ok, heq, Bool.not_true, Bool.false_eq_true, if_false, Sem.run_bind]
  rw [hp8 2 (.int q r2) rfl]
  simp only [Result.andThen_ok]
  rw [hp8 2 (.int q r2) rfl]
  simp only [Result.andThen_ok, heq, Bool.not_true, Bool.false_eq_true, if_false, Sem.run_bind]
  rw [hp8 3 (.int q r3) rfl]
  simp only [Result.andThen_ok]
  rw [hp8 3 (.int q r3) rfl]
  simp only [Result.andThen_ok, heq, Bool.not_true, Bool.false_eq_true, if_false, Sem.run_bind]
  rw [hp8 4 (.int q r4) rfl]
  simp only [Result.andThen_ok]
  rw [hp8 4 (.int q r4) rfl]
  simp only [Result.andThen_ok, heq, Bool.not_true, Bool.false_eq_true, if_false, Sem.run_bind]
  rw [hp8 5 (.int q r5) rfl]
  simp only [Result.andThen_ok]
  rw [hp8 5 (.int q r5) rfl]
  simp only [Result.andThen_ok, heq, Bool.not_true, Bool.false_eq_true, if_false, Sem.run_bind]
  rw [hp8 6 (.int q r6) rfl]
  simp only [Result.andThen_ok]
  rw [hp8 6 (.int q r6) rfl]
  simp only [Result.andThen_ok, heq, Bool.not_true, Bool.false_eq_true, if_false, Sem.run_bind]
  rw [hp8 7 (.int q r7) rfl]
  simp only [Result.andThen_ok]
  rw [hp8 7 (.int q r7) rfl]
  simp only [Result.andThen_ok, heq, Bool.not_true, Bool.false_eq_true, if_false, Sem.run_pure]

theorem eq8u (r0 r1 r2 r3 r4 r5 r6 r7 : Int) (w : World) : (Op.equalIn 9999 46 (.agg #[.int .u32 r0, .int .u32 r1, .int .u32 r2, .int .u32 r3, .int .u32 r4, .int .u32 r5, .int .u32 r6, .int .u32 r7]) (.agg #[.int .u32 r0, .int .u32 r1, .int .u32 r2, .int .u32 r3, .int .u32 r4, .int .u32 r5, .int .u32 r6, .int .u32 r7])).run Tryz.prog w = .ok true w := by
  obtain ⟨i0, hi0⟩ : ∃ i, Tryz.prog.info? 33 = some i := info_of_underlying Tryz.underlying33
  exact eq8 .u32 46 33 9997 i0 Tryz.underlying46 Tryz.underlying33 hi0 (by kernel_rfl) (by kernel_rfl) r0 r1 r2 r3 r4 r5 r6 r7 w

end Go.Proofs.YthmcheoehcmglaaGreat
/- Structs compared with themselves. -/
namespace Go.Proofs.YthmcheoehcmglaaGreat
open Go.RowKit

/-- A call in a region that draws its order, under a guard that is met. -/
theorem step_callW {P : Program} {w : World} {ops : Array Oper} {o : Oper} {a : Act} {K : Act → World → Prop} {Q : Exit → Act → World → Prop} {E : Prop} {f : FuncId} {xl : List Operand} {ats : Array TypeId} {fn : Func}
    (hf : P.funcs[f]? = some fn) (hnm : (fn.name == "runtime.NumGoroutine") = false) (hbd : fn.body.isNone = false) (hw : Region.wanted o (yielded ops a.tmps) = true) (ho : o.op = .call { callee := .value (.func f), args := xl.toArray, argTypes := ats })
    (args : List Value) (hargs : xl.map a.eval = args) (h : Calls P f args.toArray w fun e w' => ∃ v, e = .returned v ∧ K (a.put o.dst v) w') :
    if Region.wanted o (yielded ops a.tmps) = true then Oper.wp P o a w K Q else E := by
  rw [if_pos hw]
  obtain ⟨dst, op, ty, pos, after, guard⟩ := o
  simp only at ho h
  subst ho
  unfold Oper.wp
  have hargs' : (#[] ++ xl.toArray.map a.eval ++ #[] : Array Value) = args.toArray := by simp [hargs]
  rw [execOp_call_go, hargs']
  have hr : (callFunc f args.toArray).run P w = .ok (.enter f args.toArray) w := by
    unfold callFunc program
    simp only [bind, Sem.bind, Sem.run, hf, hnm, hbd]
    rfl
  rw [hr, Oper.upon_enter]
  refine h.mono ?_
  rintro e w' ⟨v, rfl, hk⟩
  exact hk

theorem eq8i (r0 r1 r2 r3 r4 r5 r6 r7 : Int) (w : World) : (Op.equalIn 9999 126 (.agg #[.int .i64 r0, .int .i64 r1, .int .i64 r2, .int .i64 r3, .int .i64 r4, .int .i64 r5, .int .i64 r6, .int .i64 r7]) (.agg #[.int .i64 r0, .int .i64 r1, .int .i64 r2, .int .i64 r3, .int .i64 r4, .int .i64 r5, .int .i64 r6, .int .i64 r7])).run Tryz.prog w = .ok true w := by
  obtain ⟨i0, hi0⟩ : ∃ i, Tryz.prog.info? 3 = some i := info_of_underlying Tryz.underlying3
  exact eq8 .i64 126 3 9997 i0 Tryz.underlying126 Tryz.underlying3 hi0 (by kernel_rfl) (by kernel_rfl) r0 r1 r2 r3 r4 r5 r6 r7 w
end Go.Proofs.YthmcheoehcmglaaGreat
