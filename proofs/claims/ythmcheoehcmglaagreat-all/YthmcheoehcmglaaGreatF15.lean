/- The reference's work: an instruction; work as a whole. -/
import Derived.Test.YthmcheoehcmglaaGreatF14
namespace Go.Proofs.YthmcheoehcmglaaGreat
open Go.RowKit
set_option linter.unusedVariables false
attribute [local go_sem ↓] Go.wp_at_zero Go.wp_at_succ

theorem outW_self (N : NM) (k : Nat) (v : WN) (c : StV × NS) (hv : N.wn[k]? = some v) : (outW N k v c).wn[k]? = some ⟨c.1, v.was, c.2.1⟩ := putW_self N k v _ hv
theorem outW_put (N : NM) (k : Nat) (v : WN) (c : StV × NS) (s : StV) : putW (outW N k v c) k ⟨s, v.was, c.2.1⟩ = outW N k v (s, c.2) := by
  unfold outW putW
  simp [List.set_set]
theorem outW_len {x : RX} {N : NM} (h : NLen x N) (k : Nat) (v : WN) (hv : N.wn[k]? = some v) (c : StV × NS) (h8 : c.1.regs.length = 8) (h1 : c.2.1.map List.length = v.ws.map List.length) (h2 : c.2.2.1.length = N.wi.length) (h3 : c.2.2.2.length = N.devs.length) : NLen x (outW N k v c) :=
  ((h.put k v ⟨c.1, v.was, c.2.1⟩ hv ⟨h8, (h.s8 v (List.mem_of_getElem? hv)).2⟩ h1).wi c.2.2.1 h2).dv c.2.2.2 h3

set_option maxRecDepth 100000 in
set_option maxHeartbeats 2000000 in
theorem work_does (x : RX) (kx : KX) (hK : RKx x kx) (N : NM) (vL : List Value) (w : World) (h : RefAt x N vL w) (hbd : NBd x N) (hx : RXok x) (hck : N.ck ≤ 9223372036854775807) (hL : ∀ d ∈ N.devs, d.2.length + 1 ≤ 17592186044416) (k : Nat) (y : RSt) (v : WN) (hy : x.st[k]? = some y) (hv : N.wn[k]? = some v) (hg : goes v.now = true) (hbz : v.now.busy = 0) (zw : Int) (hrd : readN (y.regs.map (·.1)) 4 v.ws v.now.place = some zw) :
    Calls Tryz.prog 80 #[.pointer (some ⟨x.Y, 0, none⟩), .int .i64 k] w fun e w' => RWorkPost x N k v vL (cycleM (opsN kx k N.ck) v.now (v.ws, N.wi, N.devs)) w e w' := by
  have hb := hbd.len
  have hB := (hbd.sb v (List.mem_of_getElem? hv)).1
  have hkl := (List.getElem?_eq_some_iff.1 hy).1
  have hym := List.mem_of_getElem? hy
  have hki : (k : Int) < (x.st.length : Int) := by omega
  have hn4 := hx.n4
  have h8 := (hb.s8 v (List.mem_of_getElem? hv)).1
  have c2 : w.cell? ⟨x.Y, 2, none⟩ = some (.slice (some ⟨x.gW, 0, none⟩) x.st.length x.cW) := row_cell h.n.hy 2
  obtain ⟨r8, r9, r10, r11, r12⟩ := h.rest hb k y v hy hv
  have hs : v.now.status = 0 ∧ v.now.y = false := by simpa [goes] using hg
  obtain ⟨vr, -, -⟩ := h.vr hb k y v hy hv
  obtain ⟨hrr, -⟩ := h.rr k y v hy hv
  have hlen := (hb.wl k v y hv hy).1
  have hzl : (List.zipWith rregOf y.regs v.ws).length = y.regs.length := by rw [List.length_zipWith, hlen, Nat.min_self]
  have p0 := hB.p0
  have p1 := hB.p1
  have HPL := hid (place_any w x.gW (k * 29) y.vR _ vr hrr (by
    intro r hr
    obtain ⟨j, hj⟩ := List.getElem?_of_mem hr
    obtain ⟨p, u, hp, hu, rfl⟩ := zip_inv _ _ _ _ hj
    exact hx.rb y hym p (List.mem_of_getElem? hp)) (by rw [hzl]; exact hx.rl y hym) v.now.place p0 p1)
  rw [zip_regs y v.ws hlen] at HPL
  obtain ⟨hkr, hkd⟩ := hK.reg k y hy
  -- the word
  have hrd0 := hrd
  unfold readN at hrd
  cases hri : regI (y.regs.map (·.1)) v.now.place with
  | none => rw [hri] at hrd; cases hrd
  | some j =>
  rw [hri] at hrd
  simp only at hrd
  obtain ⟨r, hrj, hin, hra⟩ := readN_some hri
  rw [hra] at hrd
  have hha : hasR r 4 = true := by
    cases hh : hasR r 4 with
    | true => rfl
    | false => rw [hh] at hrd; simp at hrd
  rw [hha, if_pos rfl] at hrd
  have hpl : placeV (y.regs.map (·.1)) v.now.place = ((j : Int), v.now.place - r.1) := by unfold placeV; rw [hri]; simp only; rw [hra]
  rw [hpl] at HPL
  rw [List.getElem?_map] at hrj
  obtain ⟨p, hp, hpr⟩ := Option.map_eq_some_iff.1 hrj
  have hjl : j < v.ws.length := by rw [hlen]; exact (List.getElem?_eq_some_iff.1 hp).1
  have hu : v.ws[j]? = some v.ws[j] := List.getElem?_eq_getElem hjl
  have hzj := zip_at y v.ws j p _ hp hu
  have hul := (hb.wl k v y hv hy).2 j p _ hp hu
  have hRB := hx.rb y hym p (List.mem_of_getElem? hp)
  rw [inR_iff] at hin
  have hpr' : p.1 = r := hpr
  rw [hpr'] at hul
  obtain ⟨i, hi⟩ := Int.eq_ofNat_of_zero_le (show 0 ≤ v.now.place - r.1 by omega)
  have hil : i < v.ws[j].length := by omega
  rw [hi, Int.toNat_natCast, getD_of hu] at hrd
  have hzw : v.ws[j].getD i 0 = zw := Option.some.inj hrd
  have hzb : bdW zw := by
    rw [← hzw]
    exact hbd.nw v (List.mem_of_getElem? hv) _ (List.mem_of_getElem? hu) _ (getD_mem' _ _ _ hil)
  have z0 : 0 ≤ zw := hzb.1
  have z1 : zw < 4294967296 := hzb.2
  rw [hi] at HPL
  -- the state behind the fetch
  obtain ⟨s1, hs1⟩ : ∃ s1 : StV, s1 = { v.now with place := (v.now.place + 1) % 4294967296 } := ⟨_, rfl⟩
  have hv1 := putW_self N k v { v with now := s1 } hv
  have h81 : s1.regs.length = 8 := by rw [hs1]; exact h8
  have hb1 : NLen x (putW N k { v with now := s1 }) := hb.put k v _ hv ⟨h81, (hb.s8 v (List.mem_of_getElem? hv)).2⟩ rfl
  have hB1 : StB s1 := by rw [hs1]; exact hB.place _ (by omega) (by omega)
  obtain ⟨R, hR⟩ : ∃ R, doesM kx k N.ck s1 (v.ws, N.wi, N.devs) (zw / 16777216).toNat (zw / 1048576 % 8).toNat (zw / 65536 % 8).toNat (zw % 65536) = R := ⟨_, rfl⟩
  have HDO := hid (fun (w3 : World) (h3 : RefAt x (putW N k { v with now := s1 }) vL w3) => rdoes_any x kx hK (putW N k { v with now := s1 }) vL w3 h3 hb1 hx k y { v with now := s1 } hy hv1 hB1 hbd.ni hbd.c0 hck hL zw z0 z1)
  replace HDO : Hid (∀ w3, RefAt x (putW N k { v with now := s1 }) vL w3 → Calls Tryz.prog 105 #[.pointer (some ⟨x.Y, 0, none⟩), .int .i64 k, .int .i64 zw] w3 fun e w' => e = .returned (.int .i64 R.1) ∧ ∃ vL', RefAt x (outW N k v (R.2.1, R.2.2)) vL' w' ∧ LogsIn vL vL' w3.heap.size ∧ Fr (RA x vL) w3 w') := by
    intro w3 h3
    refine (HDO.out w3 h3).mono ?_
    rintro e w' ⟨he, vL', h4, h5, h6⟩
    have hR' : doesM kx k (putW N k { v with now := s1 }).ck ({ v with now := s1 } : WN).now (({ v with now := s1 } : WN).ws, (putW N k { v with now := s1 }).wi, (putW N k { v with now := s1 }).devs) (zw / 16777216).toNat (zw / 1048576 % 8).toNat (zw / 65536 % 8).toNat (zw % 65536) = R := hR
    rw [hR'] at he h4
    refine ⟨he, vL', ?_, h5, h6⟩
    have e2 : ({ putW (putW N k { v with now := s1 }) k ⟨R.2.1, ({ v with now := s1 } : WN).was, R.2.2.1⟩ with wi := R.2.2.2.1, devs := R.2.2.2.2 } : NM) = outW N k v (R.2.1, R.2.2) := by
      unfold outW putW
      simp [List.set_set]
    rw [← e2]
    exact h4
  have hdl := doesM_len kx k N.ck s1 (v.ws, N.wi, N.devs) (zw / 16777216).toNat (zw / 1048576 % 8).toNat (zw / 65536 % 8).toNat (zw % 65536)
  have hdn := doesM_no kx k N.ck s1 (v.ws, N.wi, N.devs) (zw / 16777216).toNat (zw / 1048576 % 8).toNat (zw / 65536 % 8).toNat (zw % 65536)
  rw [hR] at hdl hdn
  have HC : Hid (cycleM (opsN kx k N.ck) v.now (v.ws, N.wi, N.devs) = if R.1 = 0 then ((if goes R.2.1 then { R.2.1 with busy := costV (zw / 16777216) - 1 } else R.2.1), R.2.2) else ({ v.now with status := 2, cause := R.1 }, R.2.2)) := by
    unfold Hid cycleM
    rw [if_neg (by rw [hg]; simp), if_neg (by omega)]
    exact step_eq kx k N.ck v.now _ zw (by rw [hkr]; exact hrd0) R (by rw [← hs1]; exact hR) z0
  have hR8 : R.2.1.regs.length = 8 := by rw [hdl.1]; exact h81
  have HB2 : Hid (NLen x (outW N k v (R.2.1, R.2.2))) := outW_len hb k v hv _ hR8 hdl.2.1 hdl.2.2.1 hdl.2.2.2
  have HV2 : Hid ((outW N k v (R.2.1, R.2.2)).wn[k]? = some ⟨R.2.1, v.was, R.2.2.1⟩) := outW_self N k v _ hv
  have HHA : Hid (∀ w2, Fr (fun _ => False) w w2 → Calls Tryz.prog 104 #[.pointer (some ⟨x.gW, k * 29, none⟩), .int .i64 j, .int .i64 4] w2 fun e w' => e = .returned (.bool true) ∧ w' = w2) := by
    intro w2 hf
    have := has_yes w2 x.gW (k * 29) y.vR _ (cell_fr vr hf) (hrr.fr hf) j (rregOf p v.ws[j]) hzj hRB (by rw [hzl]; exact hx.rl y hym) 4 (.inr (.inr rfl))
    have e1 : (rregOf p v.ws[j]).r = r := hpr
    rw [e1, hha] at this
    exact this
  have hrl := hx.rl y hym
  have HCE : Hid (∀ w2, Fr (fun _ => False) w w2 → ∃ gr cr, w2.cell? ⟨x.gW, k * 29 + 1, none⟩ = some (.slice (some ⟨gr, 0, none⟩) y.regs.length cr) ∧ w2.cell? ⟨gr, j * 5 + 4, none⟩ = some (.slice (some ⟨p.2, 0, none⟩) v.ws[j].length v.ws[j].length) ∧ w2.cell? ⟨p.2, i, none⟩ = some (.int .i64 zw) ∧ w2.cell? ⟨x.gW, k * 29 + 3 + 8, none⟩ = some (.int .i64 v.now.place) ∧ w2.frozen? ⟨x.gW, k * 29 + 3 + 8, none⟩ = false ∧ RefAt x (putW N k { v with now := s1 }) vL (w2.setCell ⟨x.gW, k * 29 + 3 + 8, none⟩ (.int .i64 ((v.now.place + 1) % 4294967296)))) := by
    intro w2 hf
    have h2 := h.frF hf
    have hr2 := hrr.fr hf
    have ho := hr2.own
    rw [hzl] at ho
    obtain ⟨gr, cr, hvv, -, -⟩ := ho.form (by omega)
    have hvr := cell_fr vr hf
    rw [hvv] at hvr ho
    have hn := h2.setNow hb k y v hy hv s1 h81 8 (by omega) _ (by rw [hs1]; exact stI_place _ h8 _)
    refine ⟨gr, cr, hvr, ?_, ?_, (h2.rest hb k y v hy hv).1, h2.frozenW _, hn⟩
    · have hjz : j < (List.zipWith rregOf y.regs v.ws).length := by rw [hzl]; omega
      rw [ho.cellAt (j * 5 + 4) (by omega), flat_get rrCells 5 (fun _ => rfl) _ j 4 hjz (by omega), (List.getElem?_eq_some_iff.1 hzj).2]
      rfl
    · have hbk := (hr2.blk _ (List.mem_of_getElem? hzj)).1
      have hbk' : w2.heap[p.2]? = some (.cells (intCells v.ws[j]).toArray 3 (0, 0)) := hbk
      rw [row_cell hbk']
      unfold intCells
      rw [List.getElem?_toArray, List.getElem?_map, List.getElem?_eq_getElem hil]
      rw [List.getD_eq_getElem?_getD, List.getElem?_eq_getElem hil] at hzw
      rw [← hzw]
      rfl
  have hji : (j : Int) < (y.regs.length : Int) := by omega
  have hii : (i : Int) < (v.ws[j].length : Int) := by omega
  have hj3 : j < 3 := by omega
  have hiB : i < 65536 := by have := hRB.s1; rw [hpr'] at this; omega
  have hlB : v.ws[j].length ≤ 65536 := by have := hRB.s1; rw [hpr'] at this; omega
  have HDN := hid hdn
  have HS1 := hid hs1
  have HR8 := hid hR8
  have HY := hid hy
  rw [hs.1] at r9
  rw [hs.2] at r12
  rw [hbz] at r11
  have HP : Hid (p0 = p0) := rfl
  generalize v.ws[j].length = lu at *
  obtain ⟨pl, hplE⟩ : ∃ pl, v.now.place = pl := ⟨_, rfl⟩
  rw [hplE] at r8 HPL HCE p0 p1
  have HPLE := hid hplE
  clear h hb hx hy hv hB hg h8 hs hbz hrd hrr vr hlen hzl hK hkr hkd hym hrd0 hri hrj hin hra hha hpl hp hpr hu hzj hul hRB hpr' hi hzw hzb hs1 hv1 h81 hb1 hB1 hR hdl hdn hR8 hbd hL hplE HP
  go_enter Tryz.func80, Tryz.ntmps80
  go_wp2_with fail
  refine HPL.out.mono ?_
  rintro e w2 ⟨rfl, hf2⟩
  have HF2 := hid hf2
  obtain ⟨gr, cr, q1, q2, q3, q4, q5, q6⟩ := HCE.out w2 hf2
  have HN := hid q6
  clear hf2 c2 q6 HPL r8 r9 r10 r11 r12 HCE
  go_wp2_with fail
  refine (HHA.out _ HF2.out).mono ?_
  rintro e w3 ⟨rfl, hw⟩
  obtain rfl := hw.symm
  clear HHA
  go_wp2_with fail
  have HF3 : Hid (Fr (RA x vL) w (w2.setCell ⟨x.gW, k * 29 + 3 + 8, none⟩ (.int .i64 ((pl + 1) % 4294967296)))) := (HF2.out.mono (fun _ h => h.elim)).setCell (.inl (.inr (.inl rfl))) _
  generalize w2.setCell ⟨x.gW, k * 29 + 3 + 8, none⟩ (.int .i64 ((pl + 1) % 4294967296)) = w3 at *
  clear q1 q2 q3 q4 q5
  refine (HDO.out _ HN.out).mono ?_
  rintro e w4 ⟨rfl, vL', h4, hl4, hf4⟩
  have H4 := hid h4
  have HL4 : Hid (LogsIn vL vL' w.heap.size) := fun u hu b hb' => by
    rcases hl4 u hu b hb' with h1 | h1
    · exact .inl h1
    · exact .inr (Nat.le_trans HF3.out.size h1)
  have HF4 := hid (HF3.out.step hf4 (fun _ h => .inl h))
  obtain ⟨r8, r9, r10, r11, r12⟩ := h4.rest HB2.out k y _ HY.out HV2.out
  have f8 := h4.frozenW (k * 29 + 3 + 8)
  clear h4 hl4 hf4 HN HDO HF3 HF2
  by_cases h0 : R.1 = 0
  · rw [if_pos h0] at HC
    rw [h0]
    by_cases hs2 : R.2.1.status = 0 ∧ R.2.1.y = false
    · have hgg : goes R.2.1 = true := by simp [goes, hs2.1, hs2.2]
      rw [hgg, if_pos rfl] at HC
      simp only at r9 r12 r11
      rw [hs2.1] at r9
      rw [hs2.2] at r12
      have f11 := H4.out.frozenW (k * 29 + 3 + 11)
      have HN5 := hid (H4.out.setNow HB2.out k y _ HY.out HV2.out { R.2.1 with busy := costV (zw / 16777216) - 1 } HR8.out 11 (by omega) _ (stI_busy R.2.1 HR8.out (costV (zw / 16777216) - 1)))
      have hcb : 1 ≤ costV (zw / 16777216) ∧ costV (zw / 16777216) ≤ 5 := by
        unfold costV
        split
        · omega
        · split
          · omega
          · split
            · omega
            · split <;> omega
      have HCO := hid (fun w1 => cost_any (zw / 16777216) w1)
      generalize costV (zw / 16777216) = cz at *
      generalize hzc : zw / 16777216 = zc at *
      have HF5 : Hid (Fr (RA x vL) w (w4.setCell ⟨x.gW, k * 29 + 3 + 11, none⟩ (.int .i64 (cz - 1)))) := HF4.out.setCell (.inl (.inr (.inl rfl))) _
      clear h0 hs2 hgg HDN
      go_wp2_with fail
      refine (HCO.out _).mono ?_
      rintro e w5 ⟨rfl, hw⟩
      obtain rfl := hw.symm
      go_wp2_with fail
      go_end0
      rw [HC.out]
      refine ⟨rfl, vL', ?_, HL4.out, HF5.out⟩
      have := HN5.out
      rw [outW_put] at this
      exact this
    · have hgg : goes R.2.1 = false := by
        cases hg2 : goes R.2.1 with
        | false => rfl
        | true => exact absurd (by simpa [goes] using hg2) hs2
      rw [hgg, if_neg (by simp)] at HC
      have HP5 : Hid (RWorkPost x N k v vL (R.2.1, R.2.2) w (.returned (.tuple #[])) w4) := ⟨rfl, vL', H4.out, HL4.out, HF4.out⟩
      simp only at r9 r12
      by_cases hst : R.2.1.status = 0
      · have hyy : R.2.1.y = true := by
          cases hy2 : R.2.1.y with
          | true => rfl
          | false => exact absurd ⟨hst, hy2⟩ hs2
        rw [hst] at r9
        rw [hyy] at r12
        clear h0 hs2 hgg HDN hst hyy
        go_wp2_with fail
        go_end0
        rw [HC.out]
        exact HP5.out
      · have hstb : (R.2.1.status == 0) = false := by simpa using hst
        clear h0 hs2 hgg HDN
        go_wp2_with fail
        go_end0
        rw [HC.out]
        exact HP5.out
  · rw [if_neg h0] at HC
    have hno := HDN.out h0
    have e1 : R.2.1 = s1 := by rw [hno]
    have e2 : R.2.2 = (v.ws, N.wi, N.devs) := by rw [hno]
    have h81 : s1.regs.length = 8 := by rw [← e1]; exact HR8.out
    have g1 := H4.out.setNow HB2.out k y _ HY.out HV2.out { R.2.1 with place := pl } HR8.out 8 (by omega) _ (stI_place R.2.1 HR8.out pl)
    have hw2 := (HB2.out.s8 _ (List.mem_of_getElem? HV2.out)).2
    have hb5 := HB2.out.put k _ ⟨{ R.2.1 with place := pl }, v.was, R.2.2.1⟩ HV2.out ⟨HR8.out, hw2⟩ rfl
    have hv5 := putW_self (outW N k v (R.2.1, R.2.2)) k _ ⟨{ R.2.1 with place := pl }, v.was, R.2.2.1⟩ HV2.out
    have g2 := g1.setNow hb5 k y _ HY.out hv5 { R.2.1 with place := pl, status := 2 } HR8.out 9 (by omega) _ (stI_status { R.2.1 with place := pl } HR8.out 2)
    have hb6 := hb5.put k _ ⟨{ R.2.1 with place := pl, status := 2 }, v.was, R.2.2.1⟩ hv5 ⟨HR8.out, hw2⟩ rfl
    have hv6 := putW_self (putW (outW N k v (R.2.1, R.2.2)) k ⟨{ R.2.1 with place := pl }, v.was, R.2.2.1⟩) k _ ⟨{ R.2.1 with place := pl, status := 2 }, v.was, R.2.2.1⟩ hv5
    have g3 := g2.setNow hb6 k y _ HY.out hv6 { R.2.1 with place := pl, status := 2, cause := R.1 } HR8.out 10 (by omega) _ (stI_cause { R.2.1 with place := pl, status := 2 } HR8.out R.1)
    have t9 := (g1.rest hb5 k y _ HY.out hv5).2.1
    have u9 := g1.frozenW (k * 29 + 3 + 9)
    have t10 := (g2.rest hb6 k y _ HY.out hv6).2.2.1
    have u10 := g2.frozenW (k * 29 + 3 + 10)
    rw [putW_put, putW_put, outW_put] at g3
    have hfin : ({ R.2.1 with place := pl, status := 2, cause := R.1 } : StV) = { v.now with status := 2, cause := R.1 } := by
      rw [e1, HS1.out]
      simp only [HPLE.out]
    rw [hfin] at g3
    have G3 := hid g3
    have h0b : (R.1 == 0) = false := by simpa using h0
    have HF5 : Hid (Fr (RA x vL) w (((w4.setCell ⟨x.gW, k * 29 + 3 + 8, none⟩ (.int .i64 pl)).setCell ⟨x.gW, k * 29 + 3 + 9, none⟩ (.int .i64 2)).setCell ⟨x.gW, k * 29 + 3 + 10, none⟩ (.int .i64 R.1))) := ((HF4.out.setCell (.inl (.inr (.inl rfl))) _).setCell (.inl (.inr (.inl rfl))) _).setCell (.inl (.inr (.inl rfl))) _
    simp only at t9 t10 r8
    generalize R.2.1.status = zs at *
    generalize R.2.1.cause = zq at *
    generalize R.2.1.place = zp at *
    obtain ⟨rc, hrc⟩ : ∃ rc, R.1 = rc := ⟨_, rfl⟩
    rw [hrc] at h0b HC h0 G3 HF5 ⊢
    clear g1 g2 g3 hb5 hv5 hb6 hv6 e1 e2 hno h81 HDN r9 r10 r11 r12 hrc hfin hw2 HR8 HS1 HPLE HB2 HV2
    go_wp2_with fail
    go_end0
    rw [HC.out]
    exact ⟨rfl, vL', G3.out, HL4.out, HF5.out⟩

theorem rwork_any (x : RX) (kx : KX) (hK : RKx x kx) (N : NM) (vL : List Value) (w : World) (h : RefAt x N vL w) (hbd : NBd x N) (hx : RXok x) (hck : N.ck ≤ 9223372036854775807) (hL : ∀ d ∈ N.devs, d.2.length + 1 ≤ 17592186044416) (k : Nat) (y : RSt) (v : WN) (hy : x.st[k]? = some y) (hv : N.wn[k]? = some v) :
    Calls Tryz.prog 80 #[.pointer (some ⟨x.Y, 0, none⟩), .int .i64 k] w fun e w' => RWorkPost x N k v vL (cycleM (opsN kx k N.ck) v.now (v.ws, N.wi, N.devs)) w e w' := by
  have hB := (hbd.sb v (List.mem_of_getElem? hv)).1
  by_cases hr : goes v.now = false ∨ 0 < v.now.busy
  · exact work_rest x kx N vL w h hbd.len hx k y v hy hv hB hr
  · have hg : goes v.now = true := by
      cases hg : goes v.now with
      | true => rfl
      | false => exact absurd (.inl hg) hr
    have hbz : v.now.busy = 0 := by
      have := hB.b0
      have : ¬ 0 < v.now.busy := fun h => hr (.inr h)
      omega
    cases hrd : readN (y.regs.map (·.1)) 4 v.ws v.now.place with
    | none => exact work_fault x kx hK N vL w h hbd.len hx k y v hy hv hB hg hbz hrd
    | some zw => exact work_does x kx hK N vL w h hbd hx hck hL k y v hy hv hg hbz zw hrd

end Go.Proofs.YthmcheoehcmglaaGreat
