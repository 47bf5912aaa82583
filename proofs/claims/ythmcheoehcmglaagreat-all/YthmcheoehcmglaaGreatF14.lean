/- The reference's work: a cycle of a ward's turn. -/
import Derived.Test.YthmcheoehcmglaaGreatF13
namespace Go.Proofs.YthmcheoehcmglaaGreat
open Go.RowKit
set_option linter.unusedVariables false
attribute [local go_sem ↓] Go.wp_at_zero Go.wp_at_succ

/-- The net behind what ward k did. -/
def outW (N : NM) (k : Nat) (v : WN) (c : StV × NS) : NM := { putW N k ⟨c.1, v.was, c.2.1⟩ with wi := c.2.2.1, devs := c.2.2.2 }
def RWorkPost (x : RX) (N : NM) (k : Nat) (v : WN) (vL : List Value) (c : StV × NS) (w : World) (e : Ending) (w' : World) : Prop :=
  e = .returned (.tuple #[]) ∧ ∃ vL', RefAt x (outW N k v c) vL' w' ∧ LogsIn vL vL' w.heap.size ∧ Fr (RA x vL) w w'

theorem outW_now (N : NM) (k : Nat) (v : WN) (s' : StV) : outW N k v (s', (v.ws, N.wi, N.devs)) = putW N k { v with now := s' } := rfl

theorem RA.mono {x : RX} {vL vL' : List Value} {n : Nat} (h : LogsIn vL vL' n) : ∀ b, RA x vL' b → RA x vL b ∨ n ≤ b := by
  rintro b (e | e | e | e | e | ⟨v, hv, e⟩)
  · exact .inl (.inl e)
  · exact .inl (.inr (.inl e))
  · exact .inl (.inr (.inr (.inl e)))
  · exact .inl (.inr (.inr (.inr (.inl e))))
  · exact .inl (.inr (.inr (.inr (.inr (.inl e)))))
  · rcases h v hv b e with ⟨u, hu, h1⟩ | h1
    · exact .inl (.inr (.inr (.inr (.inr (.inr ⟨u, hu, h1⟩)))))
    · exact .inr h1

set_option maxRecDepth 100000 in
set_option maxHeartbeats 4000000 in
theorem work_rest (x : RX) (kx : KX) (N : NM) (vL : List Value) (w : World) (h : RefAt x N vL w) (hb : NLen x N) (hx : RXok x) (k : Nat) (y : RSt) (v : WN) (hy : x.st[k]? = some y) (hv : N.wn[k]? = some v) (hB : StB v.now) (hg : goes v.now = false ∨ 0 < v.now.busy) :
    Calls Tryz.prog 80 #[.pointer (some ⟨x.Y, 0, none⟩), .int .i64 k] w fun e w' => RWorkPost x N k v vL (cycleM (opsN kx k N.ck) v.now (v.ws, N.wi, N.devs)) w e w' := by
  have hkl := (List.getElem?_eq_some_iff.1 hy).1
  have hki : (k : Int) < (x.st.length : Int) := by omega
  have hn4 := hx.n4
  have h8 := (hb.s8 v (List.mem_of_getElem? hv)).1
  have c2 : w.cell? ⟨x.Y, 2, none⟩ = some (.slice (some ⟨x.gW, 0, none⟩) x.st.length x.cW) := row_cell h.n.hy 2
  obtain ⟨r8, r9, r10, r11, r12⟩ := h.rest hb k y v hy hv
  have b0 := hB.b0
  have b1 := hB.b1
  have HSA : Hid (RefAt x (outW N k v (v.now, (v.ws, N.wi, N.devs))) vL w) := by
    show RefAt x (putW N k v) vL w
    rw [putW_id N k v hv]
    exact h
  by_cases hgo : goes v.now = false
  · have HC : Hid (cycleM (opsN kx k N.ck) v.now (v.ws, N.wi, N.devs) = (v.now, (v.ws, N.wi, N.devs))) := by unfold Hid cycleM; rw [if_pos hgo]
    have HP : Hid (RWorkPost x N k v vL (cycleM (opsN kx k N.ck) v.now (v.ws, N.wi, N.devs)) w (.returned (.tuple #[])) w) := by
      rw [HC.out]
      exact ⟨rfl, vL, HSA.out, LogsIn.refl _ _, Fr.refl _ _⟩
    by_cases hs : v.now.status = 0
    · have hyy : v.now.y = true := by simpa [goes, hs] using hgo
      rw [hs] at r9
      rw [hyy] at r12
      clear h hb hx hy hv hB HC HSA hgo hg h8 hs hyy
      go_enter Tryz.func80, Tryz.ntmps80
      go_wp2_with fail
      go_end0
      exact HP.out
    · have hsb : (v.now.status == 0) = false := by simpa using hs
      clear h hb hx hy hv hB HC HSA hgo hg h8 hsb
      go_enter Tryz.func80, Tryz.ntmps80
      go_wp2_with fail
      go_end0
      exact HP.out
  · have hbz : 0 < v.now.busy := by
      rcases hg with hg | hg
      · exact absurd hg hgo
      · exact hg
    have hgt : goes v.now = true := by simpa using hgo
    have hs : v.now.status = 0 ∧ v.now.y = false := by simpa [goes] using hgt
    have f11 := h.frozenW (k * 29 + 3 + 11)
    have HC : Hid (cycleM (opsN kx k N.ck) v.now (v.ws, N.wi, N.devs) = ({ v.now with busy := v.now.busy - 1 }, (v.ws, N.wi, N.devs))) := by unfold Hid cycleM; rw [if_neg hgo, if_pos hbz]
    have HN := hid (h.setNow hb k y v hy hv { v.now with busy := v.now.busy - 1 } h8 11 (by omega) _ (stI_busy _ h8 (v.now.busy - 1)))
    have HF : Hid (Fr (RA x vL) w (w.setCell ⟨x.gW, k * 29 + 3 + 11, none⟩ (.int .i64 (v.now.busy - 1)))) := (Fr.refl _ w).setCell (.inl (.inr (.inl rfl))) _
    rw [hs.1] at r9
    rw [hs.2] at r12
    obtain ⟨bz, hbE⟩ : ∃ bz, v.now.busy = bz := ⟨_, rfl⟩
    rw [hbE] at r11 HN HF HC hbz b0 b1
    clear h hb hx hy hv hB HSA hgo hg h8 hs hgt hbE
    go_enter Tryz.func80, Tryz.ntmps80
    go_wp2_with fail
    go_end0
    rw [HC.out]
    exact ⟨rfl, vL, HN.out, LogsIn.refl _ _, HF.out⟩

set_option maxRecDepth 100000 in
set_option maxHeartbeats 4000000 in
theorem work_fault (x : RX) (kx : KX) (hK : RKx x kx) (N : NM) (vL : List Value) (w : World) (h : RefAt x N vL w) (hb : NLen x N) (hx : RXok x) (k : Nat) (y : RSt) (v : WN) (hy : x.st[k]? = some y) (hv : N.wn[k]? = some v) (hB : StB v.now) (hg : goes v.now = true) (hbz : v.now.busy = 0) (hrd : readN (y.regs.map (·.1)) 4 v.ws v.now.place = none) :
    Calls Tryz.prog 80 #[.pointer (some ⟨x.Y, 0, none⟩), .int .i64 k] w fun e w' => RWorkPost x N k v vL (cycleM (opsN kx k N.ck) v.now (v.ws, N.wi, N.devs)) w e w' := by
  have hkl := (List.getElem?_eq_some_iff.1 hy).1
  have hym := List.mem_of_getElem? hy
  have hki : (k : Int) < (x.st.length : Int) := by omega
  have hn4 := hx.n4
  have h8 := (hb.s8 v (List.mem_of_getElem? hv)).1
  have c2 : w.cell? ⟨x.Y, 2, none⟩ = some (.slice (some ⟨x.gW, 0, none⟩) x.st.length x.cW) := row_cell h.n.hy 2
  obtain ⟨r8, r9, r10, r11, r12⟩ := h.rest hb k y v hy hv
  have hs : v.now.status = 0 ∧ v.now.y = false := by simpa [goes] using hg
  obtain ⟨vr, -, -⟩ := h.vr hb k y v hy hv
  obtain ⟨hrr, -⟩ := h.rr k y v hy hv
  have hlen := (hb.wl k v y hv hy).1
  have hzl : (List.zipWith rregOf y.regs v.ws).length = y.regs.length := by rw [List.length_zipWith, hlen, Nat.min_self]
  have p0 := hB.p0
  have p1 := hB.p1
  have HPL := hid (place_any w x.gW (k * 29) y.vR _ vr hrr (by
    intro r hr
    obtain ⟨j, hj⟩ := List.getElem?_of_mem hr
    obtain ⟨p, u, hp, hu, rfl⟩ := zip_inv _ _ _ _ hj
    exact hx.rb y hym p (List.mem_of_getElem? hp)) (by rw [hzl]; exact hx.rl y hym) v.now.place p0 p1)
  rw [zip_regs y v.ws hlen] at HPL
  obtain ⟨hkr, hkd⟩ := hK.reg k y hy
  have HC : Hid (cycleM (opsN kx k N.ck) v.now (v.ws, N.wi, N.devs) = ({ v.now with status := 2, cause := 3 }, (v.ws, N.wi, N.devs))) := by
    unfold Hid cycleM
    rw [if_neg (by rw [hg]; simp), if_neg (by omega)]
    exact step_none kx k N.ck v.now _ (by rw [hkr]; exact hrd)
  have HCE : Hid (∀ w2, Fr (fun _ => False) w w2 → w2.cell? ⟨x.gW, k * 29 + 3 + 9, none⟩ = some (.int .i64 0) ∧ w2.frozen? ⟨x.gW, k * 29 + 3 + 9, none⟩ = false ∧ (w2.setCell ⟨x.gW, k * 29 + 3 + 9, none⟩ (.int .i64 2)).cell? ⟨x.gW, k * 29 + 3 + 10, none⟩ = some (.int .i64 v.now.cause) ∧ (w2.setCell ⟨x.gW, k * 29 + 3 + 9, none⟩ (.int .i64 2)).frozen? ⟨x.gW, k * 29 + 3 + 10, none⟩ = false ∧ RefAt x (outW N k v ({ v.now with status := 2, cause := 3 }, (v.ws, N.wi, N.devs))) vL ((w2.setCell ⟨x.gW, k * 29 + 3 + 9, none⟩ (.int .i64 2)).setCell ⟨x.gW, k * 29 + 3 + 10, none⟩ (.int .i64 3))) := by
    intro w2 hf
    have h2 := h.frF hf
    have h3 := h2.setNow hb k y v hy hv { v.now with status := 2 } h8 9 (by omega) _ (stI_status _ h8 2)
    have hb3 : NLen x (putW N k { v with now := { v.now with status := 2 } }) := hb.put k v _ hv ⟨h8, (hb.s8 v (List.mem_of_getElem? hv)).2⟩ rfl
    have hv3 := putW_self N k v { v with now := { v.now with status := 2 } } hv
    have h4 := h3.setNow hb3 k y _ hy hv3 { v.now with status := 2, cause := 3 } h8 10 (by omega) _ (stI_cause { v.now with status := 2 } h8 3)
    rw [putW_put] at h4
    have e9 := (h2.rest hb k y v hy hv).2.1
    rw [hs.1] at e9
    exact ⟨e9, h2.frozenW _, (h3.rest hb3 k y _ hy hv3).2.2.1, h3.frozenW _, h4⟩
  have HHA : Hid (∀ w2, Fr (fun _ => False) w w2 → Calls Tryz.prog 104 #[.pointer (some ⟨x.gW, k * 29, none⟩), .int .i64 (placeV (y.regs.map (·.1)) v.now.place).1, .int .i64 4] w2 fun e w' => e = .returned (.bool false) ∧ w' = w2) := by
    intro w2 hf
    unfold readN at hrd
    unfold placeV
    cases hri : regI (y.regs.map (·.1)) v.now.place with
    | none => exact has_no w2 x.gW (k * 29) 4
    | some j =>
      rw [hri] at hrd
      simp only at hrd
      obtain ⟨r, hrj, hin, hra⟩ := readN_some hri
      rw [hra] at hrd
      have hha : hasR r 4 = false := by
        cases hh : hasR r 4 with
        | false => rfl
        | true => rw [hh] at hrd; simp at hrd
      rw [List.getElem?_map] at hrj
      obtain ⟨p, hp, hpr⟩ := Option.map_eq_some_iff.1 hrj
      have hjl : j < v.ws.length := by rw [hlen]; exact (List.getElem?_eq_some_iff.1 hp).1
      have hu : v.ws[j]? = some v.ws[j] := List.getElem?_eq_getElem hjl
      have hzj := zip_at y v.ws j p _ hp hu
      have := has_yes w2 x.gW (k * 29) y.vR _ (cell_fr vr hf) (hrr.fr hf) j (rregOf p v.ws[j]) hzj (hx.rb y hym p (List.mem_of_getElem? hp)) (by rw [hzl]; exact hx.rl y hym) 4 (.inr (.inr rfl))
      have e1 : (rregOf p v.ws[j]).r = r := hpr
      rw [e1, hha] at this
      exact this
  rw [hs.1] at r9
  rw [hs.2] at r12
  rw [hbz] at r11
  generalize placeV (y.regs.map (·.1)) v.now.place = pv at *
  generalize v.now.place = pl at *
  clear h hb hx hy hv hB hg h8 hs hbz hrd hrr vr hlen hzl hK hkr hkd hym
  go_enter Tryz.func80, Tryz.ntmps80
  go_wp2_with fail
  refine HPL.out.mono ?_
  rintro e w2 ⟨rfl, hf2⟩
  have HF2 := hid hf2
  obtain ⟨q1, q2, q3, q4, q5⟩ := HCE.out w2 hf2
  have HN := hid q5
  clear hf2 c2 q5 HPL r8 r9 r10 r11 r12
  go_wp2_with fail
  refine (HHA.out _ HF2.out).mono ?_
  rintro e w3 ⟨rfl, hw⟩
  obtain rfl := hw.symm
  go_wp2_with fail
  go_end0
  rw [HC.out]
  refine ⟨rfl, vL, HN.out, LogsIn.refl _ _, ?_⟩
  exact ((HF2.out.mono (fun _ h => h.elim)).setCell (.inl (.inr (.inl rfl))) _).setCell (.inl (.inr (.inl rfl))) _

end Go.Proofs.YthmcheoehcmglaaGreat
