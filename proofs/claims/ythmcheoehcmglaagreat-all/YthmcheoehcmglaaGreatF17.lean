/- The reference's Slot. -/
import Derived.Test.YthmcheoehcmglaaGreatF15
import Derived.Deep.MidRow
namespace Go.Proofs.YthmcheoehcmglaaGreat
open Go.RowKit
set_option linter.unusedVariables false
attribute [local go_sem ↓] Go.wp_at_zero Go.wp_at_succ

theorem RXok.qs {x : RX} (h : RXok x) : QsOk x.gap (x.st.map (·.q)) := by
  refine ⟨by simpa using h.n1, by simpa using h.n4, ?_, h.g.1, h.g.2⟩
  intro q hq
  obtain ⟨y, hy, rfl⟩ := List.mem_map.1 hq
  exact h.q y hy
def Drawn (w wr : World) : Prop := (∀ p, wr.cell? p = w.cell? p) ∧ Fr (fun _ => False) w wr
theorem Drawn.fr {w wr : World} (h : Drawn w wr) : Fr (fun _ => False) w wr := h.2
theorem Drawn.cell {w wr : World} (h : Drawn w wr) (p : Addr) : wr.cell? p = w.cell? p := h.1 p
theorem Drawn.more {w wr : World} (h : Drawn w wr) (n : Nat) : Drawn w (wr.drewN n) := ⟨fun p => h.1 p, h.2.drewN n⟩

theorem slot_uniq {gap : Int} {qs : List Int} (h : QsOk gap qs) (k k0 : Nat) (c r0 : Int) (hk : k < qs.length) (hk0 : k0 < qs.length) (h1 : accN gap qs k ≤ c) (h2 : c < accN gap qs (k + 1)) (hc : c = accN gap qs k0 + r0) (r1 : 0 ≤ r0) (r2 : r0 < qs.getD k0 0 + gap) : k = k0 ∧ r0 = c - accN gap qs k := by
  have e1 := slotR_eq h k c hk h1 h2
  have e2 := slotR_eq h k0 c hk0 (by omega) (by simp only [accN]; omega)
  rw [e1] at e2
  have := Prod.ext_iff.1 e2
  simp only at this
  exact ⟨this.1, by rw [this.2]; omega⟩

def slotQ (q : Int) (k : Nat) (r : Int) : Value := .tuple #[.int .i64 (if r < q then (k : Int) else -1), .int .i64 (if r < q then r else r - q), .int .i64 (k : Int)]

set_option maxRecDepth 100000 in
set_option maxHeartbeats 2000000 in
theorem slot_any (x : RX) (kx : KX) (hK : RKx x kx) (N : NM) (vL : List Value) (w : World) (h : RefAt x N vL w) (hb : NLen x N) (hx : RXok x) (t : Int) (t0 : 0 ≤ t) (t1 : t ≤ 9223372036854775807) (k0 : Nat) (r0 : Int) (hs : SlotIs kx t k0 r0) :
    Calls Tryz.prog 79 #[.pointer (some ⟨x.Y, 0, none⟩), .int .i64 t] w fun e w' => e = .returned (slotQ (kx.qs.getD k0 0) k0 r0) ∧ Fr (fun _ => False) w w' := by
  have HQ := hid hx.qs
  have hn1 := hx.n1
  have hn4 := hx.n4
  have hg0 := hx.g.1
  have hg1 := hx.g.2
  obtain ⟨qs, hqs⟩ : ∃ qs, x.st.map (·.q) = qs := ⟨_, rfl⟩
  have hql : qs.length = x.st.length := by rw [← hqs]; simp
  rw [hqs] at HQ
  have c0 : ∀ wr, Drawn w wr → wr.cell? ⟨x.Y, 0, none⟩ = some (.int .i64 x.gap) := fun wr h1 => (h1.cell _).trans (row_cell h.n.hy 0)
  have c2 : ∀ wr, Drawn w wr → wr.cell? ⟨x.Y, 2, none⟩ = some (.slice (some ⟨x.gW, 0, none⟩) x.st.length x.cW) := fun wr h1 => (h1.cell _).trans (row_cell h.n.hy 2)
  have cq : ∀ wr, Drawn w wr → ∀ k : Nat, k < x.st.length → wr.cell? ⟨x.gW, k * 29, none⟩ = some (.int .i64 (qs.getD k 0)) := by
    intro wr h1 k hk
    have hy : x.st[k]? = some x.st[k] := List.getElem?_eq_getElem hk
    have hv : N.wn[k]? = some (N.wn[k]'(by rw [hb.l1]; exact hk)) := List.getElem?_eq_getElem _
    rw [h1.cell, (h.vr hb k _ _ hy hv).2.2, ← hqs, getD_of (show (x.st.map (·.q))[k]? = some x.st[k].q by rw [List.getElem?_map, hy]; rfl)]
  have C0 := hid c0
  have C2 := hid c2
  have CQ := hid cq
  have hkq : kx.qs = qs := by rw [hK.qs, hqs]
  have hkg : kx.gap = x.gap := hK.gap
  have hcc := hs.c
  have hkl := hs.kl
  have hr0 := hs.r0
  have hr1 := hs.r1
  rw [hkq] at hkl hr1 ⊢
  rw [hkg] at hr1
  unfold roundK at hcc
  rw [hkq, hkg] at hcc
  have hbR := accN_bd HQ.out qs.length (Nat.le_refl _)
  have hq0 := HQ.out.at k0 hkl
  have HCC := hid hcc
  have hR1 : 0 < accN x.gap qs qs.length := by omega
  have hR2 : accN x.gap qs qs.length ≤ 320 := by omega
  obtain ⟨SQ, hSQ⟩ : ∃ SQ, slotQ (qs.getD k0 0) k0 r0 = SQ := ⟨_, rfl⟩
  rw [hSQ]
  have HSQ := hid hSQ
  clear h hb hx hs c0 c2 cq hK hkq hkg hcc hqs hSQ
  go_enter Tryz.func79, Tryz.ntmps79
  go_wp2_with fail
  go_loopw [7, 8] (fun a b wr => ∃ k : Nat, k ≤ x.st.length ∧ b = .int .i64 k ∧ a = .int .i64 (accN x.gap qs k) ∧ Drawn w wr) (fun _ b _ => x.st.length - (intOf b).toNat)
  case atStart => exact ⟨0, Nat.zero_le _, rfl, rfl, fun _ => rfl, Fr.refl _ _⟩
  case round =>
    obtain ⟨k, hk, rfl, rfl, hd⟩ := hrel
    have HD := hid hd
    have d2 := C2.out wr hd
    have hbk := accN_bd HQ.out k (by omega)
    by_cases hlt : k < x.st.length
    · have hki : (k : Int) < (x.st.length : Int) := by omega
      have d0 := C0.out wr hd
      have dq := CQ.out wr hd k hlt
      have hqk := HQ.out.at k (by omega)
      have HAC : Hid (accN x.gap qs (k + 1) = accN x.gap qs k + qs.getD k 0 + x.gap) := by unfold Hid; simp only [accN]; omega
      generalize qs.getD k 0 = q at *
      generalize accN x.gap qs k = ac at *
      clear hd
      go_wp2_with fail
      go_quiet (fail)
      go_wp2_with fail
      go_roundw
      case rel =>
        exact ⟨k + 1, by omega, by go_num, by rw [HAC.out], HD.out.more _⟩
      case measure => simp [intOf]; omega
    · obtain rfl : k = x.st.length := by omega
      obtain ⟨R, hR⟩ : ∃ R, accN x.gap qs qs.length = R := ⟨_, rfl⟩
      have hRS : accN x.gap qs x.st.length = R := by rw [← hql]; exact hR
      rw [hRS]
      rw [hR] at hR1 hR2 HCC
      have hRp : ¬ R = 0 := by omega
      obtain ⟨cc, hcc⟩ : ∃ cc, t % R = cc := ⟨_, rfl⟩
      have hc0 : 0 ≤ cc := by rw [← hcc]; exact Int.emod_nonneg _ hRp
      have hc1 : cc < R := by rw [← hcc]; exact Int.emod_lt_of_pos _ hR1
      rw [hcc] at HCC
      have HR := hid hR
      clear hR hd hbk hRS
      go_wp2_with fail
      go_loopw [9, 10] (fun a b wq => ∃ k : Nat, k ≤ x.st.length ∧ b = .int .i64 k ∧ a = .int .i64 (cc - accN x.gap qs k) ∧ accN x.gap qs k ≤ cc ∧ Drawn w wq) (fun _ b _ => x.st.length - (intOf b).toNat)
      case atStart => exact ⟨0, Nat.zero_le _, rfl, by simp only [accN, Int.sub_zero]; rw [hcc], by simpa [accN] using hc0, HD.out⟩
      case round =>
        obtain ⟨k, hk', rfl, rfl, hac, hd⟩ := hrel
        replace HD := hid hd
        have d2 := C2.out wr hd
        have hbk := accN_bd HQ.out k (by omega)
        by_cases hlt2 : k < x.st.length
        · have hki : (k : Int) < (x.st.length : Int) := by omega
          have d0 := C0.out wr hd
          have dq := CQ.out wr hd k hlt2
          have hqk := HQ.out.at k (by omega)
          have HAC : Hid (accN x.gap qs (k + 1) = accN x.gap qs k + qs.getD k 0 + x.gap) := by unfold Hid; simp only [accN]; omega
          have HU := hid (fun (h2 : cc < accN x.gap qs (k + 1)) => slot_uniq HQ.out k k0 cc r0 (by omega) hkl hac h2 HCC.out hr0 hr1)
          obtain ⟨q, hqE⟩ : ∃ q, qs.getD k 0 = q := ⟨_, rfl⟩
          obtain ⟨ac, hacE⟩ : ∃ ac, accN x.gap qs k = ac := ⟨_, rfl⟩
          have HQE := hid hqE
          have HACE := hid hacE
          rw [hqE] at dq hqk HAC
          rw [hacE] at HAC hac hbk ⊢
          rw [hacE] at HU
          clear hqE hacE hd
          by_cases hq : cc - ac < q
          · have hu := HU.out (by rw [HAC.out]; omega)
            have HV : Hid (SQ = .tuple #[.int .i64 (k : Int), .int .i64 (cc - ac), .int .i64 (k : Int)]) := by
              unfold Hid
              rw [← HSQ.out]
              unfold slotQ
              rw [← hu.1, HQE.out, hu.2, if_pos hq, if_pos hq]
            clear hu
            go_wp2_with fail
            refine bodyPost_ret (v := .tuple #[.int .i64 (k : Int), .int .i64 (cc - ac), .int .i64 (k : Int)]) ?_ rfl ⟨by rw [HV.out], HD.out.fr⟩
            simp [results, Tryz.results79, go_sem]
          · by_cases hg : cc - ac - q < x.gap
            · have hu := HU.out (by rw [HAC.out]; omega)
              have HV : Hid (SQ = .tuple #[.int .i64 (-1), .int .i64 (cc - ac - q), .int .i64 (k : Int)]) := by
                unfold Hid
                rw [← HSQ.out]
                unfold slotQ
                rw [← hu.1, HQE.out, hu.2, if_neg hq, if_neg hq]
              clear hu
              go_wp2_with fail
              refine bodyPost_ret (v := .tuple #[.int .i64 (-1), .int .i64 (cc - ac - q), .int .i64 (k : Int)]) ?_ rfl ⟨by rw [HV.out], HD.out.fr⟩
              simp [results, Tryz.results79, go_sem]
            · go_wp2_with fail
              go_roundw
              case rel => exact ⟨k + 1, by omega, by go_num, by rw [HAC.out]; go_num, by rw [HAC.out]; omega, HD.out⟩
              case measure => simp [intOf]; omega
        · obtain rfl : k = x.st.length := by omega
          rw [← hql, HR.out] at hac
          omega

end Go.Proofs.YthmcheoehcmglaaGreat
/- The reference's Run. -/
namespace Go.Proofs.YthmcheoehcmglaaGreat
open Go.RowKit
set_option linter.unusedVariables false
attribute [local go_sem ↓] Go.wp_at_zero Go.wp_at_succ

theorem owns_splice {base e size n g cap : Nat} : ∀ (cs : List Value) (w : World) (xs : List Value) (o : Nat), w.ownsRow base e size (.slice (some ⟨g, 0, none⟩) n cap) n xs → o + cs.length ≤ n * size → (w.setCells g o cs).ownsRow base e size (.slice (some ⟨g, 0, none⟩) n cap) n (splice xs o cs) := by
  intro cs
  induction cs with
  | nil =>
    intro w xs o h _
    have e : splice xs o [] = xs := by simp [splice]
    rw [e]
    exact h
  | cons v r ih =>
    intro w xs o h hl
    simp only [List.length_cons] at hl
    have h1 := owns_set h o (by omega) v
    have h2 := ih (w.setCell ⟨g, o, none⟩ v) (xs.set o v) (o + 1) h1 (by omega)
    rw [splice_cons xs o v r (by rw [h.1]; simp only [List.length_cons]; omega)] at h2
    exact h2
theorem splice_left (a b : List Value) (o : Nat) (cs : List Value) (h : o + cs.length ≤ a.length) : splice (a ++ b) o cs = splice a o cs ++ b := by
  unfold splice
  rw [List.take_append_of_le_length (by omega), List.drop_append_of_le_length (by omega)]
  simp
theorem splice_right (a b : List Value) (o : Nat) (cs : List Value) : splice (a ++ b) (a.length + o) cs = a ++ splice b o cs := by
  unfold splice
  rw [List.take_length_add_append, Nat.add_assoc, List.drop_length_add_append]
  simp
theorem flat_splice {α : Type} (f : α → List Value) (m : Nat) : ∀ (xs : List α), (∀ x ∈ xs, (f x).length = m) → ∀ (k c : Nat) (x x' : α) (cs : List Value), xs[k]? = some x → c + cs.length ≤ m → splice (f x) c cs = f x' → splice (xs.flatMap f) (k * m + c) cs = (xs.set k x').flatMap f := by
  intro xs
  induction xs with
  | nil => intro _ k c x x' cs hx; simp at hx
  | cons y xs ih =>
    intro hl k c x x' cs hx hc hu
    have hy : (f y).length = m := hl y (by simp)
    cases k with
    | zero =>
      simp only [List.getElem?_cons_zero, Option.some.injEq] at hx
      subst hx
      simp only [List.flatMap_cons, Nat.zero_mul, Nat.zero_add, List.set_cons_zero]
      rw [splice_left _ _ _ _ (by omega), hu]
    | succ k =>
      simp only [List.flatMap_cons, List.set_cons_succ]
      have e : (k + 1) * m + c = (f y).length + (k * m + c) := by rw [hy, Nat.succ_mul]; omega
      rw [e, splice_right, ih (fun z hz => hl z (by simp [hz])) k c x x' cs (by simpa using hx) hc hu]

theorem rw_then (y : RSt) (v : WN) (h1 : v.now.regs.length = 8) (h2 : v.was.regs.length = 8) : splice (rwardCells (rwOf y v)) 16 (stI v.now) = rwardCells (rwOf y { v with was := v.now }) := by
  have hl1 := stI_len _ h1
  have hl2 := stI_len _ h2
  unfold rwardCells rwOf
  simp only
  have e : ([.int .i64 y.q, y.vR, y.vD] ++ stI v.now).length + 0 = 16 := by simp [hl1]
  rw [← e, splice_right]
  congr 1
  unfold splice
  rw [List.take_zero, List.drop_of_length_le (by omega)]
  simp

/-- A ward's rest is kept. -/
theorem RefAt.setThen {x : RX} {N : NM} {vL : List Value} {w : World} (h : RefAt x N vL w) (hb : NLen x N) (k : Nat) (y : RSt) (v : WN) (hy : x.st[k]? = some y) (hv : N.wn[k]? = some v) :
    RefAt x (putW N k { v with was := v.now }) vL (w.setCells x.gW (k * 29 + 16) (stI v.now)) := by
  have hr := rws_at x N k y v hy hv
  have hk := (List.getElem?_eq_some_iff.1 hr).1
  have hkl := rws_len x N hb
  have h8 := hb.s8 v (List.mem_of_getElem? hv)
  have hl1 := stI_len _ h8.1
  obtain ⟨cur, hgW⟩ := h.blockW
  have hsh := h.shape hb
  have ho := owns_splice (stI v.now) w _ (k * 29 + 16) hsh.ow (by rw [hl1]; omega)
  rw [flat_splice rwardCells 29 (rwsOf x N) (fun z hz => rward_len z (h.n.rg z hz).2) k 16 (rwOf y v) (rwOf y { v with was := v.now }) _ hr (by rw [hl1]; omega) (rw_then y v h8.1 h8.2), hkl] at ho
  refine h.storeW hb k y v { v with was := v.now } hy hv rfl ⟨h8.1, h8.1⟩ ?_ ho
  intro c cs t fr hc ht
  have hcs : w.heap[x.gW]? = some (.cells cur.toList.toArray 130 (0, 0)) := by rw [hgW]
  have hlen : k * 29 + 16 + (stI v.now).length ≤ cur.toList.length := by
    rcases hsh.ow.2 with ⟨h1, _⟩ | ⟨g', cap', cur', h1, _, hg, h2, h3, h4, h5⟩
    · simp at h1
    · simp only [Value.slice.injEq, Option.some.injEq, Addr.mk.injEq] at h1
      obtain ⟨⟨rfl, _⟩, _, rfl⟩ := h1
      rw [hgW] at hg
      simp only [Option.some.injEq, Obj.cells.injEq] at hg
      obtain ⟨rfl, _⟩ := hg
      have := hsh.ow.1
      have e2 := congrArg List.length h5
      rw [List.length_take, this] at e2
      rw [hl1]
      omega
  have hf := (heap_setCells (stI v.now) (k * 29 + 16) w cur.toList hcs hlen).2
  refine hf.get hc ?_
  intro e
  rw [e, hgW] at hc
  simp only [Option.some.injEq, Obj.cells.injEq] at hc
  exact ht hc.2.1.symm
theorem RefAt.thenFr {x : RX} {N : NM} {vL : List Value} {w : World} (h : RefAt x N vL w) (o : Nat) (cs : List Value) : Fr (fun i => i = x.gW) w (w.setCells x.gW o cs) := by
  have : ∀ (cs : List Value) (w : World) (o : Nat), Fr (fun i => i = x.gW) w (w.setCells x.gW o cs) := by
    intro cs
    induction cs with
    | nil => intro w o; exact Fr.refl _ _
    | cons v r ih => intro w o; exact (Fr.one w x.gW o v).step (ih _ _) (fun i hi => .inl hi)
  exact this cs w o

def rsLoad (v : Value) : Sem Value := Instr.loadAt 128 v
theorem rsLoad_fold (v : Value) : Instr.loadAt 128 v = rsLoad v := rfl
def rsStore (p v : Value) : Sem Unit := Instr.storeAt 128 p v
theorem rsStore_fold (p v : Value) : Instr.storeAt 128 p v = rsStore p v := rfl

theorem stI_one (s : StV) : ∀ u ∈ stI s, u.oneCell' = true := by
  intro u hu
  unfold stI at hu
  rcases List.mem_append.1 hu with h | h
  · obtain ⟨z, _, rfl⟩ := List.mem_map.1 h
    rfl
  · simp only [List.mem_cons, List.not_mem_nil, or_false] at h
    rcases h with rfl | rfl | rfl | rfl | rfl <;> rfl

/-- The state is loaded, and stored. -/
theorem RefAt.copies {x : RX} {N : NM} {vL : List Value} {w : World} (h : RefAt x N vL w) (hb : NLen x N) (k : Nat) (y : RSt) (v : WN) (hy : x.st[k]? = some y) (hv : N.wn[k]? = some v) :
    (rsLoad (.pointer (some ⟨x.gW, k * 29 + 3, none⟩))).run Tryz.prog w = .ok (.agg (stI v.now).toArray) w ∧ (rsStore (.pointer (some ⟨x.gW, k * 29 + 16, none⟩)) (.agg (stI v.now).toArray)).run Tryz.prog w = .ok () (w.setCells x.gW (k * 29 + 16) (stI v.now)) := by
  have h8 := hb.s8 v (List.mem_of_getElem? hv)
  have hl1 := stI_len _ h8.1
  have hl2 := stI_len _ h8.2
  constructor
  · refine run_loadAt_mid w x.gW (k * 29 + 3) 128 (stI v.now) _ ?_ Tryz.underlying128 rfl ?_
    · intro j u hu
      have hj : j < 13 := by have := (List.getElem?_eq_some_iff.1 hu).1; omega
      rw [h.st hb k y v hy hv j hj]
      exact hu
    · rw [hl1]; kernel_rfl
  · refine run_storeAt_mid w x.gW (k * 29 + 16) 128 (stI v.now).toArray ?_ ?_ ?_
    · intro j hj
      simp only [List.size_toArray] at hj
      refine ⟨?_, h.frozenW _⟩
      rw [Nat.add_assoc, h.cell hb k y v hy hv (16 + j) (by omega)]
      unfold rwardCells rwOf
      simp only
      rw [List.getElem?_append_right (by simp [hl1]), List.getElem?_eq_getElem (by simp [hl1, hl2]; omega)]
      rfl
    · rw [List.size_toArray, hl1]; kernel_rfl
    · exact all_oneCell_toArray (stI_one _)

end Go.Proofs.YthmcheoehcmglaaGreat
