/- wardskeep.Apart: a ward is the same in both nets. -/
import Derived.Test.YthmcheoehcmglaaGreatA2
import Derived.Test.YthmcheoehcmglaaGreatK7
import Derived.Deep.Matrix
namespace Go.Proofs.YthmcheoehcmglaaGreat
open Go.RowKit
set_option linter.unusedVariables false

/-- Two machines with the same timetable and the same ward k. -/
structure ApX (x y : KX) (n k : Nat) : Prop where
  q : x.qs = y.qs
  g : x.gap = y.gap
  r : x.regs.getD k [] = y.regs.getD k []
  b : ∃ b, y.regs.getD k [] = rsK b
  sx : KXs x
  sy : KXs y
  ex : KXd x
  ey : KXd y
  lx : x.regs.length = n
  ly : y.regs.length = n
  dx : x.dn = n
  dy : y.dn = n
  vx : x.dvs.getD k [] = [(k : Int)]
  vy : y.dvs.getD k [] = [(k : Int)]
  kn : k < n

theorem iterP_congr {x y : KX} {n k : Nat} (h : ApX x y n k) (t0 : Int) (p : PW) : ∀ m, iterP x k t0 m p = iterP y k t0 m p
  | 0 => rfl
  | m + 1 => by
    simp only [iterP]
    rw [iterP_congr h t0 p m, h.r]
    have e1 : ∀ t, slotK x t = slotK y t := by intro t; unfold slotK roundK; rw [h.q, h.g]
    have e2 : turnB x k (t0 + m) = turnB y k (t0 + m) := by unfold turnB; rw [e1, h.q]
    have e3 : firstB x k (t0 + m) = firstB y k (t0 + m) := by unfold firstB; rw [e1, h.q]
    rw [e2, e3]

/-- At all times. -/
structure ApIn (x y : KX) (k : Nat) (N M : NM) (T : Nat) : Prop where
  nx : NetOk x N
  ny : NetOk y M
  cx : N.ck = T
  cy : M.ck = T
  p : privOf x k N = privOf y k M
  mx : logMax N.devs T
  my : logMax M.devs T

theorem ApIn.run {x y : KX} {n k : Nat} (hx : ApX x y n k) {N M : NM} {T : Nat} (h : ApIn x y k N M T) (m : Nat) : ApIn x y k (iterN x m N) (iterN y m M) (T + m) := by
  refine ⟨h.nx.iter m, h.ny.iter m, by rw [iterN_ck, h.cx]; omega, by rw [iterN_ck, h.cy]; omega, ?_, iterN_log x N T h.mx m, iterN_log y M T h.my m⟩
  rw [priv_iter x hx.sx hx.ex k (by rw [hx.lx]; exact hx.kn) N h.nx m, priv_iter y hx.sy hx.ey k (by rw [hx.ly]; exact hx.kn) M h.ny m, iterP_congr hx, h.p, h.cx, h.cy]

theorem latchN_net {x : KX} {N : NM} (h : NetOk x N) (i : Nat) (v : Int) : NetOk x (latchN N i v) := ⟨h.wl, by unfold latchN; simp only [List.length_set]; exact h.dl, h.c0⟩
theorem latchN_max {N : NM} {T : Nat} (h : logMax N.devs T) (i : Nat) (v : Int) : logMax (latchN N i v).devs T := by
  intro d hd
  unfold latchN at hd
  simp only at hd
  obtain ⟨j, hj⟩ := List.mem_iff_getElem?.1 hd
  rw [List.getElem?_set] at hj
  split at hj
  · split at hj
    · rename_i hij hil
      cases hj
      simp only
      exact h _ (getD_mem' _ _ _ hil)
    · cases hj
  · exact h d (List.mem_of_getElem? hj)
theorem latchN_priv {x : KX} {N : NM} {k : Nat} (hv : x.dvs.getD k [] = [(k : Int)]) (hl : k < N.devs.length) (v : Int) : privOf x k (latchN N k v) = { privOf x k N with dv := [(v, ((privOf x k N).dv.getD 0 zeroD).2)] } := by
  unfold privOf ownDv
  rw [hv]
  simp only [List.map_cons, List.map_nil, Int.toNat_natCast]
  unfold latchN
  simp only
  rw [getD_set_eq, if_pos ⟨rfl, hl⟩]
  rfl
theorem latchN_priv_other {x : KX} {N : NM} {k j : Nat} (hv : x.dvs.getD k [] = [(k : Int)]) (hj : j ≠ k) (v : Int) : privOf x k (latchN N j v) = privOf x k N := by
  unfold privOf ownDv
  rw [hv]
  simp only [List.map_cons, List.map_nil, Int.toNat_natCast]
  unfold latchN
  simp only
  rw [getD_set_eq, if_neg (by omega)]

theorem ApIn.latch {x y : KX} {n k : Nat} (hx : ApX x y n k) {N M : NM} {T : Nat} (h : ApIn x y k N M T) (v : Int) : ApIn x y k (latchN N k v) (latchN M k v) T := by
  have h1 : k < N.devs.length := by rw [h.nx.dl, hx.dx]; exact hx.kn
  have h2 : k < M.devs.length := by rw [h.ny.dl, hx.dy]; exact hx.kn
  refine ⟨latchN_net h.nx k v, latchN_net h.ny k v, h.cx, h.cy, ?_, latchN_max h.mx k v, latchN_max h.my k v⟩
  rw [latchN_priv hx.vx h1, latchN_priv hx.vy h2, h.p]
theorem ApIn.other {x y : KX} {n k : Nat} (hx : ApX x y n k) {N M : NM} {T : Nat} (h : ApIn x y k N M T) (j : Nat) (hj : j ≠ k) (v : Int) : ApIn x y k N (latchN M j v) T :=
  ⟨h.nx, latchN_net h.ny j v, h.cx, h.cy, by rw [latchN_priv_other hx.vy hj]; exact h.p, h.mx, latchN_max h.my j v⟩
/-- A ward that is alone: its latch is set anew. -/
theorem latch_twice (M : NM) (k : Nat) (hk : k < M.devs.length) (v u : Int) : latchN (latchN (latchN M k v) k u) k v = latchN M k v := by
  unfold latchN
  simp only
  rw [List.set_set, List.set_set, getD_set_eq, if_pos ⟨rfl, by rw [List.length_set]; exact hk⟩, getD_set_eq, if_pos ⟨rfl, hk⟩]

theorem Going.shape {x : KX} {N : NM} {w wr : World} (h : Going x N w wr) (k : Nat) (hk : k < x.regs.length) (b : Int) (hb : x.regs.getD k [] = rsK b) : ∃ L, (N.wn.getD k zeroWN).ws = [L] := by
  obtain ⟨s, vL, h1, h2⟩ := h.l
  have hk2 : k < N.wn.length := by have := h1.n.hi.wl; rw [List.length_map] at this; omega
  have hv : N.wn[k]? = some N.wn[k] := List.getElem?_eq_getElem hk2
  have hr : x.regs[k]? = some (rsK b) := by rw [← hb]; exact getD_some _ _ _ hk
  have hl := h1.n.hi.rl k _ N.wn[k].ws hr (by rw [List.getElem?_map, hv]; rfl)
  rw [getD_of hv]
  match hw : N.wn[k].ws, hl with
  | [L], _ => exact ⟨L, rfl⟩

theorem ApIn.alike {x y : KX} {n k : Nat} (hx : ApX x y n k) {N M : NM} {T : Nat} (h : ApIn x y k N M T) {w wr : World} (hd : Duo x y N M w wr) : Alike x y N M k := by
  obtain ⟨b, hb⟩ := hx.b
  have hkx : k < x.regs.length := by rw [hx.lx]; exact hx.kn
  have hky : k < y.regs.length := by rw [hx.ly]; exact hx.kn
  obtain ⟨L, hL⟩ := hd.two.shape k hky b hb
  have e1 : (N.wn.getD k zeroWN).now = (M.wn.getD k zeroWN).now := congrArg PW.now h.p
  have e2 : (N.wn.getD k zeroWN).ws = (M.wn.getD k zeroWN).ws := congrArg PW.ws h.p
  have e3 : ownDv x k N.devs = ownDv y k M.devs := congrArg PW.dv h.p
  unfold ownDv at e3
  rw [hx.vx, hx.vy] at e3
  simp only [List.map_cons, List.map_nil, Int.toNat_natCast, List.cons.injEq, and_true] at e3
  exact ⟨hkx, hky, by rw [hx.dx]; exact hx.kn, by rw [hx.dy]; exact hx.kn, ⟨b, by rw [hx.r, hb]⟩, ⟨b, hb⟩, e1, ⟨L, by rw [e2, hL], hL⟩, e3⟩

/-- The statements' images. -/
theorem ap_x (gap : Int) (la lb : List (Int × List Int)) (n : Nat) (n1 : 1 ≤ n) (n4 : n ≤ 4) (ha : la.length = n) (hb : lb.length = n) (hq : qsOf la = qsOf lb) (k : Nat) (hk : k < n) (x y : KX) (hx : XOf (keepImg gap la n) x) (hy : XOf (keepImg gap lb n) y) (sx : KXs x) (sy : KXs y) : ApX x y n k := by
  have rx := keep_regs gap la n x hx k hk
  have ry := keep_regs gap lb n y hy k hk
  have gx : x.gap = withinM gap 1 16 := hx.gap
  have gy : y.gap = withinM gap 1 16 := hy.gap
  exact ⟨by rw [keep_qs gap la n ha x hx, keep_qs gap lb n hb y hy, hq], by rw [gx, gy], by rw [rx, ry], ⟨_, ry⟩, sx, sy, keep_xd gap la n n1 n4 x hx, keep_xd gap lb n n1 n4 y hy, keep_len gap la n x hx, keep_len gap lb n y hy, keep_dn gap la n x hx, keep_dn gap lb n y hy, by rw [keep_dv gap la n n1 n4 x hx, if_pos hk], by rw [keep_dv gap lb n n1 n4 y hy, if_pos hk], hk⟩
theorem ap_start (gap : Int) (la lb : List (Int × List Int)) (n : Nat) (n1 : 1 ≤ n) (n4 : n ≤ 4) (k : Nat) (hk : k < n) (hw : (la.getD k (0, [])).2 = (lb.getD k (0, [])).2) (x y : KX) (hx : XOf (keepImg gap la n) x) (hy : XOf (keepImg gap lb n) y) : ApIn x y k (bootN (keepImg gap la n)) (bootN (keepImg gap lb n)) 0 := by
  refine ⟨keep_net gap la n x hx, keep_net gap lb n y hy, rfl, rfl, ?_, ?_, ?_⟩
  · rw [keep_priv gap la n n1 n4 x hx k hk, keep_priv gap lb n n1 n4 y hy k hk, hw]
  · intro d hd; simp only [bootN, List.mem_replicate] at hd; rw [hd.2]; simp
  · intro d hd; simp only [bootN, List.mem_replicate] at hd; rw [hd.2]; simp

end Go.Proofs.YthmcheoehcmglaaGreat
/- Rows: a slice of slices of integers, opened. -/
namespace Go.Proofs.YthmcheoehcmglaaGreat
open Go.ChangeShapes Go.WideShapes Go.ChangeAt Go.RowKit Go.Deep
set_option linter.unusedVariables false

/-- A slice of slices of integers that can be read. -/
def RowsV (w : World) (v : Value) (l : List (List Int)) : Prop := ∃ a c, v = .slice a l.length c ∧ l.length ≤ c ∧ c ≤ 9223372036854775807 ∧ (1 ≤ l.length → ∃ b o, a = some ⟨b, o, none⟩ ∧ ∀ i ws, l[i]? = some ws → ∃ vw, w.cell? ⟨b, o + i, none⟩ = some vw ∧ IntsAt w vw ws) ∧ ∀ ws ∈ l, ∀ z ∈ ws, I64 z

theorem rows_open {H : Type} {enc : TypeId × Value → H} {W : World} {fuel : Nat} {v : Value} {x : DataW H × List MemPlace} (h : DataW.trod enc Tryz.prog W 0 (fun _ => true) true fuel 70 [v] = some x) :
    ∃ l : List (List Int), RowsV W v l := by
  rcases open_slice1 Tryz.underlying70 (by kernel_rfl) h with ⟨h1, -⟩ | ⟨a, len, cap, m, n, V, D, Pl, h1, hb, hlc, hcm, hm, -, hel⟩
  · simp only [List.cons.injEq, and_true] at h1
    subst h1
    exact ⟨[], none, 0, rfl, by simp, by omega, by simp, by simp⟩
  · simp only [List.cons.injEq, and_true] at h1
    subst h1
    simp only [if_true] at hm
    have hcap : cap ≤ 9223372036854775807 := by unfold maxLen at hcm; omega
    have each : ∀ i, i < len → ∃ p : List Int, IntsAt W (V i) p ∧ ∀ z ∈ p, I64 z := by
      intro i hi
      obtain ⟨-, h4⟩ := hel i (by omega)
      obtain ⟨ws, hws, hwb, -⟩ := ints_open h4
      exact ⟨ws, hws, hwb⟩
    obtain ⟨f, hf⟩ := choose_lt each
    have hll : ((List.range len).map f).length = len := by simp
    refine ⟨(List.range len).map f, some a, cap, by rw [hll], by rw [hll]; exact hlc, hcap, ?_, ?_⟩
    · intro h1
      rw [hll] at h1
      have hc0 := (hel 0 (by omega)).1
      obtain ⟨b, off, spot⟩ := a
      have hspot : spot = none := by simpa [Addr.add] using World.cell?_spot hc0
      subst hspot
      refine ⟨b, off, rfl, ?_⟩
      intro k ws hk
      rw [List.getElem?_map] at hk
      simp only [Option.map_eq_some_iff] at hk
      obtain ⟨i, hi, hfi⟩ := hk
      obtain ⟨hil, hie⟩ := List.getElem?_eq_some_iff.1 hi
      simp only [List.length_range] at hil
      simp only [List.getElem_range] at hie
      subst hie
      obtain ⟨h2, -⟩ := hel k (by omega)
      have h4 := hf k hil
      rw [hfi] at h4
      rw [add_plain] at h2
      exact ⟨V k, h2, h4.1⟩
    · intro ws hm'
      simp only [List.mem_map, List.mem_range] at hm'
      obtain ⟨i, hi, hfi⟩ := hm'
      have h4 := hf i hi
      rw [hfi] at h4
      exact h4.2

end Go.Proofs.YthmcheoehcmglaaGreat
/- wardskeep.Apart: the other wards' programs; walked. -/
namespace Go.Proofs.YthmcheoehcmglaaGreat
open Go.RowKit
set_option linter.unusedVariables false
attribute [local go_sem ↓] Go.wp_at_zero Go.wp_at_succ

/-- The same ward k among others. -/
def apL (la : List (Int × List Int)) (oth : List (List Int)) (k : Nat) : List (Int × List Int) := (List.range la.length).map (fun i => ((la.getD i (0, [])).1, if i = k then (la.getD i (0, [])).2 else oth.getD i []))
theorem apL_len (la : List (Int × List Int)) (oth : List (List Int)) (k : Nat) : (apL la oth k).length = la.length := by simp [apL]
theorem apL_at (la : List (Int × List Int)) (oth : List (List Int)) (k i : Nat) (hi : i < la.length) : (apL la oth k).getD i (0, []) = ((la.getD i (0, [])).1, if i = k then (la.getD i (0, [])).2 else oth.getD i []) := by
  unfold apL
  rw [List.getD_eq_getElem?_getD, List.getElem?_map, List.getElem?_range hi]
  rfl
theorem apL_qs (la : List (Int × List Int)) (oth : List (List Int)) (k : Nat) : qsOf la = qsOf (apL la oth k) := by
  unfold qsOf
  apply List.ext_getElem
  · simp [apL]
  · intro i h1 h2
    simp only [List.length_map] at h1
    simp only [apL, List.getElem_map, List.getElem_range]
    rw [List.getD_eq_getElem?_getD, List.getElem?_eq_getElem h1]
    rfl

def rowCells (p : Int × Value) : List Value := [.int .i64 p.1, p.2]
/-- After i wards. -/
structure ApC (w0 : World) (la : List (Int × List Int)) (oth : List (List Int)) (k : Nat) (v : Value) (i : Nat) (wr : World) : Prop where
  r : ∃ rows : List (Int × Value), rows.length = i ∧ wr.ownsRow w0.heap.size 41 2 v i (rows.flatMap rowCells) ∧ ∀ j p, rows[j]? = some p → p.1 = ((apL la oth k).getD j (0, [])).1 ∧ IntsAt w0 p.2 ((apL la oth k).getD j (0, [])).2
  f : Fr (fun _ => False) w0 wr

theorem slWd : SlT Tryz.prog 42 41 2 32 := SlT.mk' (z := .agg #[.int .i64 0, .slice none 0 0]) Tryz.underlying42 (by kernel_rfl) rfl (by omega)

theorem ApC.wds {w0 : World} {la : List (Int × List Int)} {oth : List (List Int)} {k : Nat} {g c n : Nat} {wr : World} (h : ApC w0 la oth k (.slice (some ⟨g, 0, none⟩) n c) n wr) (hn : la.length = n) (hok : ∀ q ws, (q, ws) ∈ la → I64 q ∧ ∀ x ∈ ws, I64 x) (hoo : ∀ ws ∈ oth, ∀ z ∈ ws, I64 z) : WdsAt wr g 0 n c (apL la oth k) := by
  obtain ⟨rows, hl, ho, hr⟩ := h.r
  refine ⟨by rw [apL_len, hn], ?_, ?_⟩
  · intro j q ws hj
    have hjl : j < rows.length := by have := (List.getElem?_eq_some_iff.1 hj).1; rw [apL_len] at this; omega
    have h1 := hr j _ (List.getElem?_eq_getElem hjl)
    rw [getD_of' hj] at h1
    have c0 : wr.cell? ⟨g, 0 + j * 2, none⟩ = some (.int .i64 q) := by
      rw [Nat.zero_add, ho.cellAt (j * 2) (by omega)]
      have := flat_get rowCells 2 (fun _ => rfl) rows j 0 hjl (by omega)
      rw [Nat.add_zero] at this
      have e1 : rows[j].1 = q := h1.1
      rw [this]
      show some (Value.int .i64 rows[j].1) = _
      rw [e1]
    have c1 : wr.cell? ⟨g, 0 + j * 2 + 1, none⟩ = some rows[j].2 := by
      rw [Nat.zero_add, ho.cellAt (j * 2 + 1) (by omega), flat_get rowCells 2 (fun _ => rfl) rows j 1 hjl (by omega)]
      rfl
    exact ⟨c0, rows[j].2, c1, h1.2.fr h.f⟩
  · intro q ws hm
    unfold apL at hm
    simp only [List.mem_map, List.mem_range, Prod.mk.injEq] at hm
    obtain ⟨i, hi, rfl, rfl⟩ := hm
    have hmem : la.getD i (0, []) ∈ la := getD_mem' _ _ _ hi
    have h1 := hok (la.getD i (0, [])).1 (la.getD i (0, [])).2 hmem
    refine ⟨h1.1, ?_⟩
    split
    · exact h1.2
    · by_cases hio : i < oth.length
      · exact hoo _ (getD_mem' _ _ _ hio)
      · rw [List.getD_eq_getElem?_getD, List.getElem?_eq_none (by omega)]; simp

theorem ApC.step {w0 : World} {la : List (Int × List Int)} {oth : List (List Int)} {k i : Nat} {v : Value} {wr w7 : World} (h : ApC w0 la oth k v i wr) {o1 o2 : Obj} {q : Int} {vi : Value} {gg cap : Nat}
    (hq : q = ((apL la oth k).getD i (0, [])).1) (hi : IntsAt w0 vi ((apL la oth k).getD i (0, [])).2)
    (hown : ∀ rows : List (Int × Value), rows.length = i → wr.ownsRow w0.heap.size 41 2 v i (rows.flatMap rowCells) → w7.ownsRow w0.heap.size 41 2 (.slice (some ⟨gg, 0, none⟩) (i + 1) cap) (i + 1) (rows.flatMap rowCells ++ [.int .i64 q, vi]))
    (hf : Fr (fun b => v.ownBlock = some b) ((wr.alloc o1).alloc o2) w7) : ApC w0 la oth k (.slice (some ⟨gg, 0, none⟩) (i + 1) cap) (i + 1) w7 := by
  obtain ⟨rows, hl, ho, hr⟩ := h.r
  refine ⟨⟨rows ++ [(q, vi)], by simp [hl], ?_, ?_⟩, ((h.f.alloc o1).alloc o2).step hf (fun b hb => .inr (ho.lt b hb).1)⟩
  · have := hown rows hl ho
    simpa [rowCells] using this
  · intro j p hj
    by_cases hjl : j < rows.length
    · rw [List.getElem?_append_left hjl] at hj
      exact hr j p hj
    · rw [List.getElem?_append_right (by omega)] at hj
      have hj2 := (List.getElem?_eq_some_iff.1 hj).1
      simp only [List.length_cons, List.length_nil] at hj2
      have : j = i := by omega
      subst this
      rw [show j - rows.length = 0 by omega] at hj
      simp only [List.getElem?_cons_zero, Option.some.injEq] at hj
      subst hj
      exact ⟨hq, hi⟩

set_option maxRecDepth 100000 in
set_option maxHeartbeats 4000000 in
theorem apart_any (w : World) (gap who : Int) (hg : I64 gap) (hwho : I64 who) (v1 v2 v4 v5 : Value) (l : List (Int × List Int)) (oth : List (List Int)) (cy lt : List Int) (h1 : WdsV w v1 l) (h2 : RowsV w v2 oth) (h4 : IntsAt w v4 cy) (h5 : IntsAt w v5 lt) (c4 : ∀ n ∈ cy, I64 n) (c5 : ∀ n ∈ lt, I64 n) (hl : cy.length ≤ 1048576) :
    Calls Tryz.prog 10 #[.int .i64 gap, v1, v2, .int .i64 who, v4, v5] w fun e w' => e = .returned (.bool true) ∧ Fr (fun _ => False) w w' := by
  have HSO := hid (some_any w v1 l h1)
  have hb := someL_bd l
  generalize someL l = la at *
  obtain ⟨n, hn⟩ : ∃ n, la.length = n := ⟨_, rfl⟩
  rw [hn] at HSO hb
  have hp := pickM_bd who n (by omega)
  have HPK := hid (fun w1 => pick_any who n w1 hwho (by omega) (by omega))
  obtain ⟨k, hk⟩ := Int.eq_ofNat_of_zero_le hp.1
  rw [hk] at HPK hp
  have hkn : k < n := by omega
  obtain ⟨a2, cc2, rfl, h2a, h2b, h2c, h2d⟩ := h2
  obtain ⟨a4, cc4, rfl, h4a, h4b, h4c⟩ := h4
  obtain ⟨a5, cc5, rfl, h5a, h5b, h5c⟩ := h5
  have HR2 := hid h2c
  have HO2 := hid h2d
  have HR4 := hid h4c
  have HR5 := hid h5c
  have HC4 := hid c4
  have HC5 := hid c5
  have HN := hid hn
  clear h1 h2c h2d h4c h5c c4 c5 hk hn
  go_enter Tryz.func10, Tryz.ntmps10
  go_wp2_with fail
  refine HSO.out.mono ?_
  rintro e w0 ⟨g, o, c, rfl, hW0, hf0⟩
  have HW0 := hid hW0
  have HF0 := hid hf0
  clear hW0 hf0 HSO
  go_wp2_with fail
  refine (HPK.out _).mono ?_
  rintro e w1 ⟨rfl, hw1⟩
  obtain rfl := hw1.symm
  go_wp2_with fail
  go_loopw [15, 16] (fun v i wr => ∃ j : Nat, j ≤ n ∧ i = .int .i64 j ∧ ApC w0 la oth k v j wr) (fun _ i _ => n - (intOf i).toNat)
  case atStart => exact ⟨0, Nat.zero_le _, rfl, ⟨[], rfl, World.ownsRow_nil _ _ _ _, by simp⟩, Fr.refl _ _⟩
  case round =>
    obtain ⟨i, hi, rfl, hA⟩ := hrel
    by_cases hlt : i < n
    · have hlti : (i : Int) < (n : Int) := by omega
      have hla : la[i]? = some (la.getD i (0, [])) := getD_some _ _ _ (by rw [HN.out]; exact hlt)
      obtain ⟨q, ws, hqw⟩ : ∃ q ws, la.getD i (0, []) = (q, ws) := ⟨_, _, rfl⟩
      rw [hqw] at hla
      have hel := HW0.out.el i q ws hla
      obtain ⟨hcq, vw, hcv, hiv⟩ := hel
      have HIV := hid hiv
      have hvw := hiv
      obtain ⟨aw, cw, rfl, hw2, hw3, hw4⟩ := hiv
      have cq : wr.cell? ⟨g, o + i * 2, none⟩ = some (.int .i64 q) := cell_fr hcq hA.f
      have cv : wr.cell? ⟨g, o + i * 2 + 1, none⟩ = some (.slice aw ws.length cw) := cell_fr hcv hA.f
      have HA := hid hA
      obtain ⟨rows, hrl, hro, hrr⟩ := hA.r
      have HOW := hid hro
      have hat := apL_at la oth k i (by rw [HN.out]; exact hlt)
      rw [hqw] at hat
      have HAT := hid hat
      have HSTP : Hid (∀ (vi : Value) (gg cap : Nat) (o1 o2 : Obj) (w7 : World), IntsAt w0 vi (if i = k then ws else oth.getD i []) → w7.ownsRow w0.heap.size 41 2 (.slice (some ⟨gg, 0, none⟩) (i + 1) cap) (i + 1) (rows.flatMap rowCells ++ #[Value.int .i64 q, vi].toList) → Fr (fun b => u15.ownBlock = some b) ((wr.alloc o1).alloc o2) w7 → ApC w0 la oth k (.slice (some ⟨gg, 0, none⟩) (i + 1) cap) (i + 1) w7) := by
        intro vi gg cap o1 o2 w7 h1 h2 h3
        have hr2 : ApC w0 la oth k u15 i wr := HA.out
        refine ⟨⟨rows ++ [(q, vi)], by simp [hrl], by simpa [rowCells] using h2, ?_⟩, ((hr2.f.alloc o1).alloc o2).step h3 (fun b hb => .inr (HOW.out.lt b hb).1)⟩
        intro j p hj
        by_cases hjl : j < rows.length
        · rw [List.getElem?_append_left hjl] at hj
          exact hrr j p hj
        · rw [List.getElem?_append_right (by omega)] at hj
          have hj2 := (List.getElem?_eq_some_iff.1 hj).1
          simp only [List.length_cons, List.length_nil] at hj2
          have : j = i := by omega
          subst this
          rw [show j - rows.length = 0 by omega] at hj
          simp only [List.getElem?_cons_zero, Option.some.injEq] at hj
          subst hj
          rw [HAT.out]
          exact ⟨rfl, h1⟩
      have hn4 : n ≤ 4 := hb.2
      have hi1 : i + 1 ≤ 1073741824 := by omega
      have hsz : w0.heap.size ≤ wr.heap.size := hA.f.size
      clear hA hla hqw hcq hcv hvw hw4 hro hrr hat
      by_cases hik : i = k
      · subst hik
        have HS1 : Hid (IntsAt w0 (.slice aw ws.length cw) (if i = i then ws else oth.getD i [])) := by show IntsAt _ _ _; rw [if_pos rfl]; exact HIV.out
        clear HIV
        go_wp2_with (first
          | (refine wpList_app slWd (by rfl) _ _ (by rfl) w0.heap.size u15 i _ (by rfl) ((HOW.out.alloc _).alloc _) (wr.heap.size + 1) #[.int .i64 q, .slice aw ws.length cw] _ (by rfl) (heap_alloc2_new wr _ _) rfl (by simp [Value.oneCell']) hi1 (by decide) (le_alloc (le_alloc hsz _) _) ?_; intro gg cap w7 hown7 hf7 hat7; have HN7 := hid (HSTP.out _ gg cap _ _ w7 HS1.out hown7 hf7); clear hown7 hf7 hat7))
        go_roundw
        case rel => exact ⟨i + 1, by omega, by go_num, HN7.out⟩
        case measure => simp [intOf]; omega
      · have hne : ¬ (i : Int) = (k : Int) := by omega
        have hneb : ((i : Int) == (k : Int)) = false := by simpa using hne
        by_cases hio : i < oth.length
        · have hioi : (i : Int) < (oth.length : Int) := by omega
          obtain ⟨b2, o2, hawe, hrow⟩ := HR2.out (by omega)
          subst hawe
          obtain ⟨vw2, hc2, hi2⟩ := hrow i (oth.getD i []) (getD_some _ _ _ hio)
          have HI2 := hid (hi2.fr HF0.out)
          obtain ⟨aw2, cw2, rfl, _, _, _⟩ := hi2
          have c2 : wr.cell? ⟨b2, o2 + i, none⟩ = some (.slice aw2 (oth.getD i []).length cw2) := cell_fr (cell_fr hc2 HF0.out) HA.out.f
          have c2a : ∀ ob, (wr.alloc ob).cell? ⟨b2, o2 + i, none⟩ = some (.slice aw2 (oth.getD i []).length cw2) := fun ob => cell_fr c2 ((Fr.refl _ wr).alloc ob)
          have HS1 : Hid (IntsAt w0 (.slice aw2 (oth.getD i []).length cw2) (if i = k then ws else oth.getD i [])) := by show IntsAt _ _ _; rw [if_neg hik]; exact HI2.out
          generalize (oth.getD i []).length = ln2 at *
          clear HI2 HIV hrow hc2
          go_wp2_with (first
            | (refine wpList_app slWd (by rfl) _ _ (by rfl) w0.heap.size u15 i _ (by rfl) ((HOW.out.alloc _).alloc _) (wr.heap.size + 1) #[.int .i64 q, .slice aw2 ln2 cw2] _ (by rfl) (heap_alloc2_new wr _ _) rfl (by simp [Value.oneCell']) hi1 (by decide) (le_alloc (le_alloc hsz _) _) ?_; intro gg cap w7 hown7 hf7 hat7; have HN7 := hid (HSTP.out _ gg cap _ _ w7 HS1.out hown7 hf7); clear hown7 hf7 hat7))
          go_roundw
          case rel => exact ⟨i + 1, by omega, by go_num, HN7.out⟩
          case measure => simp [intOf]; omega
        · have hioi : ¬ (i : Int) < (oth.length : Int) := by omega
          have HS1 : Hid (IntsAt w0 (.slice none 0 0) (if i = k then ws else oth.getD i [])) := by
            show IntsAt _ _ _
            rw [if_neg hik, List.getD_eq_getElem?_getD, List.getElem?_eq_none (by omega)]
            exact ⟨none, 0, rfl, by simp, by omega, by simp⟩
          clear HIV
          go_wp2_with (first
            | (refine wpList_app slWd (by rfl) _ _ (by rfl) w0.heap.size u15 i _ (by rfl) ((HOW.out.alloc _).alloc _) (wr.heap.size + 1) #[.int .i64 q, .slice none 0 0] _ (by rfl) (heap_alloc2_new wr _ _) rfl (by simp [Value.oneCell']) hi1 (by decide) (le_alloc (le_alloc hsz _) _) ?_; intro gg cap w7 hown7 hf7 hat7; have HN7 := hid (HSTP.out _ gg cap _ _ w7 HS1.out hown7 hf7); clear hown7 hf7 hat7))
          go_roundw
          case rel => exact ⟨i + 1, by omega, by go_num, HN7.out⟩
          case measure => simp [intOf]; omega
    · obtain rfl : n = i := by omega
      have hlti : ¬ ((n : Int) < (n : Int)) := by omega
      have HA := hid hA
      obtain ⟨rows, hrl, hro, hrr⟩ := hA.r
      obtain ⟨g2, c2, hv15, -, -⟩ := hro.form (by omega)
      subst hv15
      have HWB := hid (hA.wds HN.out HW0.out.ok HO2.out)
      have HWA := hid (HW0.out.fr hA.f)
      have HFA := hid (HF0.out.step hA.f (fun _ h => .inl h))
      have HBA := hid (fun w3 => keepBoot w3 gap la n hb.1 hb.2)
      have HBB := hid (fun w3 => keepBoot w3 gap (apL la oth k) n hb.1 hb.2)
      have HQS := hid (apL_qs la oth k)
      have HLB : Hid ((apL la oth k).length = n) := by show _ = _; rw [apL_len, HN.out]
      have HWK : Hid ((la.getD k (0, [])).2 = ((apL la oth k).getD k (0, [])).2) := by
        show _ = _
        rw [apL_at la oth k k (by rw [HN.out]; exact hkn), if_pos rfl]
      clear hA hro hrr HA HW0
      generalize apL la oth k = lb at *
      go_wp2_with fail
      refine (image_nw wr gap hg g o n c la HWA.out hb.1 hb.2).mono ?_
      rintro e w10 ⟨rfl, hf10⟩
      have HF10 := hid (HFA.out.step hf10 (fun _ h => .inl h))
      have HWB10 := hid (HWB.out.fr hf10)
      clear hf10 HWA HWB HFA
      go_wp2_with fail
      refine (HBA.out _).mono ?_
      rintro e w11 ⟨x, vLx, rfl, hlx, hxx, hfx, hkx⟩
      have hGx : Going x (bootN (keepImg gap la n)) w10 w11 := ⟨⟨_, vLx, hlx, hkx⟩, hfx⟩
      have HGX := hid hGx
      have HXO := hid hxx
      have HXS := hid hlx.x
      have HWB11 := hid (HWB10.out.fr hfx)
      obtain ⟨X, hX⟩ : ∃ X, x.X = X := ⟨_, rfl⟩
      have HX := hid hX
      rw [hX]
      clear hlx hxx hfx hkx hGx hX HBA HWB10
      go_wp2_with fail
      refine (image_nw w11 gap hg g2 0 n c2 lb HWB11.out hb.1 hb.2).mono ?_
      rintro e w12 ⟨rfl, hf12⟩
      have HGX12 := hid (HGX.out.fr hf12)
      clear hf12 HGX HWB11
      go_wp2_with fail
      refine (HBB.out _).mono ?_
      rintro e w13 ⟨y, vLy, rfl, hly, hyy, hfy, hky⟩
      have HDU := hid (duo_boot HGX12.out hly hfy hky)
      have HAX := hid (ap_x gap la lb n hb.1 hb.2 HN.out HLB.out HQS.out k hkn x y HXO.out hyy HXS.out hly.x)
      have HAI := hid (ap_start gap la lb n hb.1 hb.2 k hkn HWK.out x y HXO.out hyy)
      obtain ⟨Y, hY⟩ : ∃ Y, y.X = Y := ⟨_, rfl⟩
      have HY := hid hY
      rw [hY]
      clear hly hyy hfy hky hY HBB HGX12 HXO HXS HWK HLB HQS
      generalize bootN (keepImg gap la n) = N0 at *
      generalize bootN (keepImg gap lb n) = M0 at *
      go_wp2_with fail
      refine (lives_any _).mono ?_
      rintro e w14 ⟨rfl, hf14⟩
      have HDU14 := hid (HDU.out.fr hf14)
      clear hf14 HDU
      go_wp2_with fail
      go_loopw [21] (fun i wr => ∃ j : Nat, j ≤ cy.length ∧ i = .int .i64 j ∧ ∃ N M T, Duo x y N M w10 wr ∧ ApIn x y k N M T ∧ T ≤ 1000 * j) (fun i _ => cy.length - (intOf i).toNat)
      case atStart => exact ⟨0, Nat.zero_le _, rfl, N0, M0, 0, HDU14.out, HAI.out, Nat.zero_le _⟩
      case round =>
        obtain ⟨j, hj, rfl, N, M, T, hD, hI, hT⟩ := hrel
        clear HDU14 HAI
        have HAL := hid (fun (N M : NM) (T : Nat) (w1 : World) (hD : Duo x y N M w10 w1) (hI : ApIn x y k N M T) => alike_any x y N M w10 w1 hD k (hI.alike HAX.out hD) X Y HX.out HY.out)
        by_cases hlt : j < cy.length
        · have hji : (j : Int) < (cy.length : Int) := by omega
          obtain ⟨cv, hcv⟩ : ∃ cv, cy[j]? = some cv := ⟨_, List.getElem?_eq_getElem hlt⟩
          obtain ⟨b4, o4, hawe, hrow⟩ := HR4.out (by omega)
          subst hawe
          have cc : wr.cell? ⟨b4, o4 + j, none⟩ = some (.int .i64 cv) := cell_fr (cell_fr (hrow j cv hcv) HF10.out) hD.f
          have HPK2 := hid (fun w1 => pick_any cv 1000 w1 (HC4.out cv (List.mem_of_getElem? hcv)) (by omega) (by omega))
          have hpb := pickM_bd cv 1000 (by omega)
          obtain ⟨m, hm⟩ := Int.eq_ofNat_of_zero_le hpb.1
          rw [hm] at HPK2 hpb
          have hm1 : m < 1000 := by omega
          have hrN : runN (m : Int) = m := by unfold runN; rw [if_neg (by omega), if_neg (by omega)]
          have HRX := hid (hD.run (m : Int) T hI.mx (by rw [hrN, Int.toNat_natCast]; omega) (by rw [hrN, Int.toNat_natCast, hI.cx]; omega) X HX.out)
          have HRY : Hid (∀ w1, Duo x y (iterN x m N) M w10 w1 → Calls Tryz.prog 21 #[.pointer (some ⟨Y, 0, none⟩), .int .i64 m] w1 fun e w' => e = .returned (.int .i64 m) ∧ Duo x y (iterN x m N) (iterN y m M) w10 w') := by
            intro w1 h1
            have := h1.symm.run (m : Int) T hI.my (by rw [hrN, Int.toNat_natCast]; omega) (by rw [hrN, Int.toNat_natCast, hI.cy]; omega) Y HY.out
            rw [hrN, Int.toNat_natCast] at this
            exact this.mono (fun e w' ⟨h1, h2⟩ => ⟨h1, h2.symm⟩)
          rw [hrN, Int.toNat_natCast] at HRX
          have HI2 := hid (hI.run HAX.out m)
          clear hI hD hrow hcv hrN hm
          go_wp2_with fail
          refine (HPK2.out _).mono ?_
          rintro e w15 ⟨rfl, hw15⟩
          obtain rfl := hw15.symm
          clear cc HPK2
          go_wp2_with fail
          refine HRX.out.mono ?_
          rintro e w16 ⟨rfl, hD16⟩
          have HD16 := hid hD16
          clear hD16 HRX
          go_wp2_with fail
          refine (HRY.out _ HD16.out).mono ?_
          rintro e w17 ⟨rfl, hD17⟩
          have HD17 := hid hD17
          clear hD17 HRY HD16
          generalize iterN x m N = N1 at *
          generalize iterN y m M = M1 at *
          go_wp2_with fail
          refine (HAL.out _ _ _ _ HD17.out HI2.out).mono ?_
          rintro e w18 ⟨rfl, hf18⟩
          have HD18 := hid (HD17.out.fr hf18)
          clear hf18 HD17
          by_cases hjl : j < lt.length
          · have hjli : (j : Int) < (lt.length : Int) := by omega
            obtain ⟨lv, hlv⟩ : ∃ lv, lt[j]? = some lv := ⟨_, List.getElem?_eq_getElem hjl⟩
            obtain ⟨b5, o5, hawe5, hrow5⟩ := HR5.out (by omega)
            subst hawe5
            have HCL : Hid (∀ w1, Fr (fun _ => False) w10 w1 → w1.cell? ⟨b5, o5 + j, none⟩ = some (.int .i64 lv)) := fun w1 h1 => cell_fr (cell_fr (hrow5 j lv hlv) HF10.out) h1
            have cl := HCL.out w18 HD18.out.f
            have hy0 : 0 ≤ lv % 4294967296 := by omega
            have hy1 : lv % 4294967296 < 4294967296 := by omega
            have HLX := hid (HD18.out.latch X HX.out k (by rw [HAX.out.dx]; exact hkn) (lv % 4294967296) hy0 hy1)
            have HLY := hid (fun (N' M' : NM) (w1 : World) (h1 : Duo x y N' M' w10 w1) => (h1.symm.latch Y HY.out k (by rw [HAX.out.dy]; exact hkn) (lv % 4294967296) hy0 hy1).mono (fun e w' (h2 : _ ∧ _) => And.intro h2.1 h2.2.symm))
            obtain ⟨kj, hkj⟩ : ∃ kj, (k + 1) % n = kj := ⟨_, rfl⟩
            have hkjn : kj < n := by rw [← hkj]; exact Nat.mod_lt _ (by omega)
            have hrem : ((k : Int) + 1).tmod (n : Int) = (kj : Int) := by rw [← hkj, Int.tmod_eq_emod_of_nonneg (by omega)]; simp
            have HLO := hid (fun (N' M' : NM) (w1 : World) (h1 : Duo x y N' M' w10 w1) => (h1.symm.latch Y HY.out kj (by rw [HAX.out.dy]; exact hkjn) (j : Int) (by omega) (by omega)).mono (fun e w' (h2 : _ ∧ _) => And.intro h2.1 h2.2.symm))
            have hn0 : ¬ (n : Int) = 0 := by omega
            have hnb : ((n : Int) == 0) = false := by simpa using hn0
            clear hrow5 hlv
            go_wp2_with fail
            refine HLX.out.mono ?_
            rintro e w19 ⟨rfl, hD19⟩
            have HD19 := hid hD19
            have cl2 := HCL.out w19 hD19.f
            clear hD19 HLX cl
            go_wp2_with fail
            refine (HLY.out _ _ _ HD19.out).mono ?_
            rintro e w20 ⟨rfl, hD20⟩
            have HD20 := hid hD20
            have cl3 := HCL.out w20 hD20.f
            clear hD20 cl2
            go_wp2_with fail
            refine (HLO.out _ _ _ HD20.out).mono ?_
            rintro e w21 ⟨rfl, hD21⟩
            have HD21 := hid hD21
            have cl4 := HCL.out w21 hD21.f
            clear hD21 cl3
            by_cases hn1 : n = 1
            · have hk0 : k = kj := by rw [← hkj, hn1]; omega
              have hn1b : ((n : Int) == 1) = true := by rw [hn1]; rfl
              have HI3 : Hid (ApIn x y k (latchN N1 k (lv % 4294967296)) (latchN (latchN (latchN M1 k (lv % 4294967296)) kj j) k (lv % 4294967296)) (T + m)) := by
                show ApIn _ _ _ _ _ _
                rw [← hk0, latch_twice M1 k (by rw [HI2.out.ny.dl, HAX.out.dy]; exact hkn)]
                exact HI2.out.latch HAX.out _
              clear hn1 hk0 hkj
              go_wp2_with fail
              refine (HLY.out _ _ _ HD21.out).mono ?_
              rintro e w22 ⟨rfl, hD22⟩
              have HD22 := hid hD22
              clear hD22 cl4
              go_wp2_with fail
              go_roundw
              case rel => exact ⟨j + 1, by omega, by go_num, _, _, T + m, HD22.out, HI3.out, by omega⟩
              case measure => simp [intOf]; omega
            · have hn1i : ¬ (n : Int) = 1 := by omega
              have hn1b : ((n : Int) == 1) = false := by simpa using hn1i
              have hkk : kj ≠ k := by
                intro e
                rw [e] at hkj
                by_cases h1 : k + 1 < n
                · rw [Nat.mod_eq_of_lt h1] at hkj; omega
                · have : k + 1 = n := by omega
                  rw [this, Nat.mod_self] at hkj
                  omega
              have HI3 := hid ((HI2.out.latch HAX.out (lv % 4294967296)).other HAX.out kj hkk j)
              clear hkk
              go_wp2_with fail
              go_roundw
              case rel => exact ⟨j + 1, by omega, by go_num, _, _, T + m, HD21.out, HI3.out, by omega⟩
              case measure => simp [intOf]; omega
          · have hjli : ¬ (j : Int) < (lt.length : Int) := by omega
            go_wp2_with fail
            go_roundw
            case rel => exact ⟨j + 1, by omega, by go_num, N1, M1, T + m, HD18.out, HI2.out, by omega⟩
            case measure => simp [intOf]; omega
        · obtain rfl : cy.length = j := by omega
          have hji : ¬ ((cy.length : Int) < (cy.length : Int)) := by omega
          have HD := hid hD
          have HI := hid hI
          clear hD hI
          go_wp2_with fail
          refine (HAL.out _ _ _ _ HD.out HI.out).mono ?_
          rintro e w15 ⟨rfl, hf15⟩
          have HFE := hid ((HF10.out.step HD.out.f (fun _ h => .inl h)).step hf15 (fun _ h => .inl h))
          clear hf15
          go_wp2_with fail
          go_ret
          exact ⟨rfl, HFE.out⟩

end Go.Proofs.YthmcheoehcmglaaGreat
