/- The reference's net in memory: Kernel, saved, Turn (ahead of the first cycle), View. -/
import Derived.Test.YthmcheoehcmglaaGreatR2
import Derived.Test.YthmcheoehcmglaaGreatW16
import Derived.Test.YthmcheoehcmglaaGreatQ2
namespace Go.Proofs.YthmcheoehcmglaaGreat
open Go.RowKit
set_option linter.unusedVariables false
attribute [local go_sem ↓] Go.wp_at_zero Go.wp_at_succ

def stI (s : StV) : List Value := s.regs.map (Value.int .i64) ++ [.int .i64 s.place, .int .i64 s.status, .int .i64 s.cause, .int .i64 s.busy, .bool s.y]
/-- A ward of the reference. -/
structure RWard where
  q : Int
  vR : Value
  vD : Value
  now : StV
  then_ : StV
  regs : List RReg
  devs : List Int
def rwardCells (y : RWard) : List Value := [.int .i64 y.q, y.vR, y.vD] ++ stI y.now ++ stI y.then_
def rwireCells (x : Int × Int × Int × Int) : List Value := [.int .i64 x.1, .int .i64 x.2.1, .int .i64 x.2.2.1, .int .i64 x.2.2.2]

/-- A net lies in block Y. -/
structure NetAt (w : World) (Y : Nat) (gap mem ck : Int) (rws : List RWard) (wi : List (Int × Int × Int × Int)) (vW vI vD : Value) (nd : Nat) : Prop where
  hy : w.heap[Y]? = some (.cells #[.int .i64 gap, .int .i64 mem, vW, vI, vD, .int .i64 ck] 122 (0, 0))
  ow : w.ownsRow 0 130 29 vW rws.length (rws.flatMap rwardCells)
  rg : ∀ y ∈ rws, RRegsAt w 0 y.vR y.regs ∧ y.now.regs.length = 8 ∧ y.then_.regs.length = 8
  dr : ∀ y ∈ rws, w.ownsRow 0 3 1 y.vD y.devs.length (y.devs.map (Value.int .i64))
  iw : w.ownsRow 0 124 4 vI wi.length (wi.flatMap rwireCells)
  dv : ∃ cs, w.ownsRow 0 157 2 vD nd cs

theorem NetAt.fr {w w' : World} {Y : Nat} {gap mem ck : Int} {rws : List RWard} {wi : List (Int × Int × Int × Int)} {vW vI vD : Value} {nd : Nat} (h : NetAt w Y gap mem ck rws wi vW vI vD nd) (hf : Fr (fun _ => False) w w') : NetAt w' Y gap mem ck rws wi vW vI vD nd :=
  ⟨hf.get h.hy id, hf.ownsF _ h.ow, fun y hy => ⟨(h.rg y hy).1.fr hf, (h.rg y hy).2⟩, fun y hy => hf.ownsF _ (h.dr y hy), hf.ownsF _ h.iw, h.dv.elim fun cs hc => ⟨cs, hf.ownsF _ hc⟩⟩

set_option maxRecDepth 100000 in
set_option maxHeartbeats 1000000 in
theorem rkernel_any (w : World) (Y : Nat) (gap mem ck : Int) (rws : List RWard) (wi : List (Int × Int × Int × Int)) (vW vI vD : Value) (nd : Nat) (h : NetAt w Y gap mem ck rws wi vW vI vD nd) (h1 : rws.length ≤ 4) (h2 : wi.length ≤ 8) :
    Calls Tryz.prog 78 #[.pointer (some ⟨Y, 0, none⟩)] w fun e w' => e = .returned (.int .i64 (16 * (1 + rws.length) + 2 * wi.length)) ∧ ∃ n, w' = w.drewN n := by
  obtain ⟨a1, q1, rfl⟩ := owns_shape h.ow
  obtain ⟨a2, q2, rfl⟩ := owns_shape h.iw
  have c2 : w.cell? ⟨Y, 2, none⟩ = some (.slice a1 rws.length q1) := row_cell h.hy 2
  have c3 : w.cell? ⟨Y, 3, none⟩ = some (.slice a2 wi.length q2) := row_cell h.hy 3
  clear h
  go_enter Tryz.func78, Tryz.ntmps78
  go_wp2_with fail
  go_quiet (fail)
  go_wp2_with fail
  go_ret
  exact ⟨rfl, _, rfl⟩

set_option maxRecDepth 100000 in
set_option maxHeartbeats 1000000 in
theorem turn_zero (w : World) (Y : Nat) (gap mem : Int) (rws : List RWard) (wi : List (Int × Int × Int × Int)) (vW vI vD : Value) (nd : Nat) (h : NetAt w Y gap mem 0 rws wi vW vI vD nd) :
    Calls Tryz.prog 107 #[.pointer (some ⟨Y, 0, none⟩)] w fun e w' => e = .returned (.int .i64 0) ∧ w' = w := by
  have c5 : w.cell? ⟨Y, 5, none⟩ = some (.int .i64 0) := row_cell h.hy 5
  clear h
  go_enter Tryz.func107, Tryz.ntmps107
  go_wp2_with fail
  go_ret
  exact ⟨rfl, rfl⟩

def savedN (s : StV) (i : Nat) : Int := (s.regs ++ [s.place, s.status, s.cause, s.busy]).getD i 0

set_option maxRecDepth 100000 in
set_option maxHeartbeats 4000000 in
theorem saved_any (w : World) (s : StV) (hs : s.regs.length = 8) (i : Nat) (hi : i < 16) :
    Calls Tryz.prog 108 #[.agg (stI s).toArray, .int .i64 i] w fun e w' => e = .returned (.int .i64 (savedN s i)) ∧ Fr (fun _ => False) w w' := by
  obtain ⟨r0, r1, r2, r3, r4, r5, r6, r7, hr⟩ := st13 _ hs
  unfold savedN stI
  rw [hr]
  clear hr hs
  have h16 : i = 0 ∨ i = 1 ∨ i = 2 ∨ i = 3 ∨ i = 4 ∨ i = 5 ∨ i = 6 ∨ i = 7 ∨ i = 8 ∨ i = 9 ∨ i = 10 ∨ i = 11 ∨ i = 12 ∨ i = 13 ∨ i = 14 ∨ i = 15 := by omega
  clear hi
  rcases h16 with rfl | rfl | rfl | rfl | rfl | rfl | rfl | rfl | rfl | rfl | rfl | rfl | rfl | rfl | rfl | rfl
  all_goals
    go_enter Tryz.func108, Tryz.ntmps108
    go_wp2_with fail
    go_ret
    exact ⟨rfl, (Fr.refl _ _).alloc _⟩

end Go.Proofs.YthmcheoehcmglaaGreat
/- The reference's View. -/
namespace Go.Proofs.YthmcheoehcmglaaGreat
open Go.RowKit
set_option linter.unusedVariables false
attribute [local go_sem ↓] Go.wp_at_zero Go.wp_at_succ

def noSt' : StV := ⟨[0, 0, 0, 0, 0, 0, 0, 0], 0, 0, 0, 0, false⟩

theorem flat_getM {α : Type} (f : α → List Value) (m : Nat) : ∀ (xs : List α), (∀ x ∈ xs, (f x).length = m) → ∀ (k c : Nat) (hk : k < xs.length), c < m → (xs.flatMap f)[k * m + c]? = (f xs[k])[c]? := by
  intro xs
  induction xs with
  | nil => intro _ k c hk; simp at hk
  | cons x xs ih =>
    intro h8 k c hk hc
    have hx : (f x).length = m := h8 x (by simp)
    cases k with
    | zero =>
      simp only [List.flatMap_cons, Nat.zero_mul, Nat.zero_add, List.getElem_cons_zero]
      rw [List.getElem?_append_left (by rw [hx]; exact hc)]
    | succ k =>
      simp only [List.flatMap_cons, List.getElem_cons_succ]
      rw [List.getElem?_append_right (by rw [hx, Nat.succ_mul]; omega), hx, ← ih (fun y hy => h8 y (by simp [hy])) k c (by simpa using hk) hc]
      congr 1
      rw [Nat.succ_mul]
      omega

theorem rward_len (y : RWard) (h : y.now.regs.length = 8 ∧ y.then_.regs.length = 8) : (rwardCells y).length = 29 := by simp [rwardCells, stI, h.1, h.2]

/-- The cells of a ward's state in the net. -/
theorem NetAt.now {w : World} {Y : Nat} {gap mem ck : Int} {rws : List RWard} {wi : List (Int × Int × Int × Int)} {g c : Nat} {vI vD : Value} {nd : Nat} (h : NetAt w Y gap mem ck rws wi (.slice (some ⟨g, 0, none⟩) rws.length c) vI vD nd) (k : Nat) (hk : k < rws.length) (j : Nat) (hj : j < 29) :
    w.cell? ⟨g, k * 29 + j, none⟩ = (rwardCells rws[k])[j]? := by
  rw [h.ow.cellAt (k * 29 + j) (by omega), flat_getM rwardCells 29 rws (fun y hy => rward_len y (h.rg y hy).2) k j hk hj]

set_option maxRecDepth 100000 in
set_option maxHeartbeats 2000000 in
theorem rview_no (w : World) (Y : Nat) (gap mem ck : Int) (rws : List RWard) (wi : List (Int × Int × Int × Int)) (vW vI vD : Value) (nd : Nat) (h : NetAt w Y gap mem ck rws wi vW vI vD nd) (k : Int) (hk : hasB rws.length k = false) :
    Calls Tryz.prog 83 #[.pointer (some ⟨Y, 0, none⟩), .int .i64 k] w fun e w' => e = .returned (.tuple #[.agg (stI noSt').toArray, .int .i64 4]) ∧ Fr (fun _ => False) w w' := by
  obtain ⟨a1, q1, rfl⟩ := owns_shape h.ow
  have c2 : w.cell? ⟨Y, 2, none⟩ = some (.slice a1 rws.length q1) := row_cell h.hy 2
  have hY := lt_of_get h.hy
  have hYn : Y ≠ w.heap.size := by omega
  clear h
  by_cases h0 : k < 0
  · clear hk
    go_enter Tryz.func83, Tryz.ntmps83
    go_wp2_with fail
    refine bodyPost_ret (v := .tuple #[.agg (stI noSt').toArray, .int .i64 4]) ?_ rfl ⟨rfl, (Fr.refl _ w).alloc _⟩
    simp [results, Tryz.results83, go_sem, stI, noSt']
  · have h1 : (rws.length : Int) ≤ k := by simp [hasB] at hk; omega
    clear hk
    go_enter Tryz.func83, Tryz.ntmps83
    go_wp2_with fail
    refine bodyPost_ret (v := .tuple #[.agg (stI noSt').toArray, .int .i64 4]) ?_ rfl ⟨rfl, (Fr.refl _ w).alloc _⟩
    simp [results, Tryz.results83, go_sem, stI, noSt']

set_option maxRecDepth 100000 in
set_option maxHeartbeats 4000000 in
theorem rview_yes (w : World) (Y : Nat) (gap mem ck : Int) (rws : List RWard) (wi : List (Int × Int × Int × Int)) (vW vI vD : Value) (nd : Nat) (h : NetAt w Y gap mem ck rws wi vW vI vD nd) (k : Nat) (hk : k < rws.length) :
    Calls Tryz.prog 83 #[.pointer (some ⟨Y, 0, none⟩), .int .i64 k] w fun e w' => e = .returned (.tuple #[.agg (stI rws[k].now).toArray, .int .i64 0]) ∧ Fr (fun _ => False) w w' := by
  obtain ⟨g, c, rfl, -, hg⟩ := h.ow.form (by omega)
  have c2 : w.cell? ⟨Y, 2, none⟩ = some (.slice (some ⟨g, 0, none⟩) rws.length c) := row_cell h.hy 2
  have hY := lt_of_get h.hy
  have hn8 := (h.rg rws[k] (List.getElem_mem hk)).2.1
  obtain ⟨r0, r1, r2, r3, r4, r5, r6, r7, hr⟩ := st13 _ hn8
  have hnow := fun j => h.now k hk (3 + j)
  generalize rws[k] = y at *
  have hc : rwardCells y = [.int .i64 y.q, y.vR, y.vD] ++ ([.int .i64 r0, .int .i64 r1, .int .i64 r2, .int .i64 r3, .int .i64 r4, .int .i64 r5, .int .i64 r6, .int .i64 r7, .int .i64 y.now.place, .int .i64 y.now.status, .int .i64 y.now.cause, .int .i64 y.now.busy, .bool y.now.y] ++ stI y.then_) := by simp [rwardCells, stI, hr]
  rw [hc] at hnow
  have k0 := hnow 0 (by omega)
  have k1 := hnow 1 (by omega)
  have k2 := hnow 2 (by omega)
  have k3 := hnow 3 (by omega)
  have k4 := hnow 4 (by omega)
  have k5 := hnow 5 (by omega)
  have k6 := hnow 6 (by omega)
  have k7 := hnow 7 (by omega)
  have k8 := hnow 8 (by omega)
  have k9 := hnow 9 (by omega)
  have k10 := hnow 10 (by omega)
  have k11 := hnow 11 (by omega)
  have k12 := hnow 12 (by omega)
  simp only [List.cons_append, List.nil_append, Nat.reduceAdd, List.getElem?_cons_succ, List.getElem?_cons_zero] at k0 k1 k2 k3 k4 k5 k6 k7 k8 k9 k10 k11 k12
  have HSC : Hid (stI y.now = [.int .i64 r0, .int .i64 r1, .int .i64 r2, .int .i64 r3, .int .i64 r4, .int .i64 r5, .int .i64 r6, .int .i64 r7, .int .i64 y.now.place, .int .i64 y.now.status, .int .i64 y.now.cause, .int .i64 y.now.busy, .bool y.now.y]) := by simp [Hid, stI, hr]
  have hki : (k : Int) < (rws.length : Int) := by omega
  have hki2 : ¬ (rws.length : Int) ≤ (k : Int) := by omega
  clear h hnow hc hr hn8
  go_enter Tryz.func83, Tryz.ntmps83
  go_wp2_with fail
  refine bodyPost_ret (v := .tuple #[.agg #[.int .i64 r0, .int .i64 r1, .int .i64 r2, .int .i64 r3, .int .i64 r4, .int .i64 r5, .int .i64 r6, .int .i64 r7, .int .i64 y.now.place, .int .i64 y.now.status, .int .i64 y.now.cause, .int .i64 y.now.busy, .bool y.now.y], .int .i64 0]) ?_ rfl ⟨by rw [HSC.out], (Fr.refl _ w).alloc _⟩
  simp [results, Tryz.results83, go_sem]

end Go.Proofs.YthmcheoehcmglaaGreat
/- The reference's Word. -/
namespace Go.Proofs.YthmcheoehcmglaaGreat
open Go.RowKit
set_option linter.unusedVariables false
attribute [local go_sem ↓] Go.wp_at_zero Go.wp_at_succ

def inReg (a : Int) (r : RReg) : Bool := decide (r.r.2.2.1 ≤ a) && decide (a < r.r.2.2.1 + r.r.2.1)
def regWord (a : Int) (r : RReg) : Int := r.ws.getD (a - r.r.2.2.1).toNat 0
def findW (L : List RReg) (a : Int) : Int := ((L.find? (inReg a)).map (regWord a)).getD 0
def rwordV (tv ck : Int) (rws : List RWard) (wi : List (Int × Int × Int × Int)) (a : Nat) : Int :=
  if a = 0 then tv else if a = 1 then ck % 4294967296 else if a < 16 then 0
  else if a < 16 * (1 + rws.length) then savedN ((rws[a / 16 - 1]?.map (·.then_)).getD noSt') (a % 16)
  else if a < 16 * (1 + rws.length) + 2 * wi.length then (let x := wi.getD ((a - 16 * (1 + rws.length)) / 2) (0, 0, 0, 0); if (a - 16 * (1 + rws.length)) % 2 = 0 then x.2.2.1 else x.2.2.2)
  else findW (rws.flatMap (·.regs)) a

structure RegsOk (rws : List RWard) (nw : Nat) : Prop where
  l : rws.length ≤ 4
  li : nw ≤ 8
  r : ∀ y ∈ rws, ∀ r ∈ y.regs, 0 ≤ r.r.1 ∧ r.r.1 ≤ 65535 ∧ 0 ≤ r.r.2.1 ∧ r.r.2.1 ≤ 65535 ∧ 0 ≤ r.r.2.2.1 ∧ r.r.2.2.1 ≤ 65535 ∧ (r.ws.length : Int) = r.r.2.1
  c : ∀ y ∈ rws, y.regs.length ≤ 3

set_option maxRecDepth 100000 in
set_option maxHeartbeats 2000000 in
theorem rword_no (w : World) (Y : Nat) (gap mem ck : Int) (rws : List RWard) (wi : List (Int × Int × Int × Int)) (vW vI vD : Value) (nd : Nat) (h : NetAt w Y gap mem ck rws wi vW vI vD nd) (a : Int) (ha : ¬ (0 ≤ a ∧ a < mem)) :
    Calls Tryz.prog 82 #[.pointer (some ⟨Y, 0, none⟩), .int .i64 a] w fun e w' => e = .returned (.tuple #[.int .i64 0, .int .i64 6]) ∧ Fr (fun _ => False) w w' := by
  have c1 : w.cell? ⟨Y, 1, none⟩ = some (.int .i64 mem) := row_cell h.hy 1
  clear h
  by_cases h0 : a < 0
  · clear ha
    go_enter Tryz.func82, Tryz.ntmps82
    go_wp2_with fail
    go_ret2
    exact ⟨rfl, Fr.refl _ _⟩
  · have h1 : mem ≤ a := by omega
    clear ha
    go_enter Tryz.func82, Tryz.ntmps82
    go_wp2_with fail
    go_ret2
    exact ⟨rfl, Fr.refl _ _⟩

set_option maxRecDepth 100000 in
set_option maxHeartbeats 2000000 in
theorem rword_low (w : World) (Y : Nat) (gap mem ck tv : Int) (rws : List RWard) (wi : List (Int × Int × Int × Int)) (vW vI vD : Value) (nd : Nat) (h : NetAt w Y gap mem ck rws wi vW vI vD nd) (hk0 : 0 ≤ ck) (hl : rws.length ≤ 4)
    (hT : Calls Tryz.prog 107 #[.pointer (some ⟨Y, 0, none⟩)] w fun e w' => e = .returned (.int .i64 tv) ∧ w' = w) (a : Nat) (ha : (a : Int) < mem) (h16 : a < 16) :
    Calls Tryz.prog 82 #[.pointer (some ⟨Y, 0, none⟩), .int .i64 a] w fun e w' => e = .returned (.tuple #[.int .i64 (rwordV tv ck rws wi a), .int .i64 0]) ∧ Fr (fun _ => False) w w' := by
  have c1 : w.cell? ⟨Y, 1, none⟩ = some (.int .i64 mem) := row_cell h.hy 1
  have c5 : w.cell? ⟨Y, 5, none⟩ = some (.int .i64 ck) := row_cell h.hy 5
  obtain ⟨a1, q1, rfl⟩ := owns_shape h.ow
  have c2 : w.cell? ⟨Y, 2, none⟩ = some (.slice a1 rws.length q1) := row_cell h.hy 2
  have HT := hid hT
  have hm : ¬ mem ≤ (a : Int) := by omega
  clear h hT
  by_cases ha0 : a = 0
  · subst ha0
    go_enter Tryz.func82, Tryz.ntmps82
    go_wp2_with fail
    refine HT.out.mono ?_
    rintro e w1 ⟨rfl, rfl⟩
    go_wp2_with fail
    go_ret2
    exact ⟨by simp [rwordV], Fr.refl _ _⟩
  · by_cases ha1 : a = 1
    · subst ha1
      have hmod : Int.tmod ck 4294967296 = ck % 4294967296 := Int.tmod_eq_emod_of_nonneg hk0
      go_enter Tryz.func82, Tryz.ntmps82
      go_wp2_with fail
      go_ret2
      exact ⟨by simp [rwordV], Fr.refl _ _⟩
    · have e0 : ¬ (a : Int) = 0 := by omega
      have e1 : ¬ (a : Int) = 1 := by omega
      have e2 : (a : Int) < 16 := by omega
      have HV : Hid (rwordV tv ck rws wi a = 0) := by unfold Hid rwordV; rw [if_neg ha0, if_neg ha1, if_pos h16]
      clear ha0 ha1
      go_enter Tryz.func82, Tryz.ntmps82
      go_wp2_with fail
      go_ret2
      exact ⟨by rw [HV.out]; rfl, Fr.refl _ _⟩

end Go.Proofs.YthmcheoehcmglaaGreat
/- The reference's Word: the save areas, the cells, the regions. -/
namespace Go.Proofs.YthmcheoehcmglaaGreat
open Go.RowKit
set_option linter.unusedVariables false
attribute [local go_sem ↓] Go.wp_at_zero Go.wp_at_succ

theorem rwordV_area (tv ck : Int) (rws : List RWard) (wi : List (Int × Int × Int × Int)) (k i : Nat) (hk : k < rws.length) (hi : i < 16) : rwordV tv ck rws wi (16 * (k + 1) + i) = savedN rws[k].then_ i := by
  unfold rwordV
  rw [if_neg (by omega), if_neg (by omega), if_neg (by omega), if_pos (by omega), show (16 * (k + 1) + i) / 16 - 1 = k by omega, show (16 * (k + 1) + i) % 16 = i by omega, List.getElem?_eq_getElem hk]
  rfl

set_option maxRecDepth 100000 in
set_option maxHeartbeats 4000000 in
theorem rword_area (w : World) (Y : Nat) (gap mem ck tv : Int) (rws : List RWard) (wi : List (Int × Int × Int × Int)) (vW vI vD : Value) (nd : Nat) (h : NetAt w Y gap mem ck rws wi vW vI vD nd) (hl : rws.length ≤ 4)
    (k i : Nat) (hk : k < rws.length) (hi : i < 16) (a : Int) (ea : a = 16 * ((k : Int) + 1) + i) (ha : a < mem) :
    Calls Tryz.prog 82 #[.pointer (some ⟨Y, 0, none⟩), .int .i64 a] w fun e w' => e = .returned (.tuple #[.int .i64 (savedN rws[k].then_ i), .int .i64 0]) ∧ Fr (fun _ => False) w w' := by
  have c1 : w.cell? ⟨Y, 1, none⟩ = some (.int .i64 mem) := row_cell h.hy 1
  obtain ⟨g, c, rfl, -, hg⟩ := h.ow.form (by omega)
  have c2 : w.cell? ⟨Y, 2, none⟩ = some (.slice (some ⟨g, 0, none⟩) rws.length c) := row_cell h.hy 2
  have hn8 := (h.rg rws[k] (List.getElem_mem hk)).2.2
  have hn9 := (h.rg rws[k] (List.getElem_mem hk)).2.1
  obtain ⟨r0, r1, r2, r3, r4, r5, r6, r7, hr⟩ := st13 _ hn8
  have hthen := fun j => h.now k hk (16 + j)
  generalize rws[k] = y at *
  have hc : ∀ j, j < 13 → (rwardCells y)[16 + j]? = [Value.int .i64 r0, .int .i64 r1, .int .i64 r2, .int .i64 r3, .int .i64 r4, .int .i64 r5, .int .i64 r6, .int .i64 r7, .int .i64 y.then_.place, .int .i64 y.then_.status, .int .i64 y.then_.cause, .int .i64 y.then_.busy, .bool y.then_.y][j]? := by
    intro j hj
    have hnl : ([Value.int .i64 y.q, y.vR, y.vD] ++ stI y.now).length = 16 := by simp [stI, hn9]
    unfold rwardCells
    rw [List.getElem?_append_right (by omega), hnl, Nat.add_sub_cancel_left]
    simp [stI, hr]
  have k0 := (hthen 0 (by omega)).trans (hc 0 (by omega))
  have k1 := (hthen 1 (by omega)).trans (hc 1 (by omega))
  have k2 := (hthen 2 (by omega)).trans (hc 2 (by omega))
  have k3 := (hthen 3 (by omega)).trans (hc 3 (by omega))
  have k4 := (hthen 4 (by omega)).trans (hc 4 (by omega))
  have k5 := (hthen 5 (by omega)).trans (hc 5 (by omega))
  have k6 := (hthen 6 (by omega)).trans (hc 6 (by omega))
  have k7 := (hthen 7 (by omega)).trans (hc 7 (by omega))
  have k8 := (hthen 8 (by omega)).trans (hc 8 (by omega))
  have k9 := (hthen 9 (by omega)).trans (hc 9 (by omega))
  have k10 := (hthen 10 (by omega)).trans (hc 10 (by omega))
  have k11 := (hthen 11 (by omega)).trans (hc 11 (by omega))
  have k12 := (hthen 12 (by omega)).trans (hc 12 (by omega))
  simp only [Nat.reduceAdd, List.getElem?_cons_succ, List.getElem?_cons_zero] at k0 k1 k2 k3 k4 k5 k6 k7 k8 k9 k10 k11 k12
  have HS : Hid (savedN y.then_ i = savedN ⟨[r0, r1, r2, r3, r4, r5, r6, r7], y.then_.place, y.then_.status, y.then_.cause, y.then_.busy, y.then_.y⟩ i) := by simp [Hid, savedN, hr]
  have hdiv : a.tdiv 16 = (k : Int) + 1 := by rw [Int.tdiv_eq_ediv_of_nonneg (by omega)]; omega
  have hmod : a.tmod 16 = (i : Int) := by rw [Int.tmod_eq_emod_of_nonneg (by omega)]; omega
  have hsub : (k : Int) + 1 - 1 = k := by omega
  have hki : (k : Int) < (rws.length : Int) := by omega
  have e0 : 0 ≤ a := by omega
  have e1 : ¬ a = 0 := by omega
  have e2 : ¬ a = 1 := by omega
  have e3 : ¬ a < 16 := by omega
  have e4 : a < 16 * (1 + (rws.length : Int)) := by omega
  have e5 : ¬ mem ≤ a := by omega
  clear h hthen hc hr hn8 hn9 ea
  go_enter Tryz.func82, Tryz.ntmps82
  go_wp2_with fail
  refine (saved_any w ⟨[r0, r1, r2, r3, r4, r5, r6, r7], y.then_.place, y.then_.status, y.then_.cause, y.then_.busy, y.then_.y⟩ rfl i hi).mono ?_
  rintro e w1 ⟨rfl, hf⟩
  have HF := hid hf
  clear hf
  rw [← HS.out]
  go_wp2_with fail
  go_ret2
  exact ⟨rfl, HF.out⟩

set_option maxRecDepth 100000 in
set_option maxHeartbeats 4000000 in
theorem rword_cell (w : World) (Y : Nat) (gap mem ck tv : Int) (rws : List RWard) (wi : List (Int × Int × Int × Int)) (vW vI vD : Value) (nd : Nat) (h : NetAt w Y gap mem ck rws wi vW vI vD nd) (hl : rws.length ≤ 4) (hli : wi.length ≤ 8)
    (k i : Nat) (hk : k < wi.length) (hi : i < 2) (a : Int) (ea : a = 16 * (1 + (rws.length : Int)) + (2 * k + i)) (ha : a < mem) (x : Int × Int × Int × Int) (hx : wi[k]? = some x) :
    Calls Tryz.prog 82 #[.pointer (some ⟨Y, 0, none⟩), .int .i64 a] w fun e w' => e = .returned (.tuple #[.int .i64 (if i = 0 then x.2.2.1 else x.2.2.2), .int .i64 0]) ∧ Fr (fun _ => False) w w' := by
  have HH := hid h
  have c1 : w.cell? ⟨Y, 1, none⟩ = some (.int .i64 mem) := row_cell h.hy 1
  obtain ⟨a1, q1, rfl⟩ := owns_shape h.ow
  have c2 : w.cell? ⟨Y, 2, none⟩ = some (.slice a1 rws.length q1) := row_cell h.hy 2
  obtain ⟨g, c, rfl, -, hg⟩ := h.iw.form (by omega)
  have c3 : w.cell? ⟨Y, 3, none⟩ = some (.slice (some ⟨g, 0, none⟩) wi.length c) := row_cell h.hy 3
  have hcell : ∀ j, j < 4 → w.cell? ⟨g, k * 4 + j, none⟩ = (rwireCells x)[j]? := by
    intro j hj
    have : wi[k] = x := by rw [List.getElem?_eq_getElem hk] at hx; exact Option.some.inj hx
    rw [h.iw.cellAt (k * 4 + j) (by omega), flat_get rwireCells 4 (fun _ => rfl) wi k j hk hj, this]
  have d0 : w.cell? ⟨g, k * 4, none⟩ = some (.int .i64 x.1) := hcell 0 (by omega)
  have d1 : w.cell? ⟨g, k * 4 + 1, none⟩ = some (.int .i64 x.2.1) := hcell 1 (by omega)
  have d2 : w.cell? ⟨g, k * 4 + 2, none⟩ = some (.int .i64 x.2.2.1) := hcell 2 (by omega)
  have d3 : w.cell? ⟨g, k * 4 + 3, none⟩ = some (.int .i64 x.2.2.2) := hcell 3 (by omega)
  have hsub : a - 16 * (1 + (rws.length : Int)) = ((2 * k + i : Nat) : Int) := by omega
  have hdiv : ((2 * k + i : Nat) : Int).tdiv 2 = (k : Int) := by rw [Int.tdiv_eq_ediv_of_nonneg (by omega)]; omega
  have hmod : ((2 * k + i : Nat) : Int).tmod 2 = (i : Int) := by rw [Int.tmod_eq_emod_of_nonneg (by omega)]; omega
  have hki : (k : Int) < (wi.length : Int) := by omega
  have e0 : 0 ≤ a := by omega
  have e1 : ¬ a = 0 := by omega
  have e2 : ¬ a = 1 := by omega
  have e3 : ¬ a < 16 := by omega
  have e4 : ¬ a < 16 * (1 + (rws.length : Int)) := by omega
  have e5 : ¬ mem ≤ a := by omega
  have e6 : a < 16 * (1 + (rws.length : Int)) + 2 * (wi.length : Int) := by omega
  clear h hcell ea hx
  generalize 2 * k + i = z at *
  go_enter Tryz.func82, Tryz.ntmps82
  go_wp2_with fail
  refine (rkernel_any w Y _ _ _ _ _ _ _ _ _ HH.out hl hli).mono ?_
  rintro e w1 ⟨rfl, n, hn⟩
  clear HH
  have HF : Hid (Fr (fun _ => False) w w1) := by rw [hn]; exact (Fr.refl _ w).drewN n
  have c3' : w1.cell? ⟨Y, 3, none⟩ = some (.slice (some ⟨g, 0, none⟩) wi.length c) := by rw [hn]; exact c3
  have d0' : w1.cell? ⟨g, k * 4, none⟩ = some (.int .i64 x.1) := by rw [hn]; exact d0
  have d1' : w1.cell? ⟨g, k * 4 + 1, none⟩ = some (.int .i64 x.2.1) := by rw [hn]; exact d1
  have d2' : w1.cell? ⟨g, k * 4 + 2, none⟩ = some (.int .i64 x.2.2.1) := by rw [hn]; exact d2
  have d3' : w1.cell? ⟨g, k * 4 + 3, none⟩ = some (.int .i64 x.2.2.2) := by rw [hn]; exact d3
  clear hn c1 c2 c3 d0 d1 d2 d3
  have hi2 : i = 0 ∨ i = 1 := by omega
  rcases hi2 with rfl | rfl
  · go_wp2_with fail
    go_ret2
    exact ⟨rfl, HF.out.alloc _⟩
  · go_wp2_with fail
    go_ret2
    exact ⟨rfl, HF.out.alloc _⟩

end Go.Proofs.YthmcheoehcmglaaGreat
/- The reference's Word: the words of the regions; Word as a whole. -/
namespace Go.Proofs.YthmcheoehcmglaaGreat
open Go.RowKit
set_option linter.unusedVariables false
attribute [local go_sem ↓] Go.wp_at_zero Go.wp_at_succ

theorem findW_skip (A B : List RReg) (a : Int) (h : ∀ r ∈ A, inReg a r = false) : findW (A ++ B) a = findW B a := by
  unfold findW
  rw [List.find?_append]
  have : A.find? (inReg a) = none := by simpa [List.find?_eq_none] using h
  rw [this]
  simp
theorem findW_hit (r : RReg) (B : List RReg) (a : Int) (h : inReg a r = true) : findW (r :: B) a = regWord a r := by
  unfold findW
  rw [List.find?_cons_of_pos h]
  rfl
theorem flat_take {α β : Type} (f : α → List β) (xs : List α) (k : Nat) (x : α) (hx : xs[k]? = some x) : xs.flatMap f = (xs.take k).flatMap f ++ (f x ++ (xs.drop (k + 1)).flatMap f) := by
  have hk : k < xs.length := (List.getElem?_eq_some_iff.1 hx).1
  have e : xs[k] = x := (List.getElem?_eq_some_iff.1 hx).2
  conv => lhs; rw [← List.take_append_drop k xs, List.drop_eq_getElem_cons hk, e]
  simp
theorem take_snoc_mem {α : Type} {P : α → Prop} (xs : List α) (k : Nat) (x : α) (hx : xs[k]? = some x) (h : ∀ y ∈ xs.take k, P y) (hp : P x) : ∀ y ∈ xs.take (k + 1), P y := by
  have hk : k < xs.length := (List.getElem?_eq_some_iff.1 hx).1
  have e : xs[k] = x := (List.getElem?_eq_some_iff.1 hx).2
  intro y hy
  rw [List.take_succ_eq_append_getElem hk, e] at hy
  rcases List.mem_append.1 hy with hy | hy
  · exact h y hy
  · rw [List.mem_singleton.1 hy]; exact hp

theorem ward_regs (w : World) (Y : Nat) (gap mem ck : Int) (rws : List RWard) (wi : List (Int × Int × Int × Int)) (g c : Nat) (vI vD : Value) (nd : Nat) (h : NetAt w Y gap mem ck rws wi (.slice (some ⟨g, 0, none⟩) rws.length c) vI vD nd) (k : Nat) (y : RWard) (hy : rws[k]? = some y) :
    w.cell? ⟨g, k * 29 + 1, none⟩ = some y.vR ∧ w.cell? ⟨g, k * 29 + 2, none⟩ = some y.vD := by
  have hk : k < rws.length := (List.getElem?_eq_some_iff.1 hy).1
  have e : rws[k] = y := (List.getElem?_eq_some_iff.1 hy).2
  exact ⟨by rw [h.now k hk 1 (by omega), e]; rfl, by rw [h.now k hk 2 (by omega), e]; rfl⟩

set_option maxRecDepth 100000 in
set_option maxHeartbeats 4000000 in
theorem rword_reg (w : World) (Y : Nat) (gap mem ck tv : Int) (rws : List RWard) (wi : List (Int × Int × Int × Int)) (vW vI vD : Value) (nd : Nat) (h : NetAt w Y gap mem ck rws wi vW vI vD nd) (hr : RegsOk rws wi.length) (hm : mem ≤ 100000)
    (a : Int) (ha : a < mem) (h0 : 16 * (1 + (rws.length : Int)) + 2 * wi.length ≤ a) :
    Calls Tryz.prog 82 #[.pointer (some ⟨Y, 0, none⟩), .int .i64 a] w fun e w' => e = .returned (.tuple #[.int .i64 (findW (rws.flatMap (·.regs)) a), .int .i64 0]) ∧ Fr (fun _ => False) w w' := by
  have HH := hid h
  have HR := hid hr
  have c1 : w.cell? ⟨Y, 1, none⟩ = some (.int .i64 mem) := row_cell h.hy 1
  obtain ⟨a1, q1, rfl⟩ := owns_shape h.ow
  have c2 : w.cell? ⟨Y, 2, none⟩ = some (.slice a1 rws.length q1) := row_cell h.hy 2
  have hrl := hr.l
  have hrli := hr.li
  have e0 : 0 ≤ a := by omega
  have e1 : ¬ a = 0 := by omega
  have e2 : ¬ a = 1 := by omega
  have e3 : ¬ a < 16 := by omega
  have e4 : ¬ a < 16 * (1 + (rws.length : Int)) := by omega
  have e5 : ¬ mem ≤ a := by omega
  have e6 : ¬ a < 16 * (1 + (rws.length : Int)) + 2 * (wi.length : Int) := by omega
  clear h hr
  go_enter Tryz.func82, Tryz.ntmps82
  go_wp2_with fail
  refine (rkernel_any w Y _ _ _ _ _ _ _ _ _ HH.out HR.out.l HR.out.li).mono ?_
  rintro e w1 ⟨rfl, n, hn⟩
  have HF : Hid (Fr (fun _ => False) w w1) := by rw [hn]; exact (Fr.refl _ w).drewN n
  clear hn c1 c2
  go_wp2_with fail
  clear e1 e2 e3 e4 e5 e6
  go_loopw [8] (fun i wr => ∃ k : Nat, k ≤ rws.length ∧ i = .int .i64 k ∧ (∀ y ∈ rws.take k, ∀ r ∈ y.regs, inReg a r = false) ∧ Fr (fun _ => False) w wr) (fun i _ => rws.length - (intOf i).toNat)
  case atStart => exact ⟨0, Nat.zero_le _, rfl, by simp, HF.out⟩
  case round =>
    obtain ⟨k, hk, rfl, hno, hF⟩ := hrel
    have hP := HH.out.fr hF
    have c2 : wr.cell? ⟨Y, 2, none⟩ = some (.slice a1 rws.length q1) := row_cell hP.hy 2
    have HNO := hid hno
    have HFr := hid hF
    clear hno hF
    by_cases hlt : k < rws.length
    · obtain ⟨y, hy⟩ : ∃ y, rws[k]? = some y := ⟨_, List.getElem?_eq_getElem hlt⟩
      have hym := List.mem_of_getElem? hy
      obtain ⟨gv, cp, hv, -, hgl⟩ := hP.ow.form (by omega)
      simp only [Value.slice.injEq] at hv
      obtain ⟨rfl, -, rfl⟩ := hv
      have hvr := (ward_regs _ _ _ _ _ _ _ _ _ _ _ _ hP k y hy).1
      obtain ⟨a3, q3, ea⟩ := owns_shape (hP.rg y hym).1.own
      rw [ea] at hvr
      have HY := hid hy
      have HYM := hid hym
      have hki : (k : Int) < (rws.length : Int) := by omega
      have hy3 := HR.out.c y hym
      clear hP hy hym
      go_wp2_with fail
      go_loopw [9] (fun i wq => ∃ j : Nat, j ≤ y.regs.length ∧ i = .int .i64 j ∧ (∀ r ∈ y.regs.take j, inReg a r = false) ∧ Fr (fun _ => False) w wq) (fun i _ => y.regs.length - (intOf i).toNat)
      case atStart => exact ⟨0, Nat.zero_le _, rfl, by simp, HFr.out⟩
      case round =>
        obtain ⟨j, hj, rfl, hno2, hFq⟩ := hrel
        have hP := HH.out.fr hFq
        have c2' : wr.cell? ⟨Y, 2, none⟩ = some (.slice (some ⟨gv, 0, none⟩) rws.length q1) := row_cell hP.hy 2
        have hvr' := (ward_regs _ _ _ _ _ _ _ _ _ _ _ _ hP k y HY.out).1
        rw [ea] at hvr'
        have hreg := (hP.rg y HYM.out).1
        have HP := hid hP
        have HNO2 := hid hno2
        have HFq := hid hFq
        clear hno2 hFq hP c2 hvr
        by_cases hjl : j < y.regs.length
        · obtain ⟨r, hrj⟩ : ∃ r, y.regs[j]? = some r := ⟨_, List.getElem?_eq_getElem hjl⟩
          have hrm := List.mem_of_getElem? hrj
          have hb := HR.out.r y HYM.out r hrm
          have hblk := (hreg.blk r hrm).1
          have ho := hreg.own
          rw [ea] at ho
          obtain ⟨gr, cr, hv, -, -⟩ := ho.form (by omega)
          simp only [Value.slice.injEq] at hv
          obtain ⟨rfl, -, rfl⟩ := hv
          have hcell : ∀ c', c' < 5 → wr.cell? ⟨gr, j * 5 + c', none⟩ = (rrCells r)[c']? := by
            intro c' hc'
            rw [ho.cellAt (j * 5 + c') (by omega), flat_get rrCells 5 (fun _ => rfl) y.regs j c' hjl hc']
            rw [List.getElem?_eq_getElem hjl] at hrj
            rw [Option.some.inj hrj]
          have d0 : wr.cell? ⟨gr, j * 5, none⟩ = some (.int .i64 r.r.1) := hcell 0 (by omega)
          have d1 : wr.cell? ⟨gr, j * 5 + 1, none⟩ = some (.int .i64 r.r.2.1) := hcell 1 (by omega)
          have d2 : wr.cell? ⟨gr, j * 5 + 2, none⟩ = some (.int .i64 r.r.2.2.1) := hcell 2 (by omega)
          have d3 : wr.cell? ⟨gr, j * 5 + 3, none⟩ = some (.int .i64 r.r.2.2.2) := hcell 3 (by omega)
          have d4 : wr.cell? ⟨gr, j * 5 + 4, none⟩ = some (.slice (some ⟨r.g, 0, none⟩) r.ws.length r.ws.length) := hcell 4 (by omega)
          have hjl' : (j : Int) < (y.regs.length : Int) := by omega
          have HRJ := hid hrj
          obtain ⟨b1, b2, b3, b4, b5, b6, b7⟩ := hb
          have hgs := lt_of_get hblk
          have hne : ¬ r.g = wr.heap.size := by omega
          clear hcell ho hreg hrj hrm ea
          by_cases hin : r.r.2.2.1 ≤ a
          · by_cases hin2 : a < r.r.2.2.1 + r.r.2.1
            · have HV : Hid (findW (rws.flatMap (·.regs)) a = regWord a r) := by
                unfold Hid
                rw [flat_take (fun y : RWard => y.regs) rws k y HY.out, findW_skip _ _ _ (fun r' hr' => by
                  obtain ⟨y', hy', hr''⟩ := List.mem_flatMap.1 hr'
                  exact HNO.out y' hy' r' hr'')]
                have e := split_at y.regs j r HRJ.out
                rw [e, List.append_assoc, findW_skip _ _ _ HNO2.out, List.cons_append, findW_hit _ _ _ (by simp [inReg, hin, hin2])]
              obtain ⟨p, hp⟩ := Int.eq_ofNat_of_zero_le (show 0 ≤ a - r.r.2.2.1 by omega)
              have hpl : p < r.ws.length := by omega
              have hpl' : (p : Int) < (r.ws.length : Int) := by omega
              have cw : wr.cell? ⟨r.g, p, none⟩ = some (.int .i64 (regWord a r)) := by
                rw [row_cell hblk]
                simp only [regWord, hp, Int.toNat_natCast, intCells, List.getElem?_toArray, List.getElem?_map, List.getElem?_eq_getElem hpl, Option.map_some, List.getD_eq_getElem?_getD, Option.getD_some]
              clear hblk
              go_wp2_with fail
              go_ret2
              exact ⟨by rw [HV.out]; rfl, HFq.out.alloc _⟩
            · have hin3 : r.r.2.2.1 + r.r.2.1 ≤ a := by omega
              clear hblk
              go_wp2_with fail
              go_roundw
              case rel => exact ⟨j + 1, by omega, by go_num, take_snoc_mem _ _ _ HRJ.out HNO2.out (by simp [inReg]; omega), HFq.out.alloc _⟩
              case measure => simp [intOf]; omega
          · have hin3 : a < r.r.2.2.1 := by omega
            clear hblk
            go_wp2_with fail
            go_roundw
            case rel => exact ⟨j + 1, by omega, by go_num, take_snoc_mem _ _ _ HRJ.out HNO2.out (by simp [inReg]; omega), HFq.out.alloc _⟩
            case measure => simp [intOf]; omega
        · obtain rfl : j = y.regs.length := by omega
          clear hreg
          go_wp2_with fail
          go_roundw
          case rel =>
            refine ⟨k + 1, by omega, by go_num, take_snoc_mem _ _ _ HY.out HNO.out ?_, HFq.out⟩
            have := HNO2.out
            rwa [List.take_length] at this
          case measure => simp [intOf]; omega
    · obtain rfl : k = rws.length := by omega
      clear hP
      go_wp2_with fail
      go_ret2
      refine ⟨?_, HFr.out⟩
      have : findW (rws.flatMap (·.regs)) a = 0 := by
        have h2 := findW_skip (rws.flatMap (·.regs)) [] a (fun r' hr' => by
          obtain ⟨y', hy', hr''⟩ := List.mem_flatMap.1 hr'
          have := HNO.out
          rw [List.take_length] at this
          exact this y' hy' r' hr'')
        rw [List.append_nil] at h2
        rw [h2]
        rfl
      rw [this]
      rfl

theorem rword_any (w : World) (Y : Nat) (gap mem ck tv : Int) (rws : List RWard) (wi : List (Int × Int × Int × Int)) (vW vI vD : Value) (nd : Nat) (h : NetAt w Y gap mem ck rws wi vW vI vD nd) (hr : RegsOk rws wi.length) (hm : mem ≤ 100000) (hk0 : 0 ≤ ck)
    (hT : Calls Tryz.prog 107 #[.pointer (some ⟨Y, 0, none⟩)] w fun e w' => e = .returned (.int .i64 tv) ∧ w' = w) (a : Nat) (ha : (a : Int) < mem) :
    Calls Tryz.prog 82 #[.pointer (some ⟨Y, 0, none⟩), .int .i64 a] w fun e w' => e = .returned (.tuple #[.int .i64 (rwordV tv ck rws wi a), .int .i64 0]) ∧ Fr (fun _ => False) w w' := by
  by_cases h1 : a < 16
  · exact rword_low w Y gap mem ck tv rws wi vW vI vD nd h hk0 hr.l hT a ha h1
  · by_cases h2 : a < 16 * (1 + rws.length)
    · have hk : a / 16 - 1 < rws.length := by omega
      have e := rwordV_area tv ck rws wi (a / 16 - 1) (a % 16) hk (by omega)
      rw [show 16 * (a / 16 - 1 + 1) + a % 16 = a by omega] at e
      rw [e]
      exact rword_area w Y gap mem ck tv rws wi vW vI vD nd h hr.l _ _ hk (by omega) _ (by omega) ha
    · by_cases h3 : a < 16 * (1 + rws.length) + 2 * wi.length
      · have hk : (a - 16 * (1 + rws.length)) / 2 < wi.length := by omega
        have key := rword_cell w Y gap mem ck tv rws wi vW vI vD nd h hr.l hr.li ((a - 16 * (1 + rws.length)) / 2) ((a - 16 * (1 + rws.length)) % 2) hk (by omega) a (by omega) ha _ (List.getElem?_eq_getElem hk)
        have e : rwordV tv ck rws wi a = if (a - 16 * (1 + rws.length)) % 2 = 0 then (wi[(a - 16 * (1 + rws.length)) / 2]).2.2.1 else (wi[(a - 16 * (1 + rws.length)) / 2]).2.2.2 := by
          unfold rwordV
          rw [if_neg (by omega), if_neg (by omega), if_neg (by omega), if_neg (by omega), if_pos h3]
          simp only [List.getD_eq_getElem?_getD, List.getElem?_eq_getElem hk, Option.getD_some]
        rw [e]
        exact key
      · have e : rwordV tv ck rws wi a = findW (rws.flatMap (·.regs)) a := by
          unfold rwordV
          rw [if_neg (by omega), if_neg (by omega), if_neg (by omega), if_neg (by omega), if_neg (by omega)]
        rw [e]
        exact rword_reg w Y gap mem ck tv rws wi vW vI vD nd h hr hm a ha (by omega)

end Go.Proofs.YthmcheoehcmglaaGreat
/- Rows of marks; what laid asks of the regions, word by word, and pair by pair. -/
namespace Go.Proofs.YthmcheoehcmglaaGreat
open Go.RowKit
set_option linter.unusedVariables false

/-- A row of n marks. -/
def bRow (n : Nat) (t : Nat → Bool) : List Value := (List.range n).map (fun i => Value.bool (t i))
theorem bRow_len (n : Nat) (t : Nat → Bool) : (bRow n t).length = n := by simp [bRow]
theorem bRow_get (n : Nat) (t : Nat → Bool) (i : Nat) (h : i < n) : (bRow n t)[i]? = some (.bool (t i)) := by simp [bRow, h]
theorem bRow_set (n : Nat) (t : Nat → Bool) (i : Nat) : (bRow n t).set i (.bool true) = bRow n (fun j => t j || decide (j = i)) := by
  apply List.ext_getElem?
  intro j
  rw [List.getElem?_set]
  by_cases hj : j < n
  · rw [bRow_get n _ j hj, bRow_get n _ j hj, bRow_len]
    by_cases e : i = j
    · subst e; simp [hj]
    · rw [if_neg e]; simp [show ¬ j = i by omega]
  · have h1 : (bRow n t)[j]? = none := by rw [List.getElem?_eq_none_iff, bRow_len]; omega
    have h2 : (bRow n (fun j => t j || decide (j = i)))[j]? = none := by rw [List.getElem?_eq_none_iff, bRow_len]; omega
    rw [h1, h2, bRow_len]
    split
    · rename_i h; rw [if_neg (by omega)]
    · rfl
theorem bRow_congr (n : Nat) (t u : Nat → Bool) (h : ∀ i, i < n → t i = u i) : bRow n t = bRow n u := by
  unfold bRow
  apply List.map_congr_left
  intro i hi
  rw [h i (by simpa using hi)]

theorem made_bools {w : World} {base g n : Nat} (h : w.ownsRow base 4 1 (.slice (some ⟨g, 0, none⟩) n n) n (madeCells (Value.bool false).cells (n * 1)).toList) :
    w.heap[g]? = some (.cells (bRow n (fun _ => false)).toArray 4 (0, 0)) := by
  rcases h.2 with ⟨h1, _⟩ | ⟨g', cap, cur, h1, _, hg, _, _, hs, ht⟩
  · simp at h1
  · simp only [Value.slice.injEq, Option.some.injEq, Addr.mk.injEq] at h1
    obtain ⟨⟨rfl, _⟩, _, rfl⟩ := h1
    rw [hg]
    have e1 : (Value.bool false).cells = #[Value.bool false] := rfl
    rw [e1, toList_madeCells_one, List.take_of_length_le (by simp [hs])] at ht
    have e2 : cur = (bRow n (fun _ => false)).toArray := by
      apply Array.ext'
      rw [ht]
      simp only [bRow, List.map_const', List.length_range]
      simp
    rw [e2]

theorem bCell {w : World} {g n : Nat} {t : Nat → Bool} (h : w.heap[g]? = some (.cells (bRow n t).toArray 4 (0, 0))) (i : Nat) (hi : i < n) : w.cell? ⟨g, i, none⟩ = some (.bool (t i)) := by
  rw [row_cell h, List.getElem?_toArray, bRow_get n t i hi]
theorem bSet {w : World} {g n : Nat} {t : Nat → Bool} (h : w.heap[g]? = some (.cells (bRow n t).toArray 4 (0, 0))) (i : Nat) :
    (w.setCell ⟨g, i, none⟩ (.bool true)).heap[g]? = some (.cells (bRow n (fun j => t j || decide (j = i))).toArray 4 (0, 0)) := by
  rw [row_set h]
  congr 2
  simp only [List.setIfInBounds_toArray]
  rw [bRow_set]

/-- Which words of the memory, which addresses of ward i, some regions have. -/
def tB (P : List Own) (p : Nat) : Bool := P.any (fun b => decide (b.1.2.2.1 ≤ p) && decide ((p : Int) < b.1.2.2.1 + b.1.2.1))
def sB (P : List Own) (i : Int) (p : Nat) : Bool := P.any (fun b => b.2 == i && (decide (b.1.1 ≤ p) && decide ((p : Int) < b.1.1 + b.1.2.1)))

theorem tB_snoc (P : List Own) (b : Own) (p : Nat) : tB (P ++ [b]) p = (tB P p || (decide (b.1.2.2.1 ≤ p) && decide ((p : Int) < b.1.2.2.1 + b.1.2.1))) := by simp [tB]
theorem sB_snoc (P : List Own) (b : Own) (i : Int) (h : b.2 = i) (p : Nat) : sB (P ++ [b]) i p = (sB P i p || (decide (b.1.1 ≤ p) && decide ((p : Int) < b.1.1 + b.1.2.1))) := by simp [sB, h]

theorem ovl_pt (a ca b cb : Int) (h : ovl a ca b cb = true) (h1 : 1 ≤ ca) (h2 : 1 ≤ cb) : ∃ p, a ≤ p ∧ p < a + ca ∧ b ≤ p ∧ p < b + cb := by
  simp [ovl] at h
  by_cases hab : a ≤ b
  · exact ⟨b, by omega, by omega, by omega, by omega⟩
  · exact ⟨a, by omega, by omega, by omega, by omega⟩

/-- A word of r that another ahead of it has. -/
theorem not_apart_t (P rest : List Own) (r : Own) (p : Nat) (h1 : r.1.2.2.1 ≤ p) (h2 : (p : Int) < r.1.2.2.1 + r.1.2.1) (h : tB P p = true) : ¬ (P ++ r :: rest).Pairwise ApP := by
  intro hp
  simp only [tB, List.any_eq_true, Bool.and_eq_true, decide_eq_true_eq] at h
  obtain ⟨b, hb, h3, h4⟩ := h
  have := (List.pairwise_append.1 hp).2.2 b hb r (by simp)
  simp only [ApP, shWord, Bool.or_eq_false_iff] at this
  rw [ovl_of _ _ _ _ p h1 h2 h3 h4] at this
  simp at this
theorem not_apart_s (P rest : List Own) (r : Own) (p : Nat) (h1 : r.1.1 ≤ p) (h2 : (p : Int) < r.1.1 + r.1.2.1) (h : sB P r.2 p = true) : ¬ (P ++ r :: rest).Pairwise ApP := by
  intro hp
  simp only [sB, List.any_eq_true, Bool.and_eq_true, decide_eq_true_eq, beq_iff_eq] at h
  obtain ⟨b, hb, h5, h3, h4⟩ := h
  have := (List.pairwise_append.1 hp).2.2 b hb r (by simp)
  simp only [ApP, shAddr, Bool.or_eq_false_iff] at this
  rw [ovl_of _ _ _ _ p h1 h2 h3 h4, h5] at this
  simp at this
/-- No word of r is another's ahead of it. -/
theorem apart_snoc (P : List Own) (r : Own) (hP : P.Pairwise ApP) (hs : ∀ b ∈ P, 1 ≤ b.1.2.1 ∧ 0 ≤ b.1.1 ∧ 0 ≤ b.1.2.2.1) (hr : 1 ≤ r.1.2.1)
    (h1 : ∀ p : Nat, r.1.1 ≤ p → (p : Int) < r.1.1 + r.1.2.1 → sB P r.2 p = false) (h2 : ∀ p : Nat, r.1.2.2.1 ≤ p → (p : Int) < r.1.2.2.1 + r.1.2.1 → tB P p = false) : (P ++ [r]).Pairwise ApP := by
  rw [List.pairwise_append]
  refine ⟨hP, by simp, ?_⟩
  intro b hb a ha
  obtain rfl := List.mem_singleton.1 ha
  have hbs := hs b hb
  simp only [ApP, Bool.or_eq_false_iff]
  constructor
  · cases h : shAddr a b with
    | false => rfl
    | true =>
      simp only [shAddr, Bool.and_eq_true, beq_iff_eq] at h
      obtain ⟨p, p1, p2, p3, p4⟩ := ovl_pt _ _ _ _ h.2 hr hbs.1
      obtain ⟨q, rfl⟩ := Int.eq_ofNat_of_zero_le (show 0 ≤ p by omega)
      have := h1 q p1 p2
      simp only [sB, List.any_eq_false] at this
      exact absurd (by simp [h.1, p3, p4]) (this b hb)
  · cases h : shWord a b with
    | false => rfl
    | true =>
      simp only [shWord] at h
      obtain ⟨p, p1, p2, p3, p4⟩ := ovl_pt _ _ _ _ h hr hbs.1
      obtain ⟨q, rfl⟩ := Int.eq_ofNat_of_zero_le (show 0 ≤ p by omega)
      have := h2 q p1 p2
      simp only [tB, List.any_eq_false] at this
      exact absurd (by simp [p3, p4]) (this b hb)

/-- The wards of a net, as an image has them. -/
def wsOf (rws : List RWard) : List WardV := rws.map (fun y => ⟨y.q, 0, y.regs.map (·.r), []⟩)

theorem ownedN_congr (ws ws' : List WardV) (h : ws.map (·.regs) = ws'.map (·.regs)) : ∀ k, ownedN ws k = ownedN ws' k := by
  intro k
  induction k with
  | zero => rfl
  | succ k ih =>
    have e : ws[k]?.map (·.regs) = ws'[k]?.map (·.regs) := by rw [← List.getElem?_map, ← List.getElem?_map, h]
    simp only [ownedN, ih, e]

theorem ownedN_lt (ws : List WardV) : ∀ k, ∀ b ∈ ownedN ws k, b.2 < (k : Int) := by
  intro k
  induction k with
  | zero => simp [ownedN]
  | succ k ih =>
    intro b hb
    simp only [ownedN, List.mem_append, List.mem_map] at hb
    rcases hb with hb | ⟨r, _, rfl⟩
    · have := ih b hb; omega
    · simp only; omega
theorem sB_none (ws : List WardV) (k : Nat) (p : Nat) : sB (ownedN ws k) k p = false := by
  simp only [sB, List.any_eq_false]
  intro b hb h
  have := ownedN_lt ws k b hb
  simp only [Bool.and_eq_true, beq_iff_eq] at h
  omega
end Go.Proofs.YthmcheoehcmglaaGreat
/- The reference's laid. -/
namespace Go.Proofs.YthmcheoehcmglaaGreat
open Go.RowKit
set_option linter.unusedVariables false
attribute [local go_sem ↓] Go.wp_at_zero Go.wp_at_succ

def laidB (rws : List RWard) (nw : Nat) (mem : Int) : Bool := (ownedN (wsOf rws) rws.length).all (fitB (16 + 16 * rws.length + 2 * nw) mem) && apartN (ownedN (wsOf rws) rws.length) (ownedN (wsOf rws) rws.length).length

theorem wsOf_get (rws : List RWard) (k : Nat) (y : RWard) (h : rws[k]? = some y) : (wsOf rws)[k]? = some ⟨y.q, 0, y.regs.map (·.r), []⟩ := by simp [wsOf, h]
theorem wsOf_len (rws : List RWard) : (wsOf rws).length = rws.length := by simp [wsOf]

theorem laid_no_fit (rws : List RWard) (nw : Nat) (mem : Int) (b : Own) (hb : b ∈ ownedN (wsOf rws) rws.length) (h : fitB (16 + 16 * rws.length + 2 * nw) mem b = false) : false = laidB rws nw mem := by
  unfold laidB
  have : (ownedN (wsOf rws) rws.length).all (fitB (16 + 16 * rws.length + 2 * nw) mem) = false := by
    rw [List.all_eq_false]
    exact ⟨b, hb, by simp [h]⟩
  rw [this]
  rfl
theorem laid_no_apart (rws : List RWard) (nw : Nat) (mem : Int) (h : ¬ (ownedN (wsOf rws) rws.length).Pairwise ApP) : false = laidB rws nw mem := by
  unfold laidB
  have : apartN (ownedN (wsOf rws) rws.length) (ownedN (wsOf rws) rws.length).length = false := by
    cases e : apartN (ownedN (wsOf rws) rws.length) (ownedN (wsOf rws) rws.length).length with
    | false => rfl
    | true => exact absurd ((apartN_iff _).1 e) h
  rw [this]
  simp

/-- The regions ahead of the j-th of ward k. -/
def preR (rws : List RWard) (k j : Nat) (y : RWard) : List Own := ownedN (wsOf rws) k ++ ((y.regs.map (·.r)).take j).map (fun r => (r, (k : Int)))
theorem preR_zero (rws : List RWard) (k : Nat) (y : RWard) : preR rws k 0 y = ownedN (wsOf rws) k := by simp [preR]
theorem preR_succ (rws : List RWard) (k j : Nat) (y : RWard) (r : RReg) (hr : y.regs[j]? = some r) : preR rws k (j + 1) y = preR rws k j y ++ [(r.r, (k : Int))] := by
  have : (y.regs.map (·.r))[j]? = some r.r := by simp [hr]
  have hj : j < (y.regs.map (·.r)).length := (List.getElem?_eq_some_iff.1 this).1
  have e := (List.getElem?_eq_some_iff.1 this).2
  unfold preR
  rw [List.take_succ_eq_append_getElem hj, e]
  simp
theorem preR_full (rws : List RWard) (k : Nat) (y : RWard) (hy : rws[k]? = some y) : preR rws k y.regs.length y = ownedN (wsOf rws) (k + 1) := by
  unfold preR
  rw [List.take_of_length_le (by simp)]
  simp [ownedN, wsOf_get rws k y hy]
theorem preR_split (rws : List RWard) (k j : Nat) (y : RWard) (r : RReg) (hy : rws[k]? = some y) (hr : y.regs[j]? = some r) : ∃ rest, ownedN (wsOf rws) rws.length = preR rws k j y ++ (r.r, (k : Int)) :: rest := by
  have := owned_split (wsOf rws) k j _ r.r (wsOf_get rws k y hy) (by simp [hr])
  rwa [wsOf_len] at this

theorem preR_mem (rws : List RWard) (k j : Nat) (y : RWard) (hy : rws[k]? = some y) (P : (Int × Int × Int × Int) → Prop) (hP : ∀ y ∈ rws, ∀ r ∈ y.regs, P r.r) : ∀ b ∈ preR rws k j y, P b.1 := by
  have h1 : ∀ k, ∀ b ∈ ownedN (wsOf rws) k, P b.1 := by
    intro k
    induction k with
    | zero => simp [ownedN]
    | succ k ih =>
      intro b hb
      simp only [ownedN, List.mem_append, List.mem_map] at hb
      rcases hb with hb | ⟨r, hr, rfl⟩
      · exact ih b hb
      · cases hk : rws[k]? with
        | none => simp [wsOf, hk] at hr
        | some z =>
          rw [wsOf_get rws k z hk] at hr
          simp only [Option.map_some, Option.getD_some, List.mem_map] at hr
          obtain ⟨q, hq, rfl⟩ := hr
          exact hP z (List.mem_of_getElem? hk) q hq
  intro b hb
  unfold preR at hb
  rcases List.mem_append.1 hb with hb | hb
  · exact h1 k b hb
  · obtain ⟨r, hr, rfl⟩ := List.mem_map.1 hb
    have := List.mem_of_mem_take hr
    obtain ⟨q, hq, rfl⟩ := List.mem_map.1 this
    exact hP y (List.mem_of_getElem? hy) q hq

/-- The marks while the j-th region of ward k is being laid, and c words of it are. -/
structure LIn (w : World) (T S N : Nat) (P : List Own) (k : Int) (r : Int × Int × Int × Int) (c : Nat) (wr : World) : Prop where
  t : wr.heap[T]? = some (.cells (bRow N (fun p => tB P p || (decide (r.2.2.1 ≤ p) && decide ((p : Int) < r.2.2.1 + c)))).toArray 4 (0, 0))
  s : wr.heap[S]? = some (.cells (bRow N (fun p => sB P k p || (decide (r.1 ≤ p) && decide ((p : Int) < r.1 + c)))).toArray 4 (0, 0))
  f : Fr (fun _ => False) w wr
  h1 : ∀ p : Nat, r.1 ≤ p → (p : Int) < r.1 + c → sB P k p = false
  h2 : ∀ p : Nat, r.2.2.1 ≤ p → (p : Int) < r.2.2.1 + c → tB P p = false

theorem LIn.step {w : World} {T S N : Nat} {P : List Own} {k : Int} {r : Int × Int × Int × Int} {c : Nat} {wr : World} (h : LIn w T S N P k r c wr) (hTS : T ≠ S) (hT : w.heap.size ≤ T) (hS : w.heap.size ≤ S) (p q : Nat) (hp : (p : Int) = r.1 + c) (hq : (q : Int) = r.2.2.1 + c)
    (hs : sB P k p = false) (ht : tB P q = false) : LIn w T S N P k r (c + 1) ((wr.setCell ⟨S, p, none⟩ (.bool true)).setCell ⟨T, q, none⟩ (.bool true)) := by
  refine ⟨?_, ?_, ?_, ?_, ?_⟩
  · have h3 := set_other h.t (p := ⟨S, p, none⟩) hTS (.bool true)
    rw [bSet h3 q]
    congr 3
    apply bRow_congr
    intro i _
    by_cases e : i = q
    · subst e; simp; omega
    · simp only [e, decide_false, Bool.or_false]
      congr 2
      simp only [decide_eq_decide]
      omega
  · have h3 := bSet h.s p
    have h4 := set_other h3 (p := ⟨T, q, none⟩) (Ne.symm hTS) (.bool true)
    rw [h4]
    congr 3
    apply bRow_congr
    intro i _
    by_cases e : i = p
    · subst e; simp; omega
    · simp only [e, decide_false, Bool.or_false]
      congr 2
      simp only [decide_eq_decide]
      omega
  · exact (h.f.setCell (p := ⟨S, p, none⟩) (.inr hS) _).setCell (p := ⟨T, q, none⟩) (.inr hT) _
  · intro i h1 h2
    by_cases e : (i : Int) < r.1 + c
    · exact h.h1 i h1 e
    · obtain rfl : i = p := by omega
      exact hs
  · intro i h1 h2
    by_cases e : (i : Int) < r.2.2.1 + c
    · exact h.h2 i h1 e
    · obtain rfl : i = q := by omega
      exact ht

end Go.Proofs.YthmcheoehcmglaaGreat
