/- The reader's ward. -/
import Derived.Test.YthmcheoehcmglaaGreatW3
import Derived.Deep.RegionHeld3
import Derived.Deep.RegionLaw
import Derived.Deep.AppendLies
import Derived.Deep.DrawnRows
import Derived.KernelRfl
namespace Go.Proofs.YthmcheoehcmglaaGreat
open Go.RowKit
set_option linter.unusedVariables false
attribute [local go_sem ↓] Go.wp_at_zero Go.wp_at_succ

theorem slReg : SlT Tryz.prog 92 151 4 32 := SlT.mk' (z := .agg #[.int .i64 0, .int .i64 0, .int .i64 0, .int .i64 0]) Tryz.underlying92 (by kernel_rfl) rfl (by omega)
theorem slU32 : SlT Tryz.prog 35 33 1 4 := SlT.mk' (z := .int .u32 0) Tryz.underlying35 (by kernel_rfl) rfl (by omega)

/-- A region's cells. -/
def regCells (r : Int × Int × Int × Int) : List Value := [.int .i64 r.1, .int .i64 r.2.1, .int .i64 r.2.2.1, .int .i64 r.2.2.2]

theorem regCells_one (r : Int × Int × Int × Int) : ∀ u ∈ (regCells r).toArray.toList, u.oneCell' = true := by simp [regCells, Value.oneCell']

/-- k regions, one behind the other. -/
def regsN : Nat → List UInt8 → Bool → List (Int × Int × Int × Int) × List UInt8 × Bool
  | 0, l, bad => ([], l, bad)
  | k + 1, l, bad => ((regsN k l bad).1 ++ [(rreg (regsN k l bad).2.1 (regsN k l bad).2.2).1], (rreg (regsN k l bad).2.1 (regsN k l bad).2.2).2)
/-- k words, one behind the other. -/
def wordsN : Nat → List UInt8 → Bool → List Int × List UInt8 × Bool
  | 0, l, bad => ([], l, bad)
  | k + 1, l, bad => ((wordsN k l bad).1 ++ [(rdn 4 (wordsN k l bad).2.1 (wordsN k l bad).2.2).1], (rdn 4 (wordsN k l bad).2.1 (wordsN k l bad).2.2).2)

theorem regsN_len (k : Nat) (l : List UInt8) (bad : Bool) : (regsN k l bad).1.length = k := by
  induction k with
  | zero => rfl
  | succ k ih => simp [regsN, ih]
theorem wordsN_len (k : Nat) (l : List UInt8) (bad : Bool) : (wordsN k l bad).1.length = k := by
  induction k with
  | zero => rfl
  | succ k ih => simp [wordsN, ih]

/-- A ward's part, as the program has it. -/
structure WardV where
  q : Int
  bg : Int
  regs : List (Int × Int × Int × Int)
  prog : List Int

/-- The head of a ward: its quantum, how many regions, where it begins. -/
def whead (l : List UInt8) (bad : Bool) : (Int × Int × Int) × List UInt8 × Bool :=
  let x1 := rdn 1 l bad
  let x2 := wth 1 64 x1.1 x1.2.2
  let x3 := rdn 1 x1.2.1 x2.2
  let x4 := wth 1 3 x3.1 x3.2.2
  let x5 := rdn 2 x3.2.1 x4.2
  ((x2.1, x4.1, x5.1), x5.2)

/-- How many words the first region has. -/
def firstWords (rs : List (Int × Int × Int × Int)) : Int := (rs.getD 0 (0, 0, 0, 0)).2.1

/-- What stands behind a ward's head: its regions, its program. -/
def wtail (q bg : Int) (n : Nat) (l : List UInt8) (bad : Bool) : WardV × List UInt8 × Bool :=
  if (regsN n l bad).2.2 = true then (⟨q, bg, (regsN n l bad).1, []⟩, (regsN n l bad).2) else
  let x7 := rdn 2 (regsN n l bad).2.1 false
  let x8 := wth 0 (firstWords (regsN n l bad).1) x7.1 x7.2.2
  (⟨q, bg, (regsN n l bad).1, (wordsN x8.1.toNat x7.2.1 x8.2).1⟩, (wordsN x8.1.toNat x7.2.1 x8.2).2)

/-- What the reader's ward gives. -/
def rward (l : List UInt8) (bad : Bool) : WardV × List UInt8 × Bool :=
  wtail (whead l bad).1.1 (whead l bad).1.2.2 (whead l bad).1.2.1.toNat (whead l bad).2.1 (whead l bad).2.2

theorem wth_bd (lo hi v : Int) (bad : Bool) (h0 : 0 ≤ lo) (h1 : 0 ≤ hi) : 0 ≤ (wth lo hi v bad).1 ∧ (wth lo hi v bad).1 ≤ hi := by
  unfold wth
  split <;> simp <;> omega

theorem regs_flat_len (rs : List (Int × Int × Int × Int)) : (rs.flatMap regCells).length = rs.length * 4 := by
  induction rs with
  | nil => rfl
  | cons r rs ih => simp [regCells, ih]; omega

theorem rdn_bad (n : Nat) (l : List UInt8) : (rdn n l true).2.2 = true := by simp [rdn]
theorem wth_bad (lo hi v : Int) : (wth lo hi v true).2 = true := by simp [wth]
theorem rreg_bad (l : List UInt8) : (rreg l true).2.2 = true := by simp [rreg, rdn_bad, wth_bad]
theorem regsN_bad (k : Nat) (l : List UInt8) : (regsN k l true).2.2 = true := by
  induction k with
  | zero => rfl
  | succ k ih => simp only [regsN, ih]; exact rreg_bad _
theorem wordsN_bad (k : Nat) (l : List UInt8) : (wordsN k l true).2.2 = true := by
  induction k with
  | zero => rfl
  | succ k ih => simp only [wordsN, ih]; exact rdn_bad _ _
theorem flat_words (rs : List (Int × Int × Int × Int)) (h : 1 ≤ rs.length) : (rs.flatMap regCells)[1]? = some (.int .i64 (firstWords rs)) := by
  match rs, h with
  | r :: rs, _ => simp [regCells, firstWords]

theorem rreg_bd (l : List UInt8) (bad : Bool) : 0 ≤ (rreg l bad).1.2.1 ∧ (rreg l bad).1.2.1 ≤ 65535 := by
  have := wth_bd 1 65535 (rdn 2 (rdn 2 l bad).2.1 (rdn 2 l bad).2.2).1 (rdn 2 (rdn 2 l bad).2.1 (rdn 2 l bad).2.2).2.2 (by omega) (by omega)
  exact this
theorem regsN_words (k : Nat) (l : List UInt8) (bad : Bool) : ∀ r ∈ (regsN k l bad).1, 0 ≤ r.2.1 ∧ r.2.1 ≤ 65535 := by
  induction k with
  | zero => simp [regsN]
  | succ k ih =>
    intro r hr
    simp only [regsN, List.mem_append, List.mem_singleton] at hr
    rcases hr with hr | rfl
    · exact ih r hr
    · exact rreg_bd _ _
theorem rreg_words (k : Nat) (l : List UInt8) (bad : Bool) : 0 ≤ firstWords (regsN k l bad).1 ∧ firstWords (regsN k l bad).1 ≤ 65535 := by
  unfold firstWords
  cases h : (regsN k l bad).1 with
  | nil => simp
  | cons r rs => exact regsN_words k l bad r (by rw [h]; simp)

/-- What holds at the head of each round of the ward's first loop. -/
def WInv (w : World) (b : Nat) (q bg : Int) (l : List UInt8) (bad : Bool) (k : Nat) (v : Value) (wr : World) : Prop :=
  wr.heap[w.heap.size + 1]? = some (.cells #[.int .i64 q, .int .u32 bg, v, .slice none 0 0] 148 (0, 0)) ∧
  wr.heap[w.heap.size]? = some (.cells #[.int .i64 0, .int .u32 0, .slice none 0 0, .slice none 0 0] 148 (0, 0)) ∧
  Rd wr b (regsN k l bad).2.1 (regsN k l bad).2.2 ∧ wr.ownsRow (w.heap.size + 2) 151 4 v k ((regsN k l bad).1.flatMap regCells) ∧ Fr (fun i => i = b) w wr ∧ w.heap.size + 2 ≤ wr.heap.size

/-- What holds at the head of each round of the ward's second loop. -/
def WInv2 (w : World) (b : Nat) (q bg : Int) (v : Value) (n : Nat) (rs : List (Int × Int × Int × Int)) (H : Nat) (l : List UInt8) (bad : Bool) (k : Nat) (vp : Value) (wr : World) : Prop :=
  wr.heap[w.heap.size + 1]? = some (.cells #[.int .i64 q, .int .u32 bg, v, vp] 148 (0, 0)) ∧
  wr.heap[w.heap.size]? = some (.cells #[.int .i64 0, .int .u32 0, .slice none 0 0, .slice none 0 0] 148 (0, 0)) ∧
  Rd wr b (wordsN k l bad).2.1 (wordsN k l bad).2.2 ∧ wr.ownsRow H 33 1 vp k ((wordsN k l bad).1.map (Value.int .u32)) ∧ wr.ownsRow (w.heap.size + 2) 151 4 v n (rs.flatMap regCells) ∧
  Fr (fun i => i = b) w wr ∧ H ≤ wr.heap.size ∧ (∀ i, v.ownBlock = some i → i < H) ∧ w.heap.size + 2 ≤ H

theorem winv2_step {w : World} {b : Nat} {q bg : Int} {l : List UInt8} {bad : Bool} {k n H : Nat} {v vp : Value} {rs : List (Int × Int × Int × Int)} {wr : World} (hI : WInv2 w b q bg v n rs H l bad k vp wr) (hb : b < w.heap.size) {w6 w7 : World} {o : Obj} {gg cap : Nat}
    (hr6 : Rd w6 b (rdn 4 (wordsN k l bad).2.1 (wordsN k l bad).2.2).2.1 (rdn 4 (wordsN k l bad).2.1 (wordsN k l bad).2.2).2.2) (hf6 : Fr (fun i => i = b) wr.drew w6)
    (hown7 : w7.ownsRow H 33 1 (.slice (some ⟨gg, 0, none⟩) (k + 1) cap) (k + 1) ((wordsN k l bad).1.map (Value.int .u32) ++ #[Value.int .u32 (rdn 4 (wordsN k l bad).2.1 (wordsN k l bad).2.2).1].toList))
    (hf7 : Fr (fun i => vp.ownBlock = some i) (w6.alloc o) w7) :
    WInv2 w b q bg v n rs H l bad (k + 1) (.slice (some ⟨gg, 0, none⟩) (k + 1) cap) (w7.setCell ⟨w.heap.size + 1, 3, none⟩ (.slice (some ⟨gg, 0, none⟩) (k + 1) cap)) := by
  obtain ⟨g, p, hr, hown, hownv, hF, hz, hv, hH⟩ := hI
  have g6 := hf6.get1 g (by omega)
  have p6 := hf6.get1 p (by omega)
  have hown6 := hf6.owns1 hown (by omega)
  have hownv6 := hf6.owns1 hownv (by omega)
  have g7 := hf7.getOwn hown6 (get_alloc g6 o) (by omega)
  have p7 := hf7.getOwn hown6 (get_alloc p6 o) (by omega)
  have hr7 : Rd w7 b _ _ := (hr6.alloc o).fr hf7 (fun e => by have := (hown6.lt b e).1; omega)
  have hownv7 := hf7.owns (hownv6.alloc o) (fun i hi (e : vp.ownBlock = some i) => by have h1 := (hown6.lt i e).1; have h2 := hv i hi; omega)
  have h6 : Fr (fun i => i = b) w w6 := hF.step hf6.undrew (fun i h => .inl h)
  have h7 : Fr (fun i => i = b) w w7 := (h6.alloc o).step hf7 (fun i hi => .inr (by have := (hown6.lt i hi).1; omega))
  refine ⟨?_, set_other p7 (by simp) _, ?_, ?_, ?_, h7.setCell (.inr (by simp)) _, ?_, hv, hH⟩
  · rw [row_set g7]; simp
  · exact hr7.set (by simp; omega) _
  · have e1 : (wordsN (k + 1) l bad).1.map (Value.int .u32) = (wordsN k l bad).1.map (Value.int .u32) ++ #[Value.int .u32 (rdn 4 (wordsN k l bad).2.1 (wordsN k l bad).2.2).1].toList := by simp [wordsN]
    rw [e1]
    exact ownsRow_setCell_below hown7 (by simp; omega) _
  · exact ownsRow_setCell_below hownv7 (by simp) _
  · have := hf7.size
    have h3 := hf6.size
    have h4 : wr.drew.heap.size = wr.heap.size := rfl
    simp [World.setCell] at this ⊢
    omega

theorem winv_step {w : World} {b : Nat} {q bg : Int} {l : List UInt8} {bad : Bool} {k : Nat} {v : Value} {wr : World} (hI : WInv w b q bg l bad k v wr) (hb : b < w.heap.size) {w6 w7 : World} {o : Obj} {gg cap : Nat}
    (hr6 : Rd w6 b (rreg (regsN k l bad).2.1 (regsN k l bad).2.2).2.1 (rreg (regsN k l bad).2.1 (regsN k l bad).2.2).2.2) (hf6 : Fr (fun i => i = b) wr.drew w6)
    (hown7 : w7.ownsRow (w.heap.size + 2) 151 4 (.slice (some ⟨gg, 0, none⟩) (k + 1) cap) (k + 1) ((regsN k l bad).1.flatMap regCells ++ (regCells (rreg (regsN k l bad).2.1 (regsN k l bad).2.2).1).toArray.toList))
    (hf7 : Fr (fun i => v.ownBlock = some i) (w6.alloc o) w7) :
    WInv w b q bg l bad (k + 1) (.slice (some ⟨gg, 0, none⟩) (k + 1) cap) (w7.setCell ⟨w.heap.size + 1, 2, none⟩ (.slice (some ⟨gg, 0, none⟩) (k + 1) cap)) := by
  obtain ⟨g, p, hr, hown, hF, hz⟩ := hI
  have g6 := hf6.get1 g (by omega)
  have p6 := hf6.get1 p (by omega)
  have hown6 := hf6.owns1 hown (by omega)
  have g7 := hf7.getOwn hown6 (get_alloc g6 o) (by omega)
  have p7 := hf7.getOwn hown6 (get_alloc p6 o) (by omega)
  have hr7 : Rd w7 b _ _ := (hr6.alloc o).fr hf7 (fun e => by have := (hown6.lt b e).1; omega)
  have h6 : Fr (fun i => i = b) w w6 := hF.step hf6.undrew (fun i h => .inl h)
  have h7 : Fr (fun i => i = b) w w7 := (h6.alloc o).step hf7 (fun i hi => .inr (by have := (hown6.lt i hi).1; omega))
  refine ⟨?_, set_other p7 (by simp) _, ?_, ?_, h7.setCell (.inr (by simp)) _, ?_⟩
  · rw [row_set g7]; simp
  · exact hr7.set (by simp; omega) _
  · have e1 : (regsN (k + 1) l bad).1.flatMap regCells = (regsN k l bad).1.flatMap regCells ++ (regCells (rreg (regsN k l bad).2.1 (regsN k l bad).2.2).1).toArray.toList := by simp [regsN]
    rw [e1]
    exact ownsRow_setCell_below hown7 (by simp) _
  · have := hf7.size
    have h3 := hf6.size
    have h4 : wr.drew.heap.size = wr.heap.size := rfl
    simp [World.setCell] at this ⊢
    omega

set_option maxRecDepth 100000 in
set_option maxHeartbeats 1000000 in
theorem ward_core (b : Nat) (l : List UInt8) (bad : Bool) (w : World) (h : Rd w b l bad) (x1 x3 x5 : Int × List UInt8 × Bool) (x2 x4 : Int × Bool)
    (E1 : Hid (rdn 1 l bad = x1)) (E2 : Hid (wth 1 64 x1.1 x1.2.2 = x2)) (E3 : Hid (rdn 1 x1.2.1 x2.2 = x3)) (E4 : Hid (wth 1 3 x3.1 x3.2.2 = x4)) (E5 : Hid (rdn 2 x3.2.1 x4.2 = x5)) (n : Nat) (hn : x4.1 = (n : Int)) (hn3 : n ≤ 3) (hn1 : x5.2.2 = false → 1 ≤ n) :
    Calls Tryz.prog 96 #[.pointer (some ⟨b, 0, none⟩)] w fun e w' =>
      ∃ vr vp, e = .returned (.agg #[.int .i64 x2.1, .int .u32 x5.1, vr, vp]) ∧ Fr (fun i => i = b) w w' ∧ Rd w' b (wtail x2.1 x5.1 n x5.2.1 x5.2.2).2.1 (wtail x2.1 x5.1 n x5.2.1 x5.2.2).2.2 ∧
        w'.ownsRow w.heap.size 151 4 vr (wtail x2.1 x5.1 n x5.2.1 x5.2.2).1.regs.length ((wtail x2.1 x5.1 n x5.2.1 x5.2.2).1.regs.flatMap regCells) ∧
        w'.ownsRow w.heap.size 33 1 vp (wtail x2.1 x5.1 n x5.2.1 x5.2.2).1.prog.length ((wtail x2.1 x5.1 n x5.2.1 x5.2.2).1.prog.map (Value.int .u32)) := by
  have hlt := h.lt
  have HN : Hid (x4.1 = (n : Int)) := hn
  have HN1 : Hid (x5.2.2 = false → 1 ≤ n) := hn1
  clear hn hn1
  go_enter Tryz.func96, Tryz.ntmps96
  go_wp2_with fail
  refine (single_any b l bad _ ((h.alloc _).alloc _)).mono ?_
  rw [E1.out]
  rintro e w1 ⟨rfl, hr1, hf1⟩
  have g1 := hf1.get (heap_alloc2_new _ _ _) (by omega)
  have p1 := hf1.get (heap_alloc2_old _ _ _) (by omega)
  have F1 : Fr (fun i => i = b) w w1 := ((((Fr.refl _ w).alloc _).alloc _).step hf1 (fun i h => .inl h))
  have z1 : w.heap.size + 2 ≤ w1.heap.size := by have := hf1.size; simpa using this
  clear hf1
  go_wp2_with fail
  refine (within_any b _ _ _ _ _ _ hr1).mono ?_
  rw [E2.out]
  rintro e w2 ⟨rfl, hr2, hf2⟩
  have g2 := hf2.get g1 (by omega)
  have p2 := hf2.get p1 (by omega)
  have F2 : Fr (fun i => i = b) w w2 := F1.step hf2 (fun i h => .inl h)
  have z2 : w.heap.size + 2 ≤ w2.heap.size := Nat.le_trans z1 hf2.size
  clear hf2 g1 p1 F1 hr1 z1
  have c2 := row_cell g2
  have f2 := row_frozen g2
  go_wp2_with fail
  clear c2 f2
  refine (single_any b _ _ _ (hr2.set (by simp; omega) _)).mono ?_
  rw [E3.out]
  rintro e w3 ⟨rfl, hr3, hf3⟩
  have g3 := hf3.get (row_set g2 0 _) (by omega)
  have p3 := hf3.get (set_other p2 (by simp) _) (by omega)
  have F3 : Fr (fun i => i = b) w w3 := (F2.setCell (.inr (by simp)) _).step hf3 (fun i h => .inl h)
  have z3 : w.heap.size + 2 ≤ w3.heap.size := Nat.le_trans z2 (by have := hf3.size; simpa [World.setCell] using this)
  simp only [List.setIfInBounds_toArray, List.set] at g3
  clear hf3 g2 p2 F2 hr2 z2
  go_wp2_with fail
  refine (within_any b _ _ _ _ _ _ hr3).mono ?_
  rw [E4.out]
  rintro e w4 ⟨rfl, hr4, hf4⟩
  have g4 := hf4.get g3 (by omega)
  have p4 := hf4.get p3 (by omega)
  have F4 : Fr (fun i => i = b) w w4 := F3.step hf4 (fun i h => .inl h)
  have z4 : w.heap.size + 2 ≤ w4.heap.size := Nat.le_trans z3 hf4.size
  clear hf4 g3 p3 F3 hr3 z3
  rw [HN.out]
  go_wp2_with fail
  refine (rnumber_any b 2 _ _ _ (by omega) hr4).mono ?_
  rw [E5.out]
  rintro e w5 ⟨rfl, hr5, hf5⟩
  have g5 := hf5.get g4 (by omega)
  have p5 := hf5.get p4 (by omega)
  have F5 : Fr (fun i => i = b) w w5 := F4.step hf5 (fun i h => .inl h)
  have z5 : w.heap.size + 2 ≤ w5.heap.size := Nat.le_trans z4 hf5.size
  clear hf5 g4 p4 F4 hr4 z4
  have c5 := row_cell g5
  have f5 := row_frozen g5
  go_wp2_with fail
  clear c5 f5
  have HI : Hid (WInv w b x2.1 x5.1 x5.2.1 x5.2.2 0 (.slice none 0 0) (w5.setCell ⟨w.heap.size + 1, 1, none⟩ (.int .u32 x5.1))) := by
    refine ⟨?_, set_other p5 (by simp) _, hr5.set (by simp; omega) _, World.ownsRow_nil _ _ _ _, F5.setCell (.inr (by simp)) _, by simpa [World.setCell] using z5⟩
    rw [row_set g5]; simp
  clear g5 p5 F5 z5 hr5
  go_loopw [19] (fun i wr => ∃ k : Nat, k ≤ n ∧ i = .int .i64 k ∧ ∃ v, WInv w b x2.1 x5.1 x5.2.1 x5.2.2 k v wr) (fun i _ => n - (intOf i).toNat)
  case atStart => exact ⟨0, Nat.zero_le _, rfl, _, HI.out⟩
  case round =>
    obtain ⟨k, hk, rfl, v, g, p, hr, hown, hF, hz⟩ := hrel
    clear HI
    by_cases hlt2 : k < n
    · have hc := row_cell g 2
      simp only [List.getElem?_toArray, List.getElem?_cons_succ, List.getElem?_cons_zero] at hc
      have hnb : w.heap.size + 1 ≠ b := by omega
      have hb2 : b < w.heap.size + 2 := by omega
      have hr' : Rd wr.drew b (regsN k x5.2.1 x5.2.2).2.1 (regsN k x5.2.1 x5.2.2).2.2 := hr
      have hb3 : w.heap.size + 1 < w.heap.size + 2 := by omega
      have hk3 : k + 1 ≤ 1073741824 := by omega
      go_wp2_with fail
      go_region_law
        (first
          | (refine step_call Tryz.func111 (by kernel_rfl) (by kernel_rfl) (by rfl) (by rfl) [.pointer (some ⟨b, 0, none⟩)] (by rfl) ((region_any b (regsN k x5.2.1 x5.2.2).2.1 (regsN k x5.2.1 x5.2.2).2.2 _ hr').mono ?_); rintro e w6 ⟨rfl, hr6, hf6⟩; refine ⟨_, rfl, ?_⟩; have g6 := hf6.get1 g hnb; have hc6 : w6.cell? ⟨w.heap.size + 1, 2, none⟩ = some v := row_cell g6 2; have hc6a : ∀ o, (w6.alloc o).cell? ⟨w.heap.size + 1, 2, none⟩ = some v := fun o => row_cell (get_alloc g6 o) 2; have hown6 := hf6.owns1 hown hb2; have hz6 : w.heap.size + 2 ≤ w6.heap.size := Nat.le_trans hz hf6.size)
          | (refine step_app slReg (by rfl) _ _ (by rfl) (w.heap.size + 2) v k _ (by rfl) (hown6.alloc _) w6.heap.size (regCells (rreg (regsN k x5.2.1 x5.2.2).2.1 (regsN k x5.2.1 x5.2.2).2.2).1).toArray _ (by rfl) (heap_alloc_new w6 _) rfl (regCells_one _) hk3 (by decide) (le_alloc hz6 _) ?_; intro gg cap w7 hown7 hf7 hat; have g7 := hf7.getOwn hown6 (get_alloc g6 _) hb3; have hc7 : w7.cell? ⟨w.heap.size + 1, 2, none⟩ = some v := row_cell g7 2; have fr7 := row_frozen g7 2))
      all_goals
        have R := winv_step ⟨g, p, hr, hown, hF, hz⟩ hlt hr6 hf6 hown7 hf7
        have HR := (show Hid _ from R)
        clear R g7 hc7 fr7 hf7 hat hown7 hz6 hown6 hc6 hc6a g6 hf6 hr6 hr' hc
        go_wp2_with fail
        go_roundw
        case rel => exact ⟨k + 1, by omega, by go_num, _, HR.out⟩
        case measure => simp [intOf]; omega
    · obtain rfl : k = n := by omega
      obtain ⟨s, hs1, hs2, hs3⟩ := id hr
      have c0 := row_cell hs3 1
      simp only [List.getElem?_toArray, List.getElem?_cons_succ, List.getElem?_cons_zero] at c0
      cases hbad : (regsN k x5.2.1 x5.2.2).2.2
      · rw [hbad] at c0
        have hk1 : 1 ≤ k := HN1.out (by cases hx : x5.2.2; rfl; rw [hx, regsN_bad] at hbad; cases hbad)
        obtain ⟨gv, cp, rfl, hgv1, hgv2⟩ := hown.form hk1
        have cv : wr.cell? ⟨gv, 1, none⟩ = some (.int .i64 (firstWords (regsN k x5.2.1 x5.2.2).1)) := by
          rw [hown.cellAt 1 (by omega), flat_words _ (by rw [regsN_len]; exact hk1)]
        have cg : wr.cell? ⟨w.heap.size + 1, 2, none⟩ = some (.slice (some ⟨gv, 0, none⟩) k cp) := row_cell g 2
        have HT : Hid (wtail x2.1 x5.1 k x5.2.1 x5.2.2 = (⟨x2.1, x5.1, (regsN k x5.2.1 x5.2.2).1, (wordsN (wth 0 (firstWords (regsN k x5.2.1 x5.2.2).1) (rdn 2 (regsN k x5.2.1 x5.2.2).2.1 false).1 (rdn 2 (regsN k x5.2.1 x5.2.2).2.1 false).2.2).1.toNat (rdn 2 (regsN k x5.2.1 x5.2.2).2.1 false).2.1 (wth 0 (firstWords (regsN k x5.2.1 x5.2.2).1) (rdn 2 (regsN k x5.2.1 x5.2.2).2.1 false).1 (rdn 2 (regsN k x5.2.1 x5.2.2).2.1 false).2.2).2).1⟩, (wordsN (wth 0 (firstWords (regsN k x5.2.1 x5.2.2).1) (rdn 2 (regsN k x5.2.1 x5.2.2).2.1 false).1 (rdn 2 (regsN k x5.2.1 x5.2.2).2.1 false).2.2).1.toNat (rdn 2 (regsN k x5.2.1 x5.2.2).2.1 false).2.1 (wth 0 (firstWords (regsN k x5.2.1 x5.2.2).1) (rdn 2 (regsN k x5.2.1 x5.2.2).2.1 false).1 (rdn 2 (regsN k x5.2.1 x5.2.2).2.1 false).2.2).2).2)) := by unfold Hid wtail; rw [if_neg (by rw [hbad]; simp)]
        have hr' : Rd wr.drew b (regsN k x5.2.1 x5.2.2).2.1 false := by rw [← hbad]; exact hr
        have HW := wth_bd 0 (firstWords (regsN k x5.2.1 x5.2.2).1) (rdn 2 (regsN k x5.2.1 x5.2.2).2.1 false).1 (rdn 2 (regsN k x5.2.1 x5.2.2).2.1 false).2.2
        have HB := (show Hid _ from hbad)
        have hnb : w.heap.size + 1 ≠ b := by omega
        have hnb2 : gv ≠ b := by omega
        have hgw := hown
        have HOWN := (show Hid _ from hown)
        have HG := (show Hid _ from g)
        have HP := (show Hid _ from p)
        have hk0 : (0 : Int) < (k : Int) := by omega
        have hk0n : 0 < k := by omega
        have hw0 := rreg_words k x5.2.1 x5.2.2
        clear hbad hs3 hs2 hs1 hgw
        go_wp2_with fail
        go_region_held3 (fun w' => w'.cell? ⟨w.heap.size + 1, 2, none⟩ = some (.slice (some ⟨gv, 0, none⟩) k cp) ∧ w'.cell? ⟨gv, 1, none⟩ = some (.int .i64 (firstWords (regsN k x5.2.1 x5.2.2).1)))
          (go_keep)
          (first
            | (go_at_call 95; refine (pair_any b (regsN k x5.2.1 x5.2.2).2.1 false _ ?_).mono ?_; exact hr'; rintro e w7 ⟨rfl, hr7, hf7⟩; have cg7 := (World.cell?_of_block (hf7.block _ (lt_of_get g) hnb)).trans cg; have cv7 := (World.cell?_of_block (hf7.block _ hgv2 hnb2)).trans cv)
            | (go_at_call 93; refine (within_any b _ _ _ (rdn 2 (regsN k x5.2.1 x5.2.2).2.1 false).2.1 (rdn 2 (regsN k x5.2.1 x5.2.2).2.1 false).2.2 _ hr7).mono ?_; rintro e w8 ⟨rfl, hr8, hf8⟩; have cg8 := (World.cell?_of_block (hf8.block _ (Nat.lt_of_lt_of_le (lt_of_get g) hf7.size) hnb)).trans cg7; have cv8 := (World.cell?_of_block (hf8.block _ (Nat.lt_of_lt_of_le hgv2 hf7.size) hnb2)).trans cv7))
        have HW2 := HW (by omega) hw0.1
        obtain ⟨m, hm⟩ := Int.eq_ofNat_of_zero_le HW2.1
        have hm2 : m ≤ 65535 := by omega
        have HM := (show Hid _ from hm)
        generalize HX8 : wth 0 (firstWords (regsN k x5.2.1 x5.2.2).1) (rdn 2 (regsN k x5.2.1 x5.2.2).2.1 false).1 (rdn 2 (regsN k x5.2.1 x5.2.2).2.1 false).2.2 = x8 at *
        generalize HX7 : rdn 2 (regsN k x5.2.1 x5.2.2).2.1 false = x7 at *
        have HI : Hid (WInv2 w b x2.1 x5.1 (.slice (some ⟨gv, 0, none⟩) k cp) k (regsN k x5.2.1 x5.2.2).1 w8.heap.size x7.2.1 x8.2 0 (.slice none 0 0) w8) := by
          have z7 : wr.heap.size ≤ w7.heap.size := hf7.size
          have z8 := hf8.size
          refine ⟨hf8.get1 (hf7.get1 HG.out hnb) hnb, hf8.get1 (hf7.get1 HP.out (by omega)) (by omega), hr8, World.ownsRow_nil _ _ _ _, hf8.owns1 (hf7.owns1 HOWN.out (by omega)) (by omega), (hF.step hf7.undrew (fun i h => .inl h)).step hf8 (fun i h => .inl h), Nat.le_refl _, ?_, by omega⟩
          intro i hi
          simp only [Value.ownBlock, Option.some.injEq] at hi
          omega
        clear HX7 HX8 hm HW HW2 hw0 cg7 cv7 cg8 cv8 hf7 hf8 hr7 hr8 HOWN HG HP c0 cv cg hr' hr hown hF hz g p HB hgv1 hgv2 hnb2
        rw [HM.out]
        go_wp2_with fail
        go_loopw [44] (fun i wr => ∃ j : Nat, j ≤ m ∧ i = .int .i64 j ∧ ∃ vp, WInv2 w b x2.1 x5.1 (.slice (some ⟨gv, 0, none⟩) k cp) k (regsN k x5.2.1 x5.2.2).1 w8.heap.size x7.2.1 x8.2 j vp wr) (fun i _ => m - (intOf i).toNat)
        case atStart => exact ⟨0, Nat.zero_le _, rfl, _, HI.out⟩
        case round =>
          obtain ⟨j, hj, rfl, vp, g, p, hr, hown, hownv, hF, hz, hv, hH⟩ := hrel
          clear HI
          by_cases hjm : j < m
          · have hc := row_cell g 3
            simp only [List.getElem?_toArray, List.getElem?_cons_succ, List.getElem?_cons_zero] at hc
            have hb2 : b < w8.heap.size := by omega
            have hr' : Rd wr.drew b (wordsN j x7.2.1 x8.2).2.1 (wordsN j x7.2.1 x8.2).2.2 := hr
            have hk3 : j + 1 ≤ 1073741824 := by omega
            have hb3 : w.heap.size + 1 < w8.heap.size := by omega
            go_wp2_with fail
            go_region_law
              (first
                | (refine step_call Tryz.func110 (by kernel_rfl) (by kernel_rfl) (by rfl) (by rfl) [.pointer (some ⟨b, 0, none⟩), .int .i64 4] (by rfl) ((rnumber_any b 4 (wordsN j x7.2.1 x8.2).2.1 (wordsN j x7.2.1 x8.2).2.2 _ (by decide) hr').mono ?_); rintro e w6 ⟨rfl, hr6, hf6⟩; refine ⟨_, rfl, ?_⟩; have g6 := hf6.get1 g hnb; have hc6 : w6.cell? ⟨w.heap.size + 1, 3, none⟩ = some vp := row_cell g6 3; have hc6a : ∀ o, (w6.alloc o).cell? ⟨w.heap.size + 1, 3, none⟩ = some vp := fun o => row_cell (get_alloc g6 o) 3; have hown6 := hf6.owns1 hown hb2; have hz6 : w8.heap.size ≤ w6.heap.size := Nat.le_trans hz hf6.size)
                | (refine step_app slU32 (by rfl) _ _ (by rfl) w8.heap.size vp j _ (by rfl) (hown6.alloc _) w6.heap.size #[.int .u32 (rdn 4 (wordsN j x7.2.1 x8.2).2.1 (wordsN j x7.2.1 x8.2).2.2).1] _ (by rfl) (heap_alloc_new w6 _) rfl (by simp [Value.oneCell']) hk3 (by decide) (le_alloc hz6 _) ?_; intro gg cap w7' hown7 hf7 hat; have g7 := hf7.getOwn hown6 (get_alloc g6 _) hb3; have hc7 : w7'.cell? ⟨w.heap.size + 1, 3, none⟩ = some vp := row_cell g7 3; have fr7 := row_frozen g7 3))
            all_goals
              have R := winv2_step ⟨g, p, hr, hown, hownv, hF, hz, hv, hH⟩ hlt hr6 hf6 hown7 hf7
              have HR := (show Hid _ from R)
              clear R g7 hc7 fr7 hf7 hat hown7 hz6 hown6 hc6 hc6a g6 hf6 hr6 hr' hc
              go_wp2_with fail
              go_roundw
              case rel => exact ⟨j + 1, by omega, by go_num, _, HR.out⟩
              case measure => simp [intOf]; omega
          · obtain rfl : j = m := by omega
            obtain ⟨ao, cp2, rfl⟩ := owns_shape hown
            have c1 := row_cell g
            have c2 := row_cell p
            have f2 := row_frozen p
            go_wp2_with fail
            refine bodyPost_ret (v := .agg #[.int .i64 _, .int .u32 _, _, _]) ?_ rfl ⟨.slice (some ⟨gv, 0, none⟩) k cp, .slice ao j cp2, rfl, ?_, ?_, ?_, ?_⟩
            · simp [results, Tryz.results96, go_sem, c2]
            · exact (((hF.setCell (.inr (by simp)) _).setCell (.inr (by simp)) _).setCell (.inr (by simp)) _).setCell (.inr (by simp)) _
            · rw [HT.out, HM.out]; exact (((hr.set (by simp; omega) _).set (by simp; omega) _).set (by simp; omega) _).set (by simp; omega) _
            · rw [HT.out]
              simp only [regsN_len]
              refine owns_base (base := w.heap.size + 2) ?_ (by omega)
              exact (ownsRow_setCell_below (ownsRow_setCell_below (ownsRow_setCell_below (ownsRow_setCell_below hownv (by simp) _) (by simp) _) (by simp) _) (by simp) _)
            · rw [HT.out, HM.out]
              simp only [wordsN_len]
              refine owns_base (base := w8.heap.size) ?_ (by omega)
              exact (ownsRow_setCell_below (ownsRow_setCell_below (ownsRow_setCell_below (ownsRow_setCell_below hown (by simp; omega) _) (by simp; omega) _) (by simp; omega) _) (by simp; omega) _)
      · rw [hbad] at c0
        obtain ⟨ao, cp, rfl⟩ := owns_shape hown
        have c1 := row_cell g
        have c2 := row_cell p
        have f2 := row_frozen p
        have HT : Hid (wtail x2.1 x5.1 k x5.2.1 x5.2.2 = (⟨x2.1, x5.1, (regsN k x5.2.1 x5.2.2).1, []⟩, (regsN k x5.2.1 x5.2.2).2)) := by unfold Hid wtail; rw [if_pos hbad]
        have HB := (show Hid _ from hbad)
        clear hbad
        go_wp2_with fail
        refine bodyPost_ret (v := .agg #[.int .i64 _, .int .u32 _, _, _]) ?_ rfl ⟨.slice ao k cp, .slice none 0 0, rfl, ?_, ?_, ?_, ?_⟩
        · simp [results, Tryz.results96, go_sem, c2]
        · exact (((hF.setCell (.inr (by simp)) _).setCell (.inr (by simp)) _).setCell (.inr (by simp)) _).setCell (.inr (by simp)) _
        · rw [HT.out]; exact (((hr.set (by simp; omega) _).set (by simp; omega) _).set (by simp; omega) _).set (by simp; omega) _
        · rw [HT.out]
          simp only [regsN_len]
          refine owns_base (base := w.heap.size + 2) ?_ (by omega)
          exact (ownsRow_setCell_below (ownsRow_setCell_below (ownsRow_setCell_below (ownsRow_setCell_below hown (by simp) _) (by simp) _) (by simp) _) (by simp) _)
        · rw [HT.out]; exact World.ownsRow_nil _ _ _ _

end Go.Proofs.YthmcheoehcmglaaGreat
