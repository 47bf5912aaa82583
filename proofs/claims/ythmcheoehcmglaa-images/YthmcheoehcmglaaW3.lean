/- Walks over the reader's wire and region. -/
import Derived.Test.YthmcheoehcmglaaW2
namespace Go.Proofs.Ythmcheoehcmglaa
open Go.RowKit
set_option linter.unusedVariables false

theorem Rd.fr {S : Nat → Prop} {w w' : World} {b : Nat} {l : List UInt8} {bad : Bool} (h : Rd w b l bad) (hf : Fr S w w') (hn : ¬ S b) : Rd w' b l bad := by
  obtain ⟨s, h1, h2, h3⟩ := h
  exact ⟨s, h1, h2, hf.get h3 hn⟩
theorem Rd.lt {w : World} {b : Nat} {l : List UInt8} {bad : Bool} (h : Rd w b l bad) : b < w.heap.size := by
  obtain ⟨s, h1, h2, h3⟩ := h
  exact lt_of_get h3
theorem Rd.alloc {w : World} {b : Nat} {l : List UInt8} {bad : Bool} (h : Rd w b l bad) (o : Obj) : Rd (w.alloc o) b l bad := h.fr ((Fr.refl (fun _ => False) w).alloc o) id
theorem Rd.set {w : World} {b : Nat} {l : List UInt8} {bad : Bool} (h : Rd w b l bad) {p : Addr} (hp : p.block ≠ b) (v : Value) : Rd (w.setCell p v) b l bad :=
  h.fr (Fr.set1 w p v) (fun e => hp e.symm)

theorem heap_new (w : World) (o : Obj) : (w.alloc o).heap[w.heap.size]? = some o := heap_alloc_new w o

/-- What the reader's wire gives. -/
def rwire (l : List UInt8) (bad : Bool) : (Int × Int) × List UInt8 × Bool :=
  let x := rdn 1 l bad
  let y := rdn 1 x.2.1 x.2.2
  ((x.1, y.1), y.2.1, y.2.2)

set_option maxRecDepth 100000 in
set_option maxHeartbeats 400000 in
theorem wire_any (b : Nat) (l : List UInt8) (bad : Bool) (w : World) (h : Rd w b l bad) :
    Calls Try.prog 61 #[.pointer (some ⟨b, 0, none⟩)] w fun e w' =>
      e = .returned (.agg #[.int .i64 (rwire l bad).1.1, .int .i64 (rwire l bad).1.2]) ∧ Rd w' b (rwire l bad).2.1 (rwire l bad).2.2 ∧ Fr (fun i => i = b) w w' := by
  have hlt := h.lt
  unfold rwire
  dsimp only
  go_enter Try.func61, Try.ntmps61
  go_wp2_with fail
  refine (single_any b l bad _ ((h.alloc _).alloc _)).mono ?_
  rintro e w1 ⟨rfl, hr1, hf1⟩
  have g1 : w1.heap[w.heap.size + 1]? = some (.cells #[.int .i64 0, .int .i64 0] 143 (0, 0)) := hf1.get (heap_alloc2_new _ _ _) (by omega)
  have p1 : w1.heap[w.heap.size]? = some (.cells #[.int .i64 0, .int .i64 0] 143 (0, 0)) := hf1.get (heap_alloc2_old _ _ _) (by omega)
  have c1 := row_cell g1
  have f1 := row_frozen g1
  go_wp2_with fail
  clear c1 f1
  refine (single_any b _ _ _ (hr1.set (by simp; omega) _)).mono ?_
  rintro e w2 ⟨rfl, hr2, hf2⟩
  have g2 : w2.heap[w.heap.size + 1]? = some (.cells #[.int .i64 (rdn 1 l bad).1, .int .i64 0] 143 (0, 0)) := hf2.get (by rw [row_set g1]; simp) (by omega)
  have p2 : w2.heap[w.heap.size]? = some (.cells #[.int .i64 0, .int .i64 0] 143 (0, 0)) := hf2.get (set_other p1 (by simp) _) (by omega)
  have hF : Fr (fun i => i = b) w w2 := (((((Fr.refl _ w).alloc _).alloc _).step hf1 (fun i h => .inl h)).setCell (.inr (by simp)) _).step hf2 (fun i h => .inl h)
  clear hf1 hf2 g1 p1
  have c2 := row_cell g2
  have f2 := row_frozen g2
  have c3 := row_cell p2
  have f3 := row_frozen p2
  go_wp2_with fail
  refine bodyPost_ret (v := .agg #[.int .i64 (rdn 1 l bad).1, .int .i64 (rdn 1 (rdn 1 l bad).2.1 (rdn 1 l bad).2.2).1]) ?_ rfl ⟨rfl, ?_, ?_⟩
  · simp [results, Try.results61, go_sem, c3]
  · exact ((hr2.set (by simp; omega) _).set (by simp; omega) _).set (by simp; omega) _
  · exact ((hF.setCell (.inr (by simp)) _).setCell (.inr (by simp)) _).setCell (.inr (by simp)) _

/-- What the reader's region gives: first address, words, base, rights. -/
def rreg (l : List UInt8) (bad : Bool) : (Int × Int × Int × Int) × List UInt8 × Bool :=
  let x1 := rdn 2 l bad
  let x2 := rdn 2 x1.2.1 x1.2.2
  let x3 := wth 1 65535 x2.1 x2.2.2
  let x4 := rdn 2 x2.2.1 x3.2
  let x5 := rdn 1 x4.2.1 x4.2.2
  let x6 := wth 1 7 x5.1 x5.2.2
  ((x1.1, x3.1, x4.1, x6.1), x5.2.1, x6.2)

set_option maxRecDepth 100000 in
set_option maxHeartbeats 1000000 in
theorem region_any (b : Nat) (l : List UInt8) (bad : Bool) (w : World) (h : Rd w b l bad) :
    Calls Try.prog 77 #[.pointer (some ⟨b, 0, none⟩)] w fun e w' =>
      e = .returned (.agg #[.int .i64 (rreg l bad).1.1, .int .i64 (rreg l bad).1.2.1, .int .i64 (rreg l bad).1.2.2.1, .int .i64 (rreg l bad).1.2.2.2]) ∧ Rd w' b (rreg l bad).2.1 (rreg l bad).2.2 ∧ Fr (fun i => i = b) w w' := by
  have hlt := h.lt
  unfold rreg
  dsimp only
  go_enter Try.func77, Try.ntmps77
  go_wp2_with fail
  refine (pair_any b l bad _ ((h.alloc _).alloc _)).mono ?_
  rintro e w1 ⟨rfl, hr1, hf1⟩
  have g1 := hf1.get (heap_alloc2_new _ _ _) (by omega)
  have p1 := hf1.get (heap_alloc2_old _ _ _) (by omega)
  have F1 : Fr (fun i => i = b) w w1 := ((((Fr.refl _ w).alloc _).alloc _).step hf1 (fun i h => .inl h))
  clear hf1
  have c1 := row_cell g1
  have f1 := row_frozen g1
  go_wp2_with fail
  clear c1 f1
  refine (pair_any b _ _ _ (hr1.set (by simp; omega) _)).mono ?_
  rintro e w2 ⟨rfl, hr2, hf2⟩
  have g2 := hf2.get (row_set g1 0 _) (by omega)
  have p2 := hf2.get (set_other p1 (by simp) _) (by omega)
  have F2 : Fr (fun i => i = b) w w2 := (F1.setCell (.inr (by simp)) _).step hf2 (fun i h => .inl h)
  simp only [List.setIfInBounds_toArray, List.set] at g2
  clear hf2 g1 p1 F1 hr1
  go_wp2_with fail
  refine (within_any b _ _ _ _ _ _ hr2).mono ?_
  rintro e w3 ⟨rfl, hr3, hf3⟩
  have g3 := hf3.get g2 (by omega)
  have p3 := hf3.get p2 (by omega)
  have F3 : Fr (fun i => i = b) w w3 := F2.step hf3 (fun i h => .inl h)
  clear hf3 g2 p2 F2 hr2
  have c3 := row_cell g3
  have f3 := row_frozen g3
  go_wp2_with fail
  clear c3 f3
  refine (pair_any b _ _ _ (hr3.set (by simp; omega) _)).mono ?_
  rintro e w4 ⟨rfl, hr4, hf4⟩
  have g4 := hf4.get (row_set g3 1 _) (by omega)
  have p4 := hf4.get (set_other p3 (by simp) _) (by omega)
  have F4 : Fr (fun i => i = b) w w4 := (F3.setCell (.inr (by simp)) _).step hf4 (fun i h => .inl h)
  simp only [List.setIfInBounds_toArray, List.set] at g4
  clear hf4 g3 p3 F3 hr3
  have c4 := row_cell g4
  have f4 := row_frozen g4
  go_wp2_with fail
  clear c4 f4
  refine (single_any b _ _ _ (hr4.set (by simp; omega) _)).mono ?_
  rintro e w5 ⟨rfl, hr5, hf5⟩
  have g5 := hf5.get (row_set g4 2 _) (by omega)
  have p5 := hf5.get (set_other p4 (by simp) _) (by omega)
  have F5 : Fr (fun i => i = b) w w5 := (F4.setCell (.inr (by simp)) _).step hf5 (fun i h => .inl h)
  simp only [List.setIfInBounds_toArray, List.set] at g5
  clear hf5 g4 p4 F4 hr4
  go_wp2_with fail
  refine (within_any b _ _ _ _ _ _ hr5).mono ?_
  rintro e w6 ⟨rfl, hr6, hf6⟩
  have g6 := hf6.get g5 (by omega)
  have p6 := hf6.get p5 (by omega)
  have F6 : Fr (fun i => i = b) w w6 := F5.step hf6 (fun i h => .inl h)
  clear hf6 g5 p5 F5 hr5
  have c6 := row_cell g6
  have f6 := row_frozen g6
  have d6 := row_cell p6
  have e6 := row_frozen p6
  go_wp2_with fail
  refine bodyPost_ret (v := .agg #[.int .i64 _, .int .i64 _, .int .i64 _, .int .i64 _]) ?_ rfl ⟨rfl, ?_, ?_⟩
  · simp [results, Try.results77, go_sem, d6]
  · exact (((((hr6.set (by simp; omega) _).set (by simp; omega) _).set (by simp; omega) _).set (by simp; omega) _).set (by simp; omega) _)
  · exact ((((F6.setCell (.inr (by simp)) _).setCell (.inr (by simp)) _).setCell (.inr (by simp)) _).setCell (.inr (by simp)) _).setCell (.inr (by simp)) _

end Go.Proofs.Ythmcheoehcmglaa
