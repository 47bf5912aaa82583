/- The kernel's calls: wires. -/
import Derived.Test.YthmcheoehcmglaaGreatC3
namespace Go.Proofs.YthmcheoehcmglaaGreat
open Go.RowKit
set_option linter.unusedVariables false
attribute [local go_sem ↓] Go.wp_at_zero Go.wp_at_succ

set_option maxRecDepth 100000 in
set_option maxHeartbeats 1000000 in
theorem full_any (w : World) (f t : Int) (M o c : Nat) (v : Int) (hv : w.cell? ⟨M, o, none⟩ = some (.int .u32 v)) :
    Calls Tryz.prog 181 #[.agg #[.int .i64 f, .int .i64 t, .slice (some ⟨M, o, none⟩) 2 c]] w fun e w' => e = .returned (.bool (v != 0)) ∧ Fr (fun _ => False) w w' := by
  have c0 : (w.alloc (.cells #[.int .i64 f, .int .i64 t, .slice (some ⟨M, o, none⟩) 2 c] 233)).cell? ⟨M, o, none⟩ = some (.int .u32 v) := by
    rw [← hv]; exact World.cell?_of_block (((Fr.refl (fun _ => False) w).alloc _).block M (World.block_lt_of_cell? w _ hv) id)
  clear hv
  go_enter Tryz.func181, Tryz.ntmps181
  go_wp2_with fail
  go_ret
  exact ⟨rfl, (Fr.refl _ w).alloc _⟩

set_option maxRecDepth 100000 in
set_option maxHeartbeats 1000000 in
theorem fill_any (x : KX) (ck : Int) (mem : List Int) (w : World) (h : KerR x ck mem w) (f t : Int) (o c : Nat) (ho : o + 2 ≤ x.n) (v : Int) (v0 : 0 ≤ v) (v1 : v < 4294967296) :
    Calls Tryz.prog 182 #[.agg #[.int .i64 f, .int .i64 t, .slice (some ⟨x.M, o, none⟩) 2 c], .int .u32 v] w fun e w' => e = .returned (.tuple #[]) ∧ KerR x ck ((mem.set o 1).set (o + 1) v) w' ∧ Fr (fun i => i = x.M) w w' := by
  have HF0 : Hid (Fr (fun _ => False) w (w.alloc (.cells #[.int .i64 f, .int .i64 t, .slice (some ⟨x.M, o, none⟩) 2 c] 233))) := (Fr.refl _ w).alloc _
  have hb := heap_alloc_new w (.cells #[.int .i64 f, .int .i64 t, .slice (some ⟨x.M, o, none⟩) 2 c] 233)
  have hMn : x.M ≠ w.heap.size := Nat.ne_of_lt (lt_of_get h.hm)
  have hA := h.frF HF0.out
  go_enter Tryz.func182, Tryz.ntmps182
  go_upto_region 1 with fail
  generalize w.alloc (.cells #[.int .i64 f, .int .i64 t, .slice (some ⟨x.M, o, none⟩) 2 c] 233) = wa at *
  have h1 := hA.set1 o 1 (by omega) (by omega)
  have HK := hid (h1.set1 (o + 1) v v0 v1)
  have b0 : wa.cell? ⟨w.heap.size, 2, none⟩ = some (.slice (some ⟨x.M, o, none⟩) 2 c) := row_cell hb 2
  have m0 := hA.word o (by omega)
  have g0 : wa.frozen? ⟨x.M, o, none⟩ = false := row_frozen hA.hm _
  have b1 : (wa.setCell ⟨x.M, o, none⟩ (.int .u32 1)).cell? ⟨w.heap.size, 2, none⟩ = some (.slice (some ⟨x.M, o, none⟩) 2 c) := row_cell (set_other hb (p := ⟨x.M, o, none⟩) hMn.symm _) 2
  have m1 := h1.word (o + 1) (by omega)
  have g1 : (wa.setCell ⟨x.M, o, none⟩ (.int .u32 1)).frozen? ⟨x.M, o + 1, none⟩ = false := row_frozen h1.hm _
  have HF2 : Hid (Fr (fun i => i = x.M) w ((wa.setCell ⟨x.M, o, none⟩ (.int .u32 1)).setCell ⟨x.M, o + 1, none⟩ (.int .u32 v))) := ((HF0.out.toS (S := fun i => i = x.M)).setCell (p := ⟨x.M, o, none⟩) (.inl rfl) _).setCell (p := ⟨x.M, o + 1, none⟩) (.inl rfl) _
  clear h hA h1 hb
  go_wp2_with fail
  go_end0
  exact ⟨rfl, HK.out, HF2.out⟩

set_option maxRecDepth 100000 in
set_option maxHeartbeats 1000000 in
theorem empty_any (x : KX) (ck : Int) (mem : List Int) (w : World) (h : KerR x ck mem w) (f t : Int) (o c : Nat) (ho : o + 2 ≤ x.n) :
    Calls Tryz.prog 183 #[.agg #[.int .i64 f, .int .i64 t, .slice (some ⟨x.M, o, none⟩) 2 c]] w fun e w' => e = .returned (.int .u32 (mem.getD (o + 1) 0)) ∧ KerR x ck (mem.set o 0) w' ∧ Fr (fun i => i = x.M) w w' := by
  have HF0 : Hid (Fr (fun _ => False) w (w.alloc (.cells #[.int .i64 f, .int .i64 t, .slice (some ⟨x.M, o, none⟩) 2 c] 233))) := (Fr.refl _ w).alloc _
  have hb := heap_alloc_new w (.cells #[.int .i64 f, .int .i64 t, .slice (some ⟨x.M, o, none⟩) 2 c] 233)
  have hMn : x.M ≠ w.heap.size := Nat.ne_of_lt (lt_of_get h.hm)
  have hA := h.frF HF0.out
  go_enter Tryz.func183, Tryz.ntmps183
  go_upto_region 1 with fail
  generalize w.alloc (.cells #[.int .i64 f, .int .i64 t, .slice (some ⟨x.M, o, none⟩) 2 c] 233) = wa at *
  have h1 := hA.set1 o 0 (by omega) (by omega)
  have HK := hid h1
  have b0 : wa.cell? ⟨w.heap.size, 2, none⟩ = some (.slice (some ⟨x.M, o, none⟩) 2 c) := row_cell hb 2
  have m0 := hA.word o (by omega)
  have g0 : wa.frozen? ⟨x.M, o, none⟩ = false := row_frozen hA.hm _
  have b1 : (wa.setCell ⟨x.M, o, none⟩ (.int .u32 0)).cell? ⟨w.heap.size, 2, none⟩ = some (.slice (some ⟨x.M, o, none⟩) 2 c) := row_cell (set_other hb (p := ⟨x.M, o, none⟩) hMn.symm _) 2
  have m1 := h1.word (o + 1) (by omega)
  have hg : (mem.set o 0).getD (o + 1) 0 = mem.getD (o + 1) 0 := by
    rw [List.getD_eq_getElem?_getD, List.getD_eq_getElem?_getD, List.getElem?_set_ne (by omega)]
  rw [hg] at m1
  have HF2 : Hid (Fr (fun i => i = x.M) w (wa.setCell ⟨x.M, o, none⟩ (.int .u32 0))) := (HF0.out.toS (S := fun i => i = x.M)).setCell (p := ⟨x.M, o, none⟩) (.inl rfl) _
  obtain ⟨v, hv⟩ : ∃ v, mem.getD (o + 1) 0 = v := ⟨_, rfl⟩
  rw [hv] at m1
  have HV := hid hv
  clear h hA h1 hb hg hv
  go_wp2_with fail
  go_ret
  exact ⟨by rw [HV.out]; rfl, HK.out, HF2.out⟩

/-- A wire's cell. -/
def cellAt (x : KX) (i : Nat) : Nat := 16 + 16 * x.regs.length + 2 * i

set_option maxRecDepth 100000 in
set_option maxHeartbeats 1000000 in
theorem lcell_num (w : World) (k j : Nat) (hk : k ≤ 4) (hj : j ≤ 8) :
    Calls Tryz.prog 112 #[.int .i64 k, .int .i64 j] w fun e w' => e = .returned (.int .i64 ((16 + 16 * k + 2 * j : Nat) : Int)) ∧ w' = w := by
  go_enter Tryz.func112, Tryz.ntmps112
  go_wp2_with (go_at_call 92; refine (area_num _ _ (by omega) (by omega)).mono ?_; rintro e w1 ⟨rfl, rfl⟩)
  go_ret
  exact ⟨rfl, rfl⟩

theorem wire_one (f t : Int) (v : Value) (hv : v.oneCell' = true) : (#[.int .i64 f, .int .i64 t, v] : Array Value).all (·.oneCell') = true := by
  show ([.int .i64 f, .int .i64 t, v] : List Value).toArray.all (·.oneCell') = true
  rw [List.all_toArray]
  simp only [List.all_cons, List.all_nil, hv]
  rfl

set_option maxRecDepth 100000 in
set_option maxHeartbeats 2000000 in
theorem wire_no (x : KX) (ck : Int) (mem : List Int) (w : World) (h : KerR x ck mem w) (i : Int) (i0 : (x.wires.length : Int) ≤ i) (i1 : i < 4294967296) :
    Calls Tryz.prog 180 #[.pointer (some ⟨x.X, 0, none⟩), .int .u32 i] w fun e w' => e = .returned (.tuple #[.agg #[.int .i64 0, .int .i64 0, .slice none 0 0], .bool false]) ∧ Fr (fun _ => False) w w' := by
  have hA := h.frF ((Fr.refl _ w).alloc (.cells #[.int .i64 0, .int .i64 0, .slice none 0 0] 233))
  obtain ⟨aI, cI, hvI⟩ := owns_shape h.wi
  have kI : (w.alloc (.cells #[.int .i64 0, .int .i64 0, .slice none 0 0] 233)).cell? ⟨x.X, 5, none⟩ = some (.slice aI x.wires.length cI) := by rw [← hvI]; exact row_cell hA.hx _
  have h8 := h.wi8
  clear h hA hvI
  go_enter Tryz.func180, Tryz.ntmps180
  go_wp2_with (first
    | (refine wpList_storeRow ?_ 233 (.tmp 4) (.tmp 15) ?_ w.heap.size 233 _ #[.int .i64 0, .int .i64 0, .slice none 0 0] ?_ ?_ (heap_alloc_new w _) ?_ ?_ (wire_one 0 0 _ rfl) ?_; rfl; rfl; rfl; rfl; kernel_rfl; rfl; intro w4 g4 hf4; have HG4 := hid g4; have HF4 := hid hf4; clear g4 hf4))
  refine bodyPost_ret (v := .tuple #[.agg #[.int .i64 0, .int .i64 0, .slice none 0 0], .bool false]) ?_ rfl ⟨rfl, ?_⟩
  · exact results_cell_tmp (fn := Tryz.f180) rfl _ w4 w.heap.size _ _ (0, 0) rfl HG4.out Tryz.underlying233 rfl (by kernel_rfl) _ rfl
  · exact ((Fr.refl _ w).alloc _).step HF4.out (fun i hi => .inr (by omega))

theorem three_set {w : World} {b : Nat} {a0 a1 a2 : Value} {t : TypeId} (h : w.heap[b]? = some (.cells #[a0, a1, a2] t (0, 0))) (v0 v1 v2 : Value) : (((w.setCell ⟨b, 0, none⟩ v0).setCell ⟨b, 1, none⟩ v1).setCell ⟨b, 2, none⟩ v2).heap[b]? = some (.cells #[v0, v1, v2] t (0, 0)) := by
  rw [row_set (row_set (row_set h 0 v0) 1 v1) 2 v2]
  rfl

set_option maxRecDepth 100000 in
set_option maxHeartbeats 2000000 in
theorem wire_yes (x : KX) (ck : Int) (mem : List Int) (w : World) (h : KerR x ck mem w) (i : Nat) (f t : Int) (hi : x.wires[i]? = some (f, t)) :
    Calls Tryz.prog 180 #[.pointer (some ⟨x.X, 0, none⟩), .int .u32 i] w fun e w' => e = .returned (.tuple #[.agg #[.int .i64 f, .int .i64 t, .slice (some ⟨x.M, cellAt x i, none⟩) 2 (x.n - cellAt x i)], .bool true]) ∧ Fr (fun _ => False) w w' := by
  have hil : i < x.wires.length := (List.getElem?_eq_some_iff.1 hi).1
  have hie : x.wires[i] = (f, t) := (List.getElem?_eq_some_iff.1 hi).2
  have h8 := h.wi8
  have hw4 := h.wl
  have hkern := h.kern
  have hn1 := h.n1
  have hili : (i : Int) < (x.wires.length : Int) := by omega
  have hi0 : (0 : Int) ≤ (i : Int) := by omega
  have HF0 : Hid (Fr (fun _ => False) w (w.alloc (.cells #[.int .i64 0, .int .i64 0, .slice none 0 0] 233))) := (Fr.refl _ w).alloc _
  have hb := heap_alloc_new w (.cells #[.int .i64 0, .int .i64 0, .slice none 0 0] 233)
  have hA := h.frF HF0.out
  go_enter Tryz.func180, Tryz.ntmps180
  go_upto_region 1 with fail
  generalize w.alloc (.cells #[.int .i64 0, .int .i64 0, .slice none 0 0] 233) = wa at *
  obtain ⟨gI, cI, hvI, -, -⟩ := hA.wi.form (by omega)
  have how := hA.wi
  rw [hvI] at how
  have d0 : wa.cell? ⟨gI, i * 2, none⟩ = some (.int .i64 f) := by have e := how.cellAt (i * 2 + 0) (by omega); rw [flat_get (fun p : Int × Int => [.int .i64 p.1, .int .i64 p.2]) 2 (fun _ => rfl) x.wires i 0 hil (by omega), hie] at e; exact e
  have d1 : wa.cell? ⟨gI, i * 2 + 1, none⟩ = some (.int .i64 t) := by rw [how.cellAt (i * 2 + 1) (by omega), flat_get (fun p : Int × Int => [.int .i64 p.1, .int .i64 p.2]) 2 (fun _ => rfl) x.wires i 1 hil (by omega), hie]; rfl
  have kI : wa.cell? ⟨x.X, 5, none⟩ = some (.slice (some ⟨gI, 0, none⟩) x.wires.length cI) := by rw [← hvI]; exact row_cell hA.hx _
  have kW : wa.cell? ⟨x.X, 4, none⟩ = some (.slice (some ⟨x.gK, 0, none⟩) x.regs.length x.cK) := row_cell hA.hx _
  have kM : wa.cell? ⟨x.X, 0, none⟩ = some (.slice (some ⟨x.M, 0, none⟩) x.n x.n) := row_cell hA.hx _
  have z0 : wa.cell? ⟨w.heap.size, 0, none⟩ = some (.int .i64 0) := row_cell hb 0
  have z1 : wa.cell? ⟨w.heap.size, 1, none⟩ = some (.int .i64 0) := row_cell hb 1
  have z2 : wa.cell? ⟨w.heap.size, 2, none⟩ = some (.slice none 0 0) := row_cell hb 2
  have y0 : wa.frozen? ⟨w.heap.size, 0, none⟩ = false := row_frozen hb 0
  have y1 : wa.frozen? ⟨w.heap.size, 1, none⟩ = false := row_frozen hb 1
  have y2 : wa.frozen? ⟨w.heap.size, 2, none⟩ = false := row_frozen hb 2
  have HB := hid hb
  clear h hA how hb hvI hi hie
  go_wp2_with fail
  refine (lcell_num _ _ _ hw4 (by omega)).mono ?_
  rintro e w1 ⟨rfl, rfl⟩
  have HC : Hid (16 + 16 * x.regs.length + 2 * i = cellAt x i) := rfl
  have hcb : cellAt x i + 2 ≤ x.n := by rw [← HC.out]; omega
  rw [HC.out]
  generalize hce : cellAt x i = o at *
  have HCE := hid hce
  clear hce
  have hw2 : IntKind.i64.wrap ((o : Int) + 2) = (o : Int) + 2 := by rw [IntKind.wrap_i64]; omega
  have hob : (o : Int) + 2 ≤ (x.n : Int) := by omega
  have hot : ((o : Int) + 2).toNat = o + 2 := by omega
  have ho0 : (0 : Int) ≤ (o : Int) + 2 := by omega
  have hoo : (o : Int) ≤ (o : Int) + 2 := by omega
  go_wp2_with fail
  go_region_law (fail)
  all_goals
    have HG4 := hid (three_set (show w1.drew.heap[w.heap.size]? = _ from HB.out) (.int .i64 f) (.int .i64 t) (.slice (some ⟨x.M, o, none⟩) 2 (x.n - o)))
    have HF4 := hid ((((HF0.out.drew).setCell (p := ⟨w.heap.size, 0, none⟩) (.inr (Nat.le_refl _)) (.int .i64 f)).setCell (p := ⟨w.heap.size, 1, none⟩) (.inr (Nat.le_refl _)) (.int .i64 t)).setCell (p := ⟨w.heap.size, 2, none⟩) (.inr (Nat.le_refl _)) (.slice (some ⟨x.M, o, none⟩) 2 (x.n - o)))
    clear z0 z1 z2 y0 y1 y2 kI kW kM d0 d1
    go_wp2_with fail
    refine bodyPost_ret (v := .tuple #[.agg #[.int .i64 f, .int .i64 t, .slice (some ⟨x.M, o, none⟩) 2 (x.n - o)], .bool true]) ?_ rfl ⟨by rw [HCE.out], HF4.out⟩
    exact results_cell_tmp (fn := Tryz.f180) rfl _ _ w.heap.size _ _ (0, 0) rfl HG4.out Tryz.underlying233 rfl (by kernel_rfl) _ rfl

end Go.Proofs.YthmcheoehcmglaaGreat
