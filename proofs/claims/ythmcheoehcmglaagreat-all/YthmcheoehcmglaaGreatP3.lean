/- The processor: the table of codes. -/
import Derived.Test.YthmcheoehcmglaaGreatP2
import Derived.Test.YthmcheoehcmglaaGreatR0
namespace Go.Proofs.YthmcheoehcmglaaGreat
open Go.RowKit
set_option linter.unusedVariables false
attribute [local go_sem ↓] Go.wp_at_zero Go.wp_at_succ

theorem heap_alloc_old (w : World) (A B : Obj) : ((w.alloc A).alloc B).heap[w.heap.size]? = some A := get_alloc (heap_alloc_new w A) B
/-- The codes: what does each, and how long. -/
def codeL : List (Nat × Nat) := [(126, 1), (127, 1), (128, 1), (129, 1), (130, 1), (131, 3), (132, 5), (133, 1), (134, 1), (135, 1), (136, 1), (137, 1), (138, 2), (139, 2), (140, 1), (141, 1), (142, 1), (143, 4)]
def fnV (f : Nat) : Value := .func (Fn.func f) #[] #[]
def rowV (p : Nat × Nat) : List Value := [fnV p.1, .int .i64 p.2]
def tabL : List Value := [.nilFunc, .int .i64 0] ++ codeL.flatMap rowV
theorem tab_one : tabL.toArray.all (·.oneCell') = true := by
  simp only [List.all_toArray]
  rfl
theorem tab_at (code f cyc : Nat) (h : codeL[code]? = some (f, cyc)) : tabL[(code + 1) * 2]? = some (fnV f) ∧ tabL[(code + 1) * 2 + 1]? = some (.int .i64 cyc) := by
  have hk : code < 18 := (List.getElem?_eq_some_iff.1 h).1
  match code, hk with
  | 0, _ => cases h; exact ⟨rfl, rfl⟩
  | 1, _ => cases h; exact ⟨rfl, rfl⟩
  | 2, _ => cases h; exact ⟨rfl, rfl⟩
  | 3, _ => cases h; exact ⟨rfl, rfl⟩
  | 4, _ => cases h; exact ⟨rfl, rfl⟩
  | 5, _ => cases h; exact ⟨rfl, rfl⟩
  | 6, _ => cases h; exact ⟨rfl, rfl⟩
  | 7, _ => cases h; exact ⟨rfl, rfl⟩
  | 8, _ => cases h; exact ⟨rfl, rfl⟩
  | 9, _ => cases h; exact ⟨rfl, rfl⟩
  | 10, _ => cases h; exact ⟨rfl, rfl⟩
  | 11, _ => cases h; exact ⟨rfl, rfl⟩
  | 12, _ => cases h; exact ⟨rfl, rfl⟩
  | 13, _ => cases h; exact ⟨rfl, rfl⟩
  | 14, _ => cases h; exact ⟨rfl, rfl⟩
  | 15, _ => cases h; exact ⟨rfl, rfl⟩
  | 16, _ => cases h; exact ⟨rfl, rfl⟩
  | 17, _ => cases h; exact ⟨rfl, rfl⟩

theorem row_one (f cyc : Nat) : (#[.func (Fn.func f) #[] #[], .int .i64 cyc] : Array Value).all (·.oneCell') = true := by
  show ([.func (Fn.func f) #[] #[], .int .i64 cyc] : List Value).toArray.all (·.oneCell') = true
  rw [List.all_toArray]
  rfl
theorem nil_one : (#[.nilFunc, .int .i64 0] : Array Value).all (·.oneCell') = true := by
  show ([.nilFunc, .int .i64 0] : List Value).toArray.all (·.oneCell') = true
  rw [List.all_toArray]
  rfl
theorem fn_nil (f : Nat) (w : World) : (binOp .eql 199 (.func (Fn.func f) #[] #[]) .nilFunc).run Tryz.prog w = .ok (.bool false) w := by
  have h : (Op.equalIn (9999 + 1) 199 (.func (Fn.func f) #[] #[]) .nilFunc).run Tryz.prog w = .ok false w := by
    unfold Op.equalIn
    simp only [Sem.run_bind, run_underlying Tryz.underlying199, Result.andThen_ok]
    rfl
  unfold binOp
  simp only [Op.equal, Op.maxDepth, Sem.run_bind, h, Result.andThen_ok, Sem.run_pure]
theorem nil_nil (w : World) : (binOp .eql 199 .nilFunc .nilFunc).run Tryz.prog w = .ok (.bool true) w := by
  have h : (Op.equalIn (9999 + 1) 199 .nilFunc .nilFunc).run Tryz.prog w = .ok true w := by
    unfold Op.equalIn
    simp only [Sem.run_bind, run_underlying Tryz.underlying199, Result.andThen_ok]
    rfl
  unfold binOp
  simp only [Op.equal, Op.maxDepth, Sem.run_bind, h, Result.andThen_ok, Sem.run_pure]
attribute [local go_sem] fn_nil nil_nil

set_option maxRecDepth 100000 in
set_option maxHeartbeats 4000000 in
theorem find_yes (w : World) (code f cyc : Nat) (h : codeL[code]? = some (f, cyc)) :
    Calls Tryz.prog 119 #[.int .i64 ((code : Int) + 1)] w fun e w' => e = .returned (.tuple #[.agg #[fnV f, .int .i64 cyc], .bool true]) ∧ Fr (fun _ => False) w w' := by
  have hk : code < 18 := (List.getElem?_eq_some_iff.1 h).1
  have HT := hid (tab_at code f cyc h)
  obtain ⟨c, hc⟩ : ∃ c : Nat, c = code + 1 := ⟨_, rfl⟩
  have hci : (code : Int) + 1 = (c : Int) := by omega
  have hc1 : 1 ≤ c := by omega
  have hc2 : (c : Int) < 19 := by omega
  have hc3 : ¬ (19 : Int) ≤ (c : Int) := by omega
  rw [hci]
  rw [← hc] at HT
  clear h hk hci hc code
  go_enter Tryz.func119, Tryz.ntmps119
  go_wp2_with (first
    | (refine wpList_storeRow ?_ 206 (.tmp 4) (.tmp 23) ?_ (w.heap.size + 1) 206 _ tabL.toArray ?_ ?_ (heap_alloc2_new w _ _) ?_ ?_ tab_one ?_; rfl; rfl; rfl; rfl; kernel_rfl; rfl; intro w3 g3 hf3; have HG3 := hid g3; have HF3 := hid hf3; have t0 : w3.cell? ⟨w.heap.size + 1, c * 2, none⟩ = some (.func (Fn.func f) #[] #[]) := (row_cell g3 _).trans (by rw [List.getElem?_toArray]; exact HT.out.1); have t1 : w3.cell? ⟨w.heap.size + 1, c * 2 + 1, none⟩ = some (.int .i64 cyc) := (row_cell g3 _).trans (by rw [List.getElem?_toArray]; exact HT.out.2); have HR3 := hid (hf3.get1 (heap_alloc_old w _ _) (by omega)); clear g3 hf3)
    | (refine wpList_storeRow ?_ 201 (.tmp 2) (.tmp 36) ?_ w.heap.size 201 _ #[.func (Fn.func f) #[] #[], .int .i64 cyc] ?_ ?_ HR3.out ?_ ?_ (row_one f cyc) ?_; rfl; rfl; rfl; rfl; kernel_rfl; rfl; intro w4 g4 hf4; have HG4 := hid g4; have HF4 := hid hf4; clear g4 hf4))
  refine bodyPost_ret (v := .tuple #[.agg #[.func (Fn.func f) #[] #[], .int .i64 cyc], .bool true]) ?_ rfl ⟨rfl, ?_⟩
  · exact results_cell_tmp (fn := Tryz.f119) rfl _ w4 w.heap.size _ _ (0, 0) rfl HG4.out Tryz.underlying201 rfl (by kernel_rfl) _ rfl
  · exact ((((Fr.refl _ w).alloc _).alloc _).step HF3.out (fun i hi => .inr (by omega))).step HF4.out (fun i hi => .inr (by omega))

set_option maxRecDepth 100000 in
set_option maxHeartbeats 4000000 in
theorem find_no (w : World) (c : Nat) (h : c = 0 ∨ 19 ≤ c) (hb : c ≤ 255) :
    Calls Tryz.prog 119 #[.int .i64 c] w fun e w' => e = .returned (.tuple #[.agg #[.nilFunc, .int .i64 0], .bool false]) ∧ Fr (fun _ => False) w w' := by
  by_cases h0 : c = 0
  · subst h0
    clear h hb
    go_enter Tryz.func119, Tryz.ntmps119
    go_wp2_with (first
      | (refine wpList_storeRow ?_ 206 (.tmp 4) (.tmp 23) ?_ (w.heap.size + 1) 206 _ tabL.toArray ?_ ?_ (heap_alloc2_new w _ _) ?_ ?_ tab_one ?_; rfl; rfl; rfl; rfl; kernel_rfl; rfl; intro w3 g3 hf3; have HG3 := hid g3; have HF3 := hid hf3; have t0 : w3.cell? ⟨w.heap.size + 1, 0, none⟩ = some .nilFunc := row_cell g3 _; have HR3 := hid (hf3.get1 (heap_alloc_old w _ _) (by omega)); clear g3 hf3)
      | (refine wpList_storeRow ?_ 201 (.tmp 2) (.tmp 33) ?_ w.heap.size 201 _ #[.nilFunc, .int .i64 0] ?_ ?_ HR3.out ?_ ?_ nil_one ?_; rfl; rfl; rfl; rfl; kernel_rfl; rfl; intro w4 g4 hf4; have HG4 := hid g4; have HF4 := hid hf4; clear g4 hf4))
    refine bodyPost_ret (v := .tuple #[.agg #[.nilFunc, .int .i64 0], .bool false]) ?_ rfl ⟨rfl, ?_⟩
    · exact results_cell_tmp (fn := Tryz.f119) rfl _ w4 w.heap.size _ _ (0, 0) rfl HG4.out Tryz.underlying201 rfl (by kernel_rfl) _ rfl
    · exact ((((Fr.refl _ w).alloc _).alloc _).step HF3.out (fun i hi => .inr (by omega))).step HF4.out (fun i hi => .inr (by omega))
  · have hc : (19 : Int) ≤ (c : Int) := by omega
    clear h
    go_enter Tryz.func119, Tryz.ntmps119
    go_wp2_with (first
      | (refine wpList_storeRow ?_ 206 (.tmp 4) (.tmp 23) ?_ (w.heap.size + 1) 206 _ tabL.toArray ?_ ?_ (heap_alloc2_new w _ _) ?_ ?_ tab_one ?_; rfl; rfl; rfl; rfl; kernel_rfl; rfl; intro w3 g3 hf3; have HG3 := hid g3; have HF3 := hid hf3; have HR3 := hid (hf3.get1 (heap_alloc_old w _ _) (by omega)); clear g3 hf3)
      | (refine wpList_storeRow ?_ 201 (.tmp 2) (.tmp 33) ?_ w.heap.size 201 _ #[.nilFunc, .int .i64 0] ?_ ?_ HR3.out ?_ ?_ nil_one ?_; rfl; rfl; rfl; rfl; kernel_rfl; rfl; intro w4 g4 hf4; have HG4 := hid g4; have HF4 := hid hf4; clear g4 hf4))
    refine bodyPost_ret (v := .tuple #[.agg #[.nilFunc, .int .i64 0], .bool false]) ?_ rfl ⟨rfl, ?_⟩
    · exact results_cell_tmp (fn := Tryz.f119) rfl _ w4 w.heap.size _ _ (0, 0) rfl HG4.out Tryz.underlying201 rfl (by kernel_rfl) _ rfl
    · exact ((((Fr.refl _ w).alloc _).alloc _).step HF3.out (fun i hi => .inr (by omega))).step HF4.out (fun i hi => .inr (by omega))

end Go.Proofs.YthmcheoehcmglaaGreat
