/- The statements' own functions: word, view. -/
import Derived.Test.YthmcheoehcmglaaGreatL0
import Derived.Test.YthmcheoehcmglaaGreatF6
namespace Go.Proofs.YthmcheoehcmglaaGreat
open Go.RowKit
set_option linter.unusedVariables false
attribute [local go_sem ↓] Go.wp_at_zero Go.wp_at_succ

/-- A kernel and a net, and a pair of them. -/
def PairAt (w : World) (P X Y : Nat) : Prop := w.heap[P]? = some (.cells #[.pointer (some ⟨X, 0, none⟩), .pointer (some ⟨Y, 0, none⟩)] 83 (0, 0))
theorem PairAt.fr {w w' : World} {P X Y : Nat} (h : PairAt w P X Y) (hf : Fr (fun _ => False) w w') : PairAt w' P X Y := hf.get h id

theorem KerAt.bdAt {w : World} {X M n : Nat} {mem : List Int} {ck : Int} {ks : List (StV × Value)} {vK : Value} (h : KerAt w X M n mem ck ks vK) (i : Nat) : 0 ≤ mem.getD i 0 ∧ mem.getD i 0 < 4294967296 := by
  rw [List.getD_eq_getElem?_getD]
  cases hv : mem[i]? with
  | none => simp
  | some v => exact h.mb v (List.mem_of_getElem? hv)

/-- The cells of a block; is it one of this type and size? -/
def rowOf (w : World) (b : Nat) : Array Value := match w.heap[b]? with | some (.cells cs _ _) => cs | _ => #[]
def rowIs (w : World) (b t n : Nat) : Bool := match w.heap[b]? with | some (.cells cs t' fr) => t' == t && fr == (0, 0) && cs.size == n | _ => false
theorem rowIs_of {w : World} {b t n : Nat} {cs : Array Value} (h : w.heap[b]? = some (.cells cs t (0, 0))) (hs : cs.size = n) : rowIs w b t n = true := by unfold rowIs; rw [h]; simp [hs]
theorem rowOf_of {w : World} {b t : Nat} {cs : Array Value} (h : w.heap[b]? = some (.cells cs t (0, 0))) : rowOf w b = cs := by unfold rowOf; rw [h]
theorem load_rowOf (P : Program) (w : World) (b t n : Nat) {d : TypeDesc} (hu : P.underlying t = some d) (hd : (match d with | .struct _ | .array _ _ => true | _ => false) = true) (hi : (P.info? t).map (·.size) = some n) (h : rowIs w b t n = true) : (loadVar t ⟨b, 0, none⟩).run P w = .ok (.agg (rowOf w b)) w := by
  unfold rowIs at h
  unfold rowOf
  cases hb : w.heap[b]? with
  | none => simp [hb] at h
  | some o =>
    cases o with
    | cells cs t' fr =>
      simp only [hb, Bool.and_eq_true, beq_iff_eq] at h
      obtain ⟨⟨rfl, rfl⟩, hs⟩ := h
      exact run_loadVar_row w b _ _ cs (0, 0) d hb hu hd (by rw [hi, hs])
    | _ => simp [hb] at h
def viewLoad (v : Value) : Sem Value := Instr.loadAt 48 v
theorem viewLoad_fold (v : Value) : Instr.loadAt 48 v = viewLoad v := rfl
theorem viewLoad_run (w : World) (b : Nat) (h : rowIs w b 48 13 = true) : (viewLoad (.pointer (some ⟨b, 0, none⟩))).run Tryz.prog w = .ok (.agg (rowOf w b)) w := by
  unfold viewLoad
  simp only [Instr.loadAt, Instr.sureAddr, Sem.run_bind, Sem.run_pure, Result.andThen_ok, load_rowOf Tryz.prog w b 48 13 Tryz.underlying48 rfl (by kernel_rfl) h]
def stLoad (v : Value) : Sem Value := Instr.loadAt 128 v
theorem stLoad_fold (v : Value) : Instr.loadAt 128 v = stLoad v := rfl
theorem stLoad_run (w : World) (b : Nat) (h : rowIs w b 128 13 = true) : (stLoad (.pointer (some ⟨b, 0, none⟩))).run Tryz.prog w = .ok (.agg (rowOf w b)) w := by
  unfold stLoad
  simp only [Instr.loadAt, Instr.sureAddr, Sem.run_bind, Sem.run_pure, Result.andThen_ok, load_rowOf Tryz.prog w b 128 13 Tryz.underlying128 rfl (by kernel_rfl) h]

set_option maxRecDepth 100000 in
set_option maxHeartbeats 2000000 in
theorem pword_any (w : World) (P X Y M n : Nat) (mem : List Int) (gap ck tv : Int) (ks : List (StV × Value)) (vK : Value) (rws : List RWard) (wi : List (Int × Int × Int × Int)) (vW vI vD : Value) (nd : Nat) (hp : PairAt w P X Y) (hk : KerAt w X M n mem ck ks vK) (hn : NetAt w Y gap n ck rws wi vW vI vD nd)
    (hr : RegsOk rws wi.length) (hm : n ≤ 1024) (hk0 : 0 ≤ ck) (hT : Calls Tryz.prog 107 #[.pointer (some ⟨Y, 0, none⟩)] w fun e w' => e = .returned (.int .i64 tv) ∧ w' = w)
    (hw : ∀ a : Nat, a < n → mem.getD a 0 = rwordV tv ck rws wi a) (a : Int) :
    Calls Tryz.prog 57 #[.pointer (some ⟨P, 0, none⟩), .int .i64 a] w fun e w' => e = .returned (.bool true) ∧ Fr (fun _ => False) w w' := by
  have HK := hid hk
  have HN := hid hn
  have HR := hid hr
  have HT := hid hT
  have HW := hid hw
  have c0 : w.cell? ⟨P, 0, none⟩ = some (.pointer (some ⟨X, 0, none⟩)) := row_cell hp 0
  have c1 : w.cell? ⟨P, 1, none⟩ = some (.pointer (some ⟨Y, 0, none⟩)) := row_cell hp 1
  clear hp hk hn hr hT hw
  by_cases ha : 0 ≤ a ∧ a < (n : Int)
  · obtain ⟨i, rfl⟩ := Int.eq_ofNat_of_zero_le ha.1
    have hi : i < n := by omega
    have hv : 0 ≤ mem.getD i 0 ∧ mem.getD i 0 < 4294967296 := HK.out.bdAt i
    have HV := hid (HW.out i hi)
    go_enter Tryz.func57, Tryz.ntmps57
    go_wp2_with fail
    refine (word_any w X M n mem ck ks vK i HK.out).mono ?_
    rw [if_pos ha, if_pos ha, Int.toNat_natCast]
    generalize mem.getD i 0 = v at *
    rintro e w1 ⟨rfl, rfl⟩
    go_wp2_with fail
    refine (rword_any w1 Y gap n ck tv rws wi vW vI vD nd HN.out HR.out (by omega) hk0 HT.out i (by omega)).mono ?_
    rw [← HV.out]
    rintro e w2 ⟨rfl, hf2⟩
    have HF := hid hf2
    clear hf2
    obtain ⟨hv0, hv1⟩ := hv
    go_wp2_with fail
    refine (num_any _ _).mono ?_
    rintro e w3 ⟨rfl, rfl⟩
    go_wp2_with fail
    go_ret
    exact ⟨rfl, HF.out⟩
  · go_enter Tryz.func57, Tryz.ntmps57
    go_wp2_with fail
    refine (word_any w X M n mem ck ks vK a HK.out).mono ?_
    rw [if_neg ha, if_neg ha]
    rintro e w1 ⟨rfl, rfl⟩
    go_wp2_with fail
    refine (rword_no w1 Y gap n ck rws wi vW vI vD nd HN.out a ha).mono ?_
    rintro e w2 ⟨rfl, hf2⟩
    have HF := hid hf2
    clear hf2 ha
    go_wp2_with fail
    refine (num_any _ _).mono ?_
    rintro e w3 ⟨rfl, rfl⟩
    go_wp2_with fail
    go_ret
    exact ⟨rfl, HF.out⟩

attribute [local go_sem ↓] viewLoad_fold stLoad_fold
attribute [local go_sem] viewLoad_run stLoad_run eq8i eq8u
set_option maxRecDepth 100000 in
set_option maxHeartbeats 4000000 in
theorem pview_of (w : World) (P X Y : Nat) (s : StV) (hs : StW s) (k ec : Int) (hp : PairAt w P X Y)
    (h1 : Calls Tryz.prog 23 #[.pointer (some ⟨X, 0, none⟩), .int .i64 k] w fun e w' => e = .returned (.tuple #[.agg (stCells s).toArray, .int .i64 ec]) ∧ Fr (fun _ => False) w w')
    (h2 : ∀ w1, Fr (fun _ => False) w w1 → Calls Tryz.prog 83 #[.pointer (some ⟨Y, 0, none⟩), .int .i64 k] w1 fun e w' => e = .returned (.tuple #[.agg (stI s).toArray, .int .i64 ec]) ∧ Fr (fun _ => False) w1 w') :
    Calls Tryz.prog 58 #[.pointer (some ⟨P, 0, none⟩), .int .i64 k] w fun e w' => e = .returned (.bool true) ∧ Fr (fun _ => False) w w' := by
  have HS := hid hs
  have HP := hid hp
  have H1 := hid h1
  have H2 := hid h2
  have c0 : w.cell? ⟨P, 0, none⟩ = some (.pointer (some ⟨X, 0, none⟩)) := row_cell hp 0
  obtain ⟨r0, r1, r2, r3, r4, r5, r6, r7, hr⟩ := st13 _ hs.l
  have HC : Hid ((stCells s).toArray = #[.int .u32 r0, .int .u32 r1, .int .u32 r2, .int .u32 r3, .int .u32 r4, .int .u32 r5, .int .u32 r6, .int .u32 r7, .int .u32 s.place, .int .i64 s.status, .int .i64 s.cause, .int .i64 s.busy, .bool s.y]) := by unfold stCells Hid; rw [hr]; rfl
  have HI : Hid ((stI s).toArray = #[.int .i64 r0, .int .i64 r1, .int .i64 r2, .int .i64 r3, .int .i64 r4, .int .i64 r5, .int .i64 r6, .int .i64 r7, .int .i64 s.place, .int .i64 s.status, .int .i64 s.cause, .int .i64 s.busy, .bool s.y]) := by unfold stI Hid; rw [hr]; rfl
  have HSC : Hid ((stCells s).toArray.size = 13) := by unfold Hid; rw [HC.out]; rfl
  have HSI : Hid ((stI s).toArray.size = 13) := by unfold Hid; rw [HI.out]; rfl
  have HOC : Hid ((stCells s).toArray.all (·.oneCell') = true) := by unfold Hid; rw [HC.out]; simp only [List.all_toArray, List.all_cons, List.all_nil]; rfl
  have HOI : Hid ((stI s).toArray.all (·.oneCell') = true) := by unfold Hid; rw [HI.out]; simp only [List.all_toArray, List.all_cons, List.all_nil]; rfl
  clear hp hs h1 h2 hr
  go_enter Tryz.func58, Tryz.ntmps58
  go_wp2_with fail
  refine H1.out.mono ?_
  rintro e w1 ⟨rfl, hf1⟩
  have HF1 := hid hf1
  clear hf1 c0
  go_wp2_with (first
    | (refine wpList_storeRow ?_ 48 (.tmp 5) (.tmp 16) ?_ w1.heap.size 48 _ (stCells s).toArray ?_ ?_ (heap_alloc_new w1 _) ?_ ?_ HOC.out ?_; rfl; rfl; rfl; rfl; (rw [HSC.out]; kernel_rfl); (rw [HSC.out]; rfl); intro w3 g3 hf3; have HG3 := hid g3; have HF3 := hid (((Fr.refl (fun _ => False) w1).alloc _).step hf3 (fun i hi => .inr (by rw [hi]; exact Nat.le_refl _))); clear g3 hf3; have c1 : w3.cell? ⟨P, 1, none⟩ = some (.pointer (some ⟨Y, 0, none⟩)) := row_cell (HP.out.fr (HF1.out.step HF3.out (fun _ h => .inl h))) 1))
  refine (H2.out w3 (HF1.out.step HF3.out (fun _ h => .inl h))).mono ?_
  rintro e w4 ⟨rfl, hf4⟩
  have HG4 := hid (hf4.get HG3.out id)
  have HF4 := hid ((HF1.out.step HF3.out (fun _ h => .inl h)).step hf4 (fun _ h => .inl h))
  have HW4 := hid (Nat.lt_of_lt_of_le (lt_of_get HG3.out) hf4.size)
  generalize w1.heap.size = B at *
  clear hf4 HG3 HF3 HF1 c1 H1 H2
  go_wp2_with (first
    | (refine wpList_storeRow ?_ 128 (.tmp 7) (.tmp 25) ?_ w4.heap.size 128 _ (stI s).toArray ?_ ?_ (heap_alloc_new w4 _) ?_ ?_ HOI.out ?_; rfl; rfl; rfl; rfl; (rw [HSI.out]; kernel_rfl); (rw [HSI.out]; rfl); intro w5 g5 hf5; have HG5 := hid g5; have HF5 := hid (((Fr.refl (fun _ => False) w4).alloc _).step hf5 (fun i hi => .inr (by rw [hi]; exact Nat.le_refl _))); clear g5 hf5))
  have HGV := hid (HF5.out.get HG4.out id)
  have HF6 := hid (HF4.out.step HF5.out (fun _ h => .inl h))
  generalize w4.heap.size = C at *
  clear HG4 HF4 HF5 HW4
  have hV1 : rowIs w5.drew B 48 13 = true := rowIs_of HGV.out HSC.out
  have hV2 : rowOf w5.drew B = (stCells s).toArray := rowOf_of (t := 48) HGV.out
  have hS1 : rowIs w5.drew C 128 13 = true := rowIs_of HG5.out HSI.out
  have hS2 : rowOf w5.drew C = #[.int .i64 r0, .int .i64 r1, .int .i64 r2, .int .i64 r3, .int .i64 r4, .int .i64 r5, .int .i64 r6, .int .i64 r7, .int .i64 s.place, .int .i64 s.status, .int .i64 s.cause, .int .i64 s.busy, .bool s.y] := by rw [← HI.out]; exact rowOf_of (t := 128) HG5.out
  have HST : Hid (∀ wz, Calls Tryz.prog 84 #[.agg (stCells s).toArray] wz fun e w' => e = .returned (.agg #[.int .i64 r0, .int .i64 r1, .int .i64 r2, .int .i64 r3, .int .i64 r4, .int .i64 r5, .int .i64 r6, .int .i64 r7, .int .i64 s.place, .int .i64 s.status, .int .i64 s.cause, .int .i64 s.busy, .bool s.y]) ∧ Fr (fun _ => False) wz w') := fun wz => by rw [← HI.out]; exact state_any wz s HS.out
  have HGS := hid (show w5.drew.heap[C]? = _ from HG5.out)
  go_region_law
    (first
      | (refine step_call Tryz.func84 (by kernel_rfl) (by kernel_rfl) (by rfl) (by rfl) [.agg (stCells s).toArray] (by rfl) ((HST.out _).mono ?_); rintro e w6 ⟨rfl, hf6⟩; refine ⟨_, rfl, ?_⟩; have hS61 : rowIs w6 C 128 13 = true := rowIs_of (hf6.get HGS.out id) HSI.out; have hS62 : rowOf w6 C = #[.int .i64 r0, .int .i64 r1, .int .i64 r2, .int .i64 r3, .int .i64 r4, .int .i64 r5, .int .i64 r6, .int .i64 r7, .int .i64 s.place, .int .i64 s.status, .int .i64 s.cause, .int .i64 s.busy, .bool s.y] := (rowOf_of (t := 128) (hf6.get HGS.out id)).trans HI.out)
      | (refine step_callW Tryz.func38 (by kernel_rfl) (by kernel_rfl) (by rfl) (by rfl) [.int .i64 ec] (by rfl) ((num_any ec _).mono ?_); rintro e w7 ⟨rfl, rfl⟩; refine ⟨_, rfl, ?_⟩))
  all_goals
    have HF7 := hid (HF6.out.drew.step hf6 (fun _ h => .inl h))
    go_wp2_with fail
    go_ret
    exact ⟨rfl, HF7.out⟩

end Go.Proofs.YthmcheoehcmglaaGreat
