/- The processor: the instruction at the place. -/
import Derived.Test.YthmcheoehcmglaaGreatP6
namespace Go.Proofs.YthmcheoehcmglaaGreat
open Go.RowKit
set_option linter.unusedVariables false
attribute [local go_sem ↓] Go.wp_at_zero Go.wp_at_succ

/-- The instruction at the place: the cause, the state, what it reached. -/
def instrM {σ : Type} (O : Ops σ) (s : StV) (m : σ) : Int × StV × σ :=
  match O.fetch m s.place with
  | none => (3, s, m)
  | some v =>
    match codeL[(v / 16777216).toNat - 1]? with
    | none => (1, s, m)
    | some (_, cyc) =>
      if (v / 16777216).toNat = 0 then (1, s, m) else
      let r := workM O ((v / 16777216).toNat - 1) (v / 1048576 % 8).toNat (v / 65536 % 8).toNat (v % 65536) { s with place := (s.place + 1) % 4294967296 } m
      if r.1 = 0 then (0, (if goes r.2.1 then { r.2.1 with busy := (cyc : Int) - 1 } else r.2.1), r.2.2) else r

theorem code_fn (code f cyc : Nat) (h : codeL[code]? = some (f, cyc)) : ∃ fn, Tryz.prog.funcs[f]? = some fn ∧ (fn.name == "runtime.NumGoroutine") = false ∧ fn.body.isNone = false := by
  have hk : code < 18 := (List.getElem?_eq_some_iff.1 h).1
  match code, hk with
  | 0, _ => cases h; exact ⟨_, Tryz.func126, by kernel_rfl, by kernel_rfl⟩
  | 1, _ => cases h; exact ⟨_, Tryz.func127, by kernel_rfl, by kernel_rfl⟩
  | 2, _ => cases h; exact ⟨_, Tryz.func128, by kernel_rfl, by kernel_rfl⟩
  | 3, _ => cases h; exact ⟨_, Tryz.func129, by kernel_rfl, by kernel_rfl⟩
  | 4, _ => cases h; exact ⟨_, Tryz.func130, by kernel_rfl, by kernel_rfl⟩
  | 5, _ => cases h; exact ⟨_, Tryz.func131, by kernel_rfl, by kernel_rfl⟩
  | 6, _ => cases h; exact ⟨_, Tryz.func132, by kernel_rfl, by kernel_rfl⟩
  | 7, _ => cases h; exact ⟨_, Tryz.func133, by kernel_rfl, by kernel_rfl⟩
  | 8, _ => cases h; exact ⟨_, Tryz.func134, by kernel_rfl, by kernel_rfl⟩
  | 9, _ => cases h; exact ⟨_, Tryz.func135, by kernel_rfl, by kernel_rfl⟩
  | 10, _ => cases h; exact ⟨_, Tryz.func136, by kernel_rfl, by kernel_rfl⟩
  | 11, _ => cases h; exact ⟨_, Tryz.func137, by kernel_rfl, by kernel_rfl⟩
  | 12, _ => cases h; exact ⟨_, Tryz.func138, by kernel_rfl, by kernel_rfl⟩
  | 13, _ => cases h; exact ⟨_, Tryz.func139, by kernel_rfl, by kernel_rfl⟩
  | 14, _ => cases h; exact ⟨_, Tryz.func140, by kernel_rfl, by kernel_rfl⟩
  | 15, _ => cases h; exact ⟨_, Tryz.func141, by kernel_rfl, by kernel_rfl⟩
  | 16, _ => cases h; exact ⟨_, Tryz.func142, by kernel_rfl, by kernel_rfl⟩
  | 17, _ => cases h; exact ⟨_, Tryz.func143, by kernel_rfl, by kernel_rfl⟩

theorem work_ins (s : StV) (h8 : s.regs.length = 8) (c a b n c' a' b' n' : Int) (o : Value) : splice (workCells s c a b n o) 13 [.int .i64 c', .int .i64 a', .int .i64 b', .int .u32 n'] = workCells s c' a' b' n' o := by
  obtain ⟨r0, r1, r2, r3, r4, r5, r6, r7, hr⟩ := st13 _ h8
  unfold workCells stCells
  rw [hr]
  rfl
theorem WorkAt.setBusy {w : World} {B : Nat} {s : StV} {c a b n : Int} {o : Value} (h : WorkAt w B s c a b n o) (h8 : s.regs.length = 8) (v : Int) : WorkAt (w.setCell ⟨B, 11, none⟩ (.int .i64 v)) B { s with busy := v } c a b n o := by
  unfold WorkAt at h ⊢
  obtain ⟨r0, r1, r2, r3, r4, r5, r6, r7, hr, hc⟩ := work_lit s h8 c a b n o
  have hc2 : workCells { s with busy := v } c a b n o = [.int .u32 r0, .int .u32 r1, .int .u32 r2, .int .u32 r3, .int .u32 r4, .int .u32 r5, .int .u32 r6, .int .u32 r7, .int .u32 s.place, .int .i64 s.status, .int .i64 s.cause, .int .i64 v, .bool s.y, .int .i64 c, .int .i64 a, .int .i64 b, .int .u32 n, o] := by unfold workCells stCells; simp only [hr]; rfl
  rw [row_set h, hc, hc2]
  rfl
theorem ins_one (c a b n : Int) : ([.int .i64 c, .int .i64 a, .int .i64 b, .int .u32 n] : List Value).toArray.all (·.oneCell') = true := by
  rw [List.all_toArray]
  rfl
theorem Fr.toS {S : Nat → Prop} {w w' : World} (h : Fr (fun _ => False) w w') : Fr S w w' := h.mono (fun _ h => h.elim)

theorem code_cyc (code f cyc : Nat) (h : codeL[code]? = some (f, cyc)) : 1 ≤ cyc ∧ cyc ≤ 5 := by
  have hk : code < 18 := (List.getElem?_eq_some_iff.1 h).1
  match code, hk with
  | 0, _ => cases h; decide
  | 1, _ => cases h; decide
  | 2, _ => cases h; decide
  | 3, _ => cases h; decide
  | 4, _ => cases h; decide
  | 5, _ => cases h; decide
  | 6, _ => cases h; decide
  | 7, _ => cases h; decide
  | 8, _ => cases h; decide
  | 9, _ => cases h; decide
  | 10, _ => cases h; decide
  | 11, _ => cases h; decide
  | 12, _ => cases h; decide
  | 13, _ => cases h; decide
  | 14, _ => cases h; decide
  | 15, _ => cases h; decide
  | 16, _ => cases h; decide
  | 17, _ => cases h; decide

theorem StB.set {s : StV} (h : StB s) (a : Nat) (v : Int) (v0 : 0 ≤ v) (v1 : v < 4294967296) : StB { s with regs := s.regs.set a v } := by
  refine ⟨by simp [h.l], ?_, h.p0, h.p1, h.s0, h.s1, h.c0, h.c1, h.b0, h.b1⟩
  intro r hr
  rcases List.mem_or_eq_of_mem_set hr with h1 | h1
  · exact h.r r h1
  · rw [h1]; exact ⟨v0, v1⟩
theorem StB.place {s : StV} (h : StB s) (v : Int) (v0 : 0 ≤ v) (v1 : v < 4294967296) : StB { s with place := v } := ⟨h.l, h.r, v0, v1, h.s0, h.s1, h.c0, h.c1, h.b0, h.b1⟩
theorem StB.getD {s : StV} (h : StB s) (a : Nat) : 0 ≤ s.regs.getD a 0 ∧ s.regs.getD a 0 < 4294967296 := by
  rw [List.getD_eq_getElem?_getD]
  cases hr : s.regs[a]? with
  | none => simp
  | some r => exact h.r r (List.mem_of_getElem? hr)
theorem workM_B {σ : Type} {O : Ops σ} {rv : Value} {S W : Nat → Prop} {R Q : σ → World → Prop} (ok : OutOk O rv S W R Q) (m : σ) (w : World) (hR : R m w) (code a b : Nat) (n : Int) (n0 : 0 ≤ n) (n1 : n < 65536) (s : StV) (h : StB s) : StB (workM O code a b n s m).2.1 := by
  have hx := h.getD a
  have hy := h.getD b
  unfold workM
  generalize s.regs.getD a 0 = x at *
  generalize s.regs.getD b 0 = y at *
  have hxn : x.toNat < 2 ^ 32 := by omega
  have hyn : y.toNat < 2 ^ 32 := by omega
  have jb : ∀ t, 0 ≤ jmp t n s.place ∧ jmp t n s.place < 4294967296 := by
    intro t
    have h1 := h.p0
    have h2 := h.p1
    unfold jmp
    cases t <;> simp <;> omega
  split
  · exact h.set a _ n0 (by omega)
  · exact h.set a _ (by omega) (by omega)
  · exact h.set a _ hy.1 hy.2
  · exact h.set a _ (by omega) (by omega)
  · exact h.set a _ (by omega) (by omega)
  · exact h.set a _ (by omega) (by omega)
  · dsimp only
    split
    · exact h
    · exact h.set a _ (Int.ediv_nonneg hx.1 hy.1) (Int.lt_of_le_of_lt (Int.ediv_le_self y hx.1) hx.2)
  · have := Nat.and_lt_two_pow (n := 32) x.toNat hyn
    exact h.set a _ (by omega) (by omega)
  · have := Nat.or_lt_two_pow hxn hyn
    exact h.set a _ (by omega) (by omega)
  · have := Nat.xor_lt_two_pow hxn hyn
    exact h.set a _ (by omega) (by omega)
  · exact h.set a _ (by omega) (by omega)
  · exact h.set a _ (Int.ediv_nonneg hx.1 (Int.le_of_lt (Int.pow_pos (by omega)))) (Int.lt_of_le_of_lt (Int.ediv_le_self _ hx.1) hx.2)
  · dsimp only
    split
    · rename_i v hv
      have := ok.getB m w _ v hR hv
      exact h.set a _ this.1 this.2
    · exact h
  · dsimp only
    split
    · exact h
    · exact h
  · exact h.place _ (jb _).1 (jb _).2
  · exact h.place _ (jb _).1 (jb _).2
  · exact h.place _ (jb _).1 (jb _).2
  · exact ok.callB m w s n hR h

def InstrPost {σ : Type} (R : σ → World → Prop) (W : Nat → Prop) (B : Nat) (o : Value) (r : Int × StV × σ) (w : World) (e : Ending) (w' : World) : Prop :=
  e = .returned (.int .i64 r.1) ∧ (r.1 = 0 → ∃ c a b n, WorkAt w' B r.2.1 c a b n o) ∧ R r.2.2 w' ∧ Fr (fun i => W i ∨ i = B) w w'

set_option maxRecDepth 100000 in
set_option maxHeartbeats 4000000 in
theorem instr_any {σ : Type} {O : Ops σ} {rv : Value} {S W : Nat → Prop} {R Q : σ → World → Prop} (ok : OutOk O rv S W R Q) (w : World) (m : σ) (hR : R m w) (B : Nat) (hB : ¬ S B) (s : StV) (h : WorkAt w B s 0 0 0 0 (.iface 139 rv)) (hs : StB s) :
    Calls Tryz.prog 109 #[.pointer (some ⟨B, 0, none⟩)] w fun e w' => InstrPost Q W B (.iface 139 rv) (instrM O s m) w e w' := by
  have H := hid h
  have HOK := hid ok
  have HR := hid hR
  have HS := hid hs
  have h8 := hs.l
  have co : w.drew.cell? ⟨B, 17, none⟩ = some (.iface 139 rv) := h.at h8 9
  have cp : w.drew.cell? ⟨B, 8, none⟩ = some (.int .u32 s.place) := h.at h8 0
  have hRd : R m w.drew := ok.fr m w _ (fun _ => False) hR ⟨rfl, rfl, rfl, Nat.le_refl _, fun _ _ _ => rfl⟩ (fun _ h => h.elim)
  obtain ⟨g, hg⟩ : ∃ g, O.fetch m s.place = g := ⟨_, rfl⟩
  have HG : Hid (Calls Tryz.prog 165 #[rv, .int .u32 s.place] w.drew fun e w' => e = .returned (.tuple #[.int .u32 (g.getD 0), .bool g.isSome]) ∧ Fr (fun _ => False) w.drew w') := by rw [← hg]; exact ok.fetch m _ _ hRd hs.p0 hs.p1
  have HGE := hid hg
  clear h hR ok hg hRd hs
  cases g with
  | none =>
    have HI : Hid (instrM O s m = (3, s, m)) := by unfold Hid instrM; rw [HGE.out]
    rw [HI.out]
    go_enter Tryz.func109, Tryz.ntmps109
    go_wp2_with fail
    go_region_law
      (first
        | (refine step_invoke Tryz.func165 (by kernel_rfl) (by kernel_rfl) (by rfl) (by rfl) (by rfl) (inv_fetch rv _) [.int .u32 s.place] (by rfl) (HG.out.mono ?_); rintro e w2 ⟨rfl, hf2⟩; refine ⟨_, rfl, ?_⟩))
    all_goals
      have HF2 : Hid (Fr (fun _ => False) w w2) := ⟨hf2.os, hf2.tape, hf2.output, hf2.size, hf2.block⟩
      clear hf2 co cp
      go_wp2_with fail
      go_ret
      exact ⟨rfl, (fun h => by simp at h), HOK.out.toQ m w2 (HOK.out.fr m w w2 _ HR.out HF2.out (fun _ h => h.elim)), HF2.out.toS⟩
  | some v =>
    have hv := HOK.out.fetchB m w s.place v HR.out HGE.out
    obtain ⟨ai, hai⟩ : ∃ a : Nat, v / 1048576 % 8 = (a : Int) := ⟨(v / 1048576 % 8).toNat, by omega⟩
    obtain ⟨bi, hbi⟩ : ∃ a : Nat, v / 65536 % 8 = (a : Int) := ⟨(v / 65536 % 8).toNat, by omega⟩
    obtain ⟨ci, hci⟩ : ∃ a : Nat, v / 16777216 = (a : Int) := ⟨(v / 16777216).toNat, by omega⟩
    have ha8 : ai < 8 := by omega
    have hb8 : bi < 8 := by omega
    have hc8 : ci ≤ 255 := by omega
    have hn0 : 0 ≤ v % 65536 := by omega
    have hn1 : v % 65536 < 65536 := by omega
    have HD : Hid (∀ w1, Calls Tryz.prog 118 #[.int .u32 v] w1 fun e w' => e = .returned (.agg #[.int .i64 ci, .int .i64 ai, .int .i64 bi, .int .u32 (v % 65536)]) ∧ Fr (fun _ => False) w1 w') := fun w1 => by have := decode_any w1 v hv.1 hv.2; rw [hci, hai, hbi] at this; exact this
    have HI : Hid (instrM O s m = match codeL[ci - 1]? with
        | none => (1, s, m)
        | some (_, cyc) =>
          if ci = 0 then (1, s, m) else
          let r := workM O (ci - 1) ai bi (v % 65536) { s with place := (s.place + 1) % 4294967296 } m
          if r.1 = 0 then (0, (if goes r.2.1 then { r.2.1 with busy := (cyc : Int) - 1 } else r.2.1), r.2.2) else r) := by
      unfold Hid instrM
      rw [HGE.out]
      simp only [hci, hai, hbi, Int.toNat_natCast]
    generalize v % 65536 = nn at *
    generalize instrM O s m = r0 at *
    clear hai hbi hci HGE
    go_enter Tryz.func109, Tryz.ntmps109
    go_wp2_with fail
    go_cut [3, 4] from 7 to 21 (fun a b wx => a = .int .u32 v ∧ b = .bool true ∧ Fr (fun _ => False) w wx)
    case first =>
      go_region_law
        (first
          | (refine step_invoke Tryz.func165 (by kernel_rfl) (by kernel_rfl) (by rfl) (by rfl) (by rfl) (inv_fetch rv _) [.int .u32 s.place] (by rfl) (HG.out.mono ?_); rintro e w2 ⟨rfl, hf2⟩; refine ⟨_, rfl, ?_⟩))
      all_goals
        have HF2 : Hid (Fr (fun _ => False) w w2) := ⟨hf2.os, hf2.tape, hf2.output, hf2.size, hf2.block⟩
        clear hf2 co cp
        go_wp2_with fail
        go_meet
        case rel => exact ⟨rfl, rfl, HF2.out⟩
    case rest =>
      obtain ⟨rfl, rfl, hf2⟩ := hcut
      have HF2 := hid hf2
      have HW2 := hid (H.out.fr hf2)
      clear hf2 co cp HG
      go_wp2_with fail
      refine (HD.out _).mono ?_
      rintro e w3 ⟨rfl, hf3⟩
      have HF3 := hid (HF2.out.step hf3 (fun _ h => .inl h))
      have HW3 := hid (HW2.out.fr hf3)
      clear hf3 HF2 HW2 HD
      by_cases hill : ci = 0 ∨ 19 ≤ ci
      · have HM : Hid (r0 = (1, s, m)) := by
          unfold Hid
          rw [HI.out]
          rcases hill with h0 | h0
          · rw [h0]; rfl
          · rw [List.getElem?_eq_none (by simp [codeL]; omega)]
        clear HI
        go_wp2_with (first
          | (refine wpList_storeMid ?_ 189 (.tmp 28) (.tmp 26) ?_ B 13 191 (workCells s 0 0 0 0 (.iface 139 rv)) [.int .i64 ci, .int .i64 ai, .int .i64 bi, .int .u32 nn] ?_ ?_ HW3.out ?_ ?_ ?_ ?_; rfl; rfl; rfl; rfl; kernel_rfl; (have := h8; simp [workCells, stCells, this]); exact ins_one _ _ _ _; intro w4 g4 hf4; rw [work_ins s h8] at g4; have HG4 := hid g4; have HF4 := hid hf4; have c13 : w4.cell? ⟨B, 13, none⟩ = some (.int .i64 ci) := WorkAt.at g4 h8 5; clear g4 hf4))
        refine (find_no _ ci hill hc8).mono ?_
        rintro e w5 ⟨rfl, hf5⟩
        have HF5 := hid ((((HF3.out.toS (S := fun i => W i ∨ i = B)).step HF4.out (fun i hi => .inl (.inr hi))).step hf5 (fun _ h => h.elim)))
        have HR5 := hid (HOK.out.fr m w w5 (fun i => i = B) HR.out (((HF3.out.toS (S := fun i => i = B)).step HF4.out (fun i hi => .inl hi)).step hf5 (fun _ h => h.elim)) (fun i hi => by rw [hi]; exact hB))
        clear hf5 c13
        go_wp2_with (first
          | (refine wpList_storeRow ?_ 201 (.tmp 5) (.tmp 36) ?_ w5.heap.size 201 _ #[.nilFunc, .int .i64 0] ?_ ?_ (heap_alloc_new w5 _) ?_ ?_ nil_one ?_; rfl; rfl; rfl; rfl; kernel_rfl; rfl; intro w6 g6 hf6; have HF6 := hid (((Fr.refl (fun _ => False) w5).alloc _).step hf6 (fun i hi => .inr (by rw [hi]; exact Nat.le_refl _))); clear g6 hf6))
        go_ret
        rw [HM.out]
        exact ⟨rfl, (fun h => by simp at h), HOK.out.toQ m _ (HOK.out.fr m w5 _ (fun _ => False) HR5.out HF6.out (fun _ h => h.elim)), HF5.out.step HF6.out (fun _ h => h.elim)⟩
      · obtain ⟨k, hk⟩ : ∃ k, ci = k + 1 := ⟨ci - 1, by omega⟩
        subst hk
        have hk18 : k < 18 := by omega
        obtain ⟨p, hp⟩ : ∃ p, codeL[k]? = some p := ⟨_, List.getElem?_eq_getElem (by simp [codeL]; omega)⟩
        obtain ⟨f, cyc⟩ := p
        have HP := hid hp
        have HM : Hid (r0 = (let r := workM O k ai bi nn { s with place := (s.place + 1) % 4294967296 } m
          if r.1 = 0 then (0, (if goes r.2.1 then { r.2.1 with busy := (cyc : Int) - 1 } else r.2.1), r.2.2) else r)) := by
          unfold Hid
          rw [HI.out, Nat.add_sub_cancel, hp]
          rfl
        have HFY := hid (fun w1 => find_yes w1 k f cyc hp)
        obtain ⟨fn, hfn1, hfn2, hfn3⟩ := code_fn k f cyc hp
        have HFN1 := hid hfn1
        have HFN2 := hid hfn2
        have HFN3 := hid hfn3
        have HS1 : Hid (StB { s with place := (s.place + 1) % 4294967296 }) := ⟨HS.out.l, HS.out.r, by simp only; omega, by simp only; omega, HS.out.s0, HS.out.s1, HS.out.c0, HS.out.c1, HS.out.b0, HS.out.b1⟩
        have HDO : Hid (∀ w1, R m w1 → WorkAt w1 B { s with place := (s.place + 1) % 4294967296 } ((k + 1 : Nat) : Int) ai bi nn (.iface 139 rv) → Calls Tryz.prog f #[.pointer (some ⟨B, 0, none⟩)] w1 fun e w' => e = .returned (.int .i64 (workM O k ai bi nn { s with place := (s.place + 1) % 4294967296 } m).1) ∧ WorkAt w' B (workM O k ai bi nn { s with place := (s.place + 1) % 4294967296 } m).2.1 ((k + 1 : Nat) : Int) ai bi nn (.iface 139 rv) ∧ Q (workM O k ai bi nn { s with place := (s.place + 1) % 4294967296 } m).2.2 w' ∧ Fr (fun i => W i ∨ i = B) w1 w') := fun w1 h1 h2 => do_any HOK.out w1 m h1 B hB _ _ nn ai bi h2 HS1.out ha8 hb8 hn0 hn1 k f cyc hp
        have HRB := hid (workM_B HOK.out m w HR.out k ai bi nn hn0 hn1 _ HS1.out)
        have hcyc : (cyc : Int) ≤ 5 ∧ 1 ≤ (cyc : Int) := by have := code_cyc k f cyc hp; omega
        generalize workM O k ai bi nn { s with place := (s.place + 1) % 4294967296 } m = r at *
        obtain ⟨r1, rs, rm⟩ := r
        simp only at HDO HRB HM
        clear hp HI hfn1 hfn2 hfn3
        go_wp2_with (first
          | (refine wpList_storeMid ?_ 189 (.tmp 28) (.tmp 26) ?_ B 13 191 (workCells s 0 0 0 0 (.iface 139 rv)) [.int .i64 ((k + 1 : Nat) : Int), .int .i64 ai, .int .i64 bi, .int .u32 nn] ?_ ?_ HW3.out ?_ ?_ ?_ ?_; rfl; rfl; rfl; rfl; kernel_rfl; (have := h8; simp [workCells, stCells, this]); exact ins_one _ _ _ _; intro w4 g4 hf4; rw [work_ins s h8] at g4; have HG4 := hid g4; have HF4 := hid hf4; have c13 : w4.cell? ⟨B, 13, none⟩ = some (.int .i64 ((k + 1 : Nat) : Int)) := WorkAt.at g4 h8 5; clear g4 hf4))
        refine (HFY.out _).mono ?_
        rintro e w5 ⟨rfl, hf5⟩
        have HF5 := hid (((HF3.out.toS (S := fun i => i = B)).step HF4.out (fun i hi => .inl hi)).step hf5 (fun _ h => h.elim))
        have HW5 := hid (WorkAt.fr HG4.out hf5)
        clear hf5 c13 HG4 HF4 HFY HW3 HF3
        by_cases hr1 : r1 = 0
        case neg =>
          have hr1b : (r1 != 0) = true := by simp [hr1]
          go_wp2_with (first
            | (refine wpList_storeRow ?_ 201 (.tmp 5) (.tmp 36) ?_ w5.heap.size 201 _ #[.func (Fn.func f) #[] #[], .int .i64 cyc] ?_ ?_ (heap_alloc_new w5 _) ?_ ?_ (row_one f cyc) ?_; rfl; rfl; rfl; rfl; kernel_rfl; rfl; intro w6 g6 hf6; have HF6 := hid (((Fr.refl (fun _ => False) w5).alloc _).step hf6 (fun i hi => .inr (by rw [hi]; exact Nat.le_refl _))); have HW6 := hid (HW5.out.fr HF6.out); have hne6 : B ≠ w5.heap.size := Nat.ne_of_lt (lt_of_get HW5.out); have HG6 := hid g6; have c8 : w6.cell? ⟨B, 8, none⟩ = some (.int .u32 s.place) := HW6.out.at h8 0; have f8 : w6.frozen? ⟨B, 8, none⟩ = false := row_frozen HW6.out 8; have d0 : (w6.setCell ⟨B, 8, none⟩ (.int .u32 ((s.place + 1) % 4294967296))).cell? ⟨w5.heap.size, 0, none⟩ = some (.func (Fn.func f) #[] #[]) := row_cell (set_other g6 (p := ⟨B, 8, none⟩) hne6.symm _) 0; clear g6 hf6)
            | (refine wpList_callV HFN1.out HFN2.out HFN3.out (by rfl) (by rfl) (by rfl) [.pointer (some ⟨B, 0, none⟩)] (by rfl) ((HDO.out _ ?_ ?_).mono ?_); exact HOK.out.fr m w _ (fun i => i = B) HR.out (((HF5.out.step HF6.out (fun _ h => h.elim))).setCell (p := ⟨B, 8, none⟩) (.inl rfl) _) (fun i hi => by rw [hi]; exact hB); exact HW6.out.setPlace h8 _; rintro e w8 ⟨rfl, hw8, hr8, hf8⟩; refine ⟨_, rfl, ?_⟩; have HR8 := hid hr8; have HF8 := hid (((HF5.out.step HF6.out (fun _ h => h.elim)).setCell (p := ⟨B, 8, none⟩) (.inl rfl) (.int .u32 ((s.place + 1) % 4294967296))).mono (S' := fun i => W i ∨ i = B) (fun i hi => .inr hi) |>.step hf8 (fun i hi => .inl hi)); clear hw8 hr8 hf8 d0 c8 f8))
          go_ret
          rw [HM.out, if_neg hr1]
          exact ⟨rfl, fun h => absurd h hr1, HR8.out, HF8.out⟩
        case pos =>
          subst hr1
          go_wp2_with (first
            | (refine wpList_storeRow ?_ 201 (.tmp 5) (.tmp 36) ?_ w5.heap.size 201 _ #[.func (Fn.func f) #[] #[], .int .i64 cyc] ?_ ?_ (heap_alloc_new w5 _) ?_ ?_ (row_one f cyc) ?_; rfl; rfl; rfl; rfl; kernel_rfl; rfl; intro w6 g6 hf6; have HF6 := hid (((Fr.refl (fun _ => False) w5).alloc _).step hf6 (fun i hi => .inr (by rw [hi]; exact Nat.le_refl _))); have HW6 := hid (HW5.out.fr HF6.out); have hne6 : B ≠ w5.heap.size := Nat.ne_of_lt (lt_of_get HW5.out); have HG6 := hid g6; have c8 : w6.cell? ⟨B, 8, none⟩ = some (.int .u32 s.place) := HW6.out.at h8 0; have f8 : w6.frozen? ⟨B, 8, none⟩ = false := row_frozen HW6.out 8; have d0 : (w6.setCell ⟨B, 8, none⟩ (.int .u32 ((s.place + 1) % 4294967296))).cell? ⟨w5.heap.size, 0, none⟩ = some (.func (Fn.func f) #[] #[]) := row_cell (set_other g6 (p := ⟨B, 8, none⟩) hne6.symm _) 0; clear g6 hf6)
            | (refine wpList_callV HFN1.out HFN2.out HFN3.out (by rfl) (by rfl) (by rfl) [.pointer (some ⟨B, 0, none⟩)] (by rfl) ((HDO.out _ ?_ ?_).mono ?_); exact HOK.out.fr m w _ (fun i => i = B) HR.out (((HF5.out.step HF6.out (fun _ h => h.elim))).setCell (p := ⟨B, 8, none⟩) (.inl rfl) _) (fun i hi => by rw [hi]; exact hB); exact HW6.out.setPlace h8 _; rintro e w8 ⟨rfl, hw8, hr8, hf8⟩; refine ⟨_, rfl, ?_⟩; have HR8 := hid hr8; have HF8 := hid (((HF5.out.step HF6.out (fun _ h => h.elim)).setCell (p := ⟨B, 8, none⟩) (.inl rfl) (.int .u32 ((s.place + 1) % 4294967296))).mono (S' := fun i => W i ∨ i = B) (fun i hi => .inr hi) |>.step hf8 (fun i hi => .inl hi)); have HW8 := hid hw8; have hSlt : ∀ i, S i → i < w5.heap.size := fun i hi => HOK.out.lt m w5 i (HOK.out.fr m w w5 (fun i => i = B) HR.out HF5.out (fun i hi => by rw [hi]; exact hB)) hi; have HRW := hid (hf8.get (set_other HG6.out (p := ⟨B, 8, none⟩) hne6.symm _) (fun hi => hi.elim (fun hi => absurd (hSlt _ (HOK.out.sub _ hi)) (Nat.lt_irrefl _)) (fun hi => hne6 hi.symm))); clear hw8 hr8 hf8 d0 c8 f8 hSlt))
          have hrs8 := HRB.out.l
          refine (goesOn_any w8 B 0 rs (HW8.out.at hrs8 1) (HW8.out.at hrs8 4)).mono ?_
          rintro e w9 ⟨rfl, rfl⟩
          have hM := HM.out
          simp only [if_true] at hM
          cases hgo : goes rs with
          | false =>
            rw [hgo] at hM
            simp only [Bool.false_eq_true, if_false] at hM
            have HM2 := hid hM
            clear hM HM hgo
            go_wp2_with fail
            go_ret
            rw [HM2.out]
            exact ⟨rfl, fun _ => ⟨_, _, _, _, HW8.out⟩, HR8.out, HF8.out⟩
          | true =>
            rw [hgo] at hM
            simp only [if_true] at hM
            have HM2 := hid hM
            have e1 : w9.cell? ⟨w5.heap.size, 1, none⟩ = some (.int .i64 cyc) := row_cell HRW.out 1
            have e2 : w9.cell? ⟨B, 11, none⟩ = some (.int .i64 rs.busy) := HW8.out.at hrs8 3
            have e3 : w9.frozen? ⟨B, 11, none⟩ = false := row_frozen HW8.out 11
            have HW9 := hid (HW8.out.setBusy hrs8 ((cyc : Int) - 1))
            have HF9 := hid (HF8.out.setCell (p := ⟨B, 11, none⟩) (.inl (.inr rfl)) (.int .i64 ((cyc : Int) - 1)))
            have HR9 := hid (HOK.out.frQ rm w9 _ (fun i => i = B) HR8.out (Fr.one w9 B 11 (.int .i64 ((cyc : Int) - 1))) (fun i hi => by rw [hi]; exact ⟨_, HW8.out⟩))
            clear hM HM hgo
            go_wp2_with fail
            go_ret
            rw [HM2.out]
            exact ⟨rfl, fun _ => ⟨_, _, _, _, HW9.out⟩, HR9.out, HF9.out⟩

end Go.Proofs.YthmcheoehcmglaaGreat
