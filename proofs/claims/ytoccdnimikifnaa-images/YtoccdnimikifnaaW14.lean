/- The processor's state in memory: Begin, Save, area. -/
import Derived.Test.YtoccdnimikifnaaW13
import Derived.Laws.CopyOwn
namespace Go.Proofs.Ytoccdnimikifnaa
open Go.RowKit
set_option linter.unusedVariables false
attribute [local go_sem ↓] Go.wp_at_zero Go.wp_at_succ

/-- copy, in words of rows: at a plain region's list. -/
theorem wpList_copyF {P : Program} {w : World} {ops : Array Oper} {rest : List Oper} {o : Oper} {a : Act} {Q : Exit → Act → World → Prop} (hgd : o.guard = none) (d s : Operand) (dT sT : TypeId)
    (ho : o.op = .call { callee := .builtin .copy, args := #[d, s], argTypes := #[dT, sT] }) (elem : TypeId) (hu : P.underlying dT = some (.slice elem)) (hsz : (P.info? elem).map (·.size) = some 1)
    (g off dLen dCap : Nat) (ad : Addr) (sLen sCap : Nat) (hd : a.eval d = .slice (some ⟨g, off, none⟩) dLen dCap) (hs : a.eval s = .slice (some ad) sLen sCap)
    (cur : List Value) (t : TypeId) (hg : w.heap[g]? = some (.cells cur.toArray t (0, 0))) (cs : List Value) (hn : cs.length = Nat.min sLen dLen)
    (hsrc : ∀ j v, cs[j]? = some v → w.cell? (ad.add j) = some v) (hfit : off + cs.length ≤ cur.length) (h1 : ∀ v ∈ cs, v.oneCell' = true)
    (h : ∀ w', w'.heap[g]? = some (.cells (splice cur off cs).toArray t (0, 0)) → Fr (fun i => i = g) w w' → wpList P ops Q rest (a.put o.dst (goInt cs.length)) w') : wpList P ops Q (o :: rest) a w := by
  refine wpList_copy_own hgd d s dT sT ho elem hu hsz g off dLen dCap ad sLen sCap hd hs cur.toArray t hg cs hn hsrc (by simpa using hfit) h1 ?_
  refine h _ ?_ ?_
  · simpa [splice] using setRow_heap w g _ _ t _ hg
  · exact (Fr.refl (fun i => i = g) w).setRow (Or.inl rfl) _

theorem run_copyF {P : Program} (w : World) (dT sT ty elem : TypeId) (g off dLen dCap : Nat) (ad : Addr) (sLen sCap : Nat) (cur : List Value) (t : TypeId) (cs : List Value)
    (hu : P.underlying dT = some (.slice elem)) (hsz : (P.info? elem).map (·.size) = some 1) (hg : w.heap[g]? = some (.cells cur.toArray t (0, 0))) (hn : cs.length = Nat.min sLen dLen)
    (hsrc : ∀ j v, cs[j]? = some v → w.cell? (ad.add j) = some v) (hfit : off + cs.length ≤ cur.length) (h1 : ∀ v ∈ cs, v.oneCell' = true) :
    ∃ w', (Builtin.copy_ #[dT, sT] ty #[.slice (some ⟨g, off, none⟩) dLen dCap, .slice (some ad) sLen sCap]).run P w = .ok (goInt cs.length) w' ∧ w'.heap[g]? = some (.cells (splice cur off cs).toArray t (0, 0)) ∧ Fr (fun i => i = g) w w' := by
  refine ⟨_, run_copy_row (P := P) w dT sT ty elem g off dLen dCap ad sLen sCap cur.toArray t cs hu hsz hg hn hsrc (by simpa using hfit) h1, ?_, ?_⟩
  · simpa [splice] using setRow_heap w g _ _ t _ hg
  · exact (Fr.refl (fun i => i = g) w).setRow (Or.inl rfl) _

theorem splice_get {α : Type} (L : List α) (off : Nat) (cs : List α) (h : off + cs.length ≤ L.length) (i : Nat) : (splice L off cs)[i]? = if off ≤ i ∧ i < off + cs.length then cs[i - off]? else L[i]? := by
  unfold splice
  by_cases h1 : i < off
  · rw [if_neg (by omega), List.getElem?_append_left (by simp; omega), List.getElem?_take, if_pos h1]
  · rw [List.getElem?_append_right (by simp; omega)]
    simp only [List.length_take, Nat.min_eq_left (show off ≤ L.length by omega)]
    by_cases h2 : i < off + cs.length
    · rw [if_pos (by omega), List.getElem?_append_left (by omega)]
    · rw [if_neg (by omega), List.getElem?_append_right (by omega), List.getElem?_drop]
      congr 1
      omega
theorem splice_map {α β : Type} (f : α → β) (L : List α) (off : Nat) (cs : List α) : splice (L.map f) off (cs.map f) = (splice L off cs).map f := by
  simp [splice, List.map_take, List.map_drop]

/-- How a ward is. -/
structure StV where
  regs : List Int
  place : Int
  status : Int
  cause : Int
  busy : Int
  y : Bool
def StV.Ok (s : StV) : Prop := s.regs.length = 8 ∧ 0 ≤ s.status ∧ s.status < 4294967296 ∧ 0 ≤ s.cause ∧ s.cause < 4294967296 ∧ 0 ≤ s.busy ∧ s.busy < 4294967296
def stCells (s : StV) : List Value := s.regs.map (Value.int .u32) ++ [.int .u32 s.place, .int .i64 s.status, .int .i64 s.cause, .int .i64 s.busy, .bool s.y]
def yWord (b : Bool) : Int := if b then 1 else 0
def stWords (s : StV) : List Int := s.regs ++ [s.place, s.status, s.cause, s.busy, yWord s.y]
def wordCells (l : List Int) : List Value := l.map (Value.int .u32)

theorem saved_set (mem : List Int) (off : Nat) (s : StV) (h8 : s.regs.length = 8) (h : off + 16 ≤ mem.length) :
    (((((splice mem off s.regs).set (off + 8) s.place).set (off + 9) s.status).set (off + 10) s.cause).set (off + 11) s.busy).set (off + 12) (yWord s.y) = splice mem off (stWords s) := by
  apply List.ext_getElem?
  intro i
  rw [splice_get mem off (stWords s) (by simp [stWords, h8]; omega)]
  have hl : (splice mem off s.regs).length = mem.length := length_splice _ _ _ (by omega)
  have hw : (stWords s).length = 13 := by simp [stWords, h8]
  rw [hw]
  by_cases h12 : off + 12 = i
  · subst h12; rw [List.getElem?_set_self (by simp only [List.length_set, hl]; omega), if_pos (by omega)]; simp [stWords, h8]
  · rw [List.getElem?_set_ne h12]
    by_cases h11 : off + 11 = i
    · subst h11; rw [List.getElem?_set_self (by simp only [List.length_set, hl]; omega), if_pos (by omega)]; simp [stWords, h8]
    · rw [List.getElem?_set_ne h11]
      by_cases h10 : off + 10 = i
      · subst h10; rw [List.getElem?_set_self (by simp only [List.length_set, hl]; omega), if_pos (by omega)]; simp [stWords, h8]
      · rw [List.getElem?_set_ne h10]
        by_cases h9 : off + 9 = i
        · subst h9; rw [List.getElem?_set_self (by simp only [List.length_set, hl]; omega), if_pos (by omega)]; simp [stWords, h8]
        · rw [List.getElem?_set_ne h9]
          by_cases h88 : off + 8 = i
          · subst h88; rw [List.getElem?_set_self (by simp only [hl]; omega), if_pos (by omega)]; simp [stWords, h8]
          · rw [List.getElem?_set_ne h88, splice_get mem off s.regs (by omega) i, h8]
            by_cases hin : off ≤ i ∧ i < off + 8
            · rw [if_pos hin, if_pos (by omega)]
              unfold stWords
              rw [List.getElem?_append_left (by omega)]
            · rw [if_neg hin, if_neg (by omega)]

set_option maxRecDepth 100000 in
set_option maxHeartbeats 1000000 in
theorem begin_any (p : Int) (w : World) :
    Calls Try.prog 28 #[.int .u32 p] w fun e w' => e = .returned (.agg #[.int .u32 0, .int .u32 0, .int .u32 0, .int .u32 0, .int .u32 0, .int .u32 0, .int .u32 0, .int .u32 0, .int .u32 p, .int .i64 0, .int .i64 0, .int .i64 0, .bool false]) ∧ Fr (fun _ => False) w w' := by
  go_enter Try.func28, Try.ntmps28
  go_wp2_with fail
  refine bodyPost_ret (v := .agg #[.int .u32 0, .int .u32 0, .int .u32 0, .int .u32 0, .int .u32 0, .int .u32 0, .int .u32 0, .int .u32 0, .int .u32 p, .int .i64 0, .int .i64 0, .int .i64 0, .bool false]) ?_ rfl ⟨rfl, ?_⟩
  · simp [results, Try.results28, go_sem]
  · exact (Fr.refl _ _).alloc _

set_option maxRecDepth 100000 in
set_option maxHeartbeats 1000000 in
theorem area_any (X M n k : Nat) (ck : Int) (vW : Value) (w : World) (hX : w.heap[X]? = some (.cells #[.slice (some ⟨M, 0, none⟩) n n, .int .i64 ck, vW] 78 (0, 0))) (hn : 32 + 16 * k ≤ n) (hn2 : n ≤ 1024) :
    Calls Try.prog 30 #[.pointer (some ⟨X, 0, none⟩), .int .i64 k] w fun e w' => e = .returned (.slice (some ⟨M, 16 + 16 * k, none⟩) 16 (n - (16 + 16 * k))) ∧ w' = w := by
  have c0 : w.cell? ⟨X, 0, none⟩ = some (.slice (some ⟨M, 0, none⟩) n n) := row_cell hX 0
  clear hX
  have hn3 : (32 : Int) + 16 * k ≤ n := by omega
  go_enter Try.func30, Try.ntmps30
  go_wp2_with (go_at_call 52; refine (area_num _ _ (by omega) (by omega)).mono ?_; rintro e w1 ⟨rfl, rfl⟩)
  go_ret
  exact ⟨by rw [show 16 + 16 * k + 16 - (16 + 16 * k) = 16 from by omega]; rfl, rfl⟩

theorem set_map (f : Int → Value) (l : List Int) (i : Nat) (v : Int) : (l.map f).toArray.setIfInBounds i (f v) = ((l.set i v).map f).toArray := by simp [List.map_set]

set_option maxRecDepth 100000 in
set_option maxHeartbeats 1000000 in
theorem save_any (b o M off cap : Nat) (s : StV) (mem : List Int) (w : World) (hs : s.Ok) (hbM : b ≠ M) (hc : ∀ j u, (stCells s)[j]? = some u → w.cell? ⟨b, o + j, none⟩ = some u)
    (hM : w.heap[M]? = some (.cells (wordCells mem).toArray 37 (0, 0))) (hoff : off + 16 ≤ mem.length) (hml : mem.length ≤ 1024) (hcap : 16 ≤ cap) :
    Calls Try.prog 29 #[.pointer (some ⟨b, o, none⟩), .slice (some ⟨M, off, none⟩) 16 cap] w fun e w' =>
      e = .returned (.tuple #[]) ∧ w'.heap[M]? = some (.cells (wordCells (splice mem off (stWords s))).toArray 37 (0, 0)) ∧ Fr (fun i => i = M) w w' := by
  obtain ⟨h8, s1, s2, s3, s4, s5, s6⟩ := hs
  have cs8 : ∀ j u, (s.regs.map (Value.int .u32))[j]? = some u → w.cell? ((⟨b, o, none⟩ : Addr).add j) = some u := by
    intro j u hu
    rw [show (⟨b, o, none⟩ : Addr).add j = ⟨b, o + j, none⟩ by unfold Addr.add; split <;> simp_all]
    refine hc j u ?_
    unfold stCells
    rw [List.getElem?_append_left]
    · exact hu
    · exact (List.getElem?_eq_some_iff.1 hu).1
  have HC8 := hid cs8
  have HC := hid hc
  have HM := hid hM
  have HS := hid (saved_set mem off s h8 hoff)
  clear cs8 hc hM
  have h8c : (s.regs.map (Value.int .u32)).length = Nat.min 8 16 := by simp [h8]
  have hfit : off + (s.regs.map (Value.int .u32)).length ≤ (wordCells mem).length := by simp [h8, wordCells]; omega
  have hone : ∀ v ∈ s.regs.map (Value.int .u32), v.oneCell' = true := ints_oneCell .u32 s.regs
  go_enter Try.func29, Try.ntmps29
  go_wp2_with fail
  obtain ⟨w1, hrun, hM1, hf1⟩ := run_copyF (P := Try.prog) w 75 75 3 37 M off 16 cap ⟨b, o, none⟩ 8 8 (wordCells mem) 37 (s.regs.map (Value.int .u32)) Try.underlying75 (by kernel_rfl) HM.out h8c HC8.out hfit hone
  rw [hrun]
  clear hrun
  have HM1 : Hid (w1.heap[M]? = some (.cells (wordCells (splice mem off s.regs)).toArray 37 (0, 0))) := by
    unfold Hid; rw [hM1]; unfold wordCells; rw [splice_map]
  have hl1 : (splice mem off s.regs).length = mem.length := length_splice _ _ _ (by omega)
  have HF1 := hid hf1
  have hb : ∀ j u, (stCells s)[j]? = some u → w1.cell? ⟨b, o + j, none⟩ = some u := by
    intro j u hu
    have h1 := HC.out j u hu
    rw [← h1]
    exact World.cell?_of_block (hf1.block b (World.block_lt_of_cell? w _ h1) hbM)
  have hst : ∀ j u, [Value.int .u32 s.place, .int .i64 s.status, .int .i64 s.cause, .int .i64 s.busy, .bool s.y][j]? = some u → w1.cell? ⟨b, o + (8 + j), none⟩ = some u := by
    intro j u hu
    refine hb (8 + j) u ?_
    unfold stCells
    rw [List.getElem?_append_right (by simp [h8])]
    simpa [h8] using hu
  have t8 : w1.cell? ⟨b, o + 8, none⟩ = some (.int .u32 s.place) := hst 0 _ rfl
  have t9 : w1.cell? ⟨b, o + 9, none⟩ = some (.int .i64 s.status) := hst 1 _ rfl
  have t10 : w1.cell? ⟨b, o + 10, none⟩ = some (.int .i64 s.cause) := hst 2 _ rfl
  have t11 : w1.cell? ⟨b, o + 11, none⟩ = some (.int .i64 s.busy) := hst 3 _ rfl
  have t12 : w1.cell? ⟨b, o + 12, none⟩ = some (.bool s.y) := hst 4 _ rfl
  have hmc : ∀ j, j < 16 → ∃ v, w1.cell? ⟨M, off + j, none⟩ = some (.int .u32 v) := by
    intro j hj
    rw [row_cell HM1.out]
    simp only [wordCells, List.getElem?_toArray, List.getElem?_map]
    rw [List.getElem?_eq_getElem (by omega)]
    exact ⟨_, rfl⟩
  obtain ⟨v8, m8⟩ := hmc 8 (by omega)
  obtain ⟨v9, m9⟩ := hmc 9 (by omega)
  obtain ⟨v10, m10⟩ := hmc 10 (by omega)
  obtain ⟨v11, m11⟩ := hmc 11 (by omega)
  obtain ⟨v12, m12⟩ := hmc 12 (by omega)
  have fM := row_frozen HM1.out
  clear hM1 hf1 hb hst hmc h8c hfit hone
  cases hy : s.y
  · rw [hy] at t12
    have HY : Hid (yWord s.y = 0) := by simp [Hid, yWord, hy]
    clear hy
    go_wp2_with fail
    go_end0
    refine ⟨rfl, ?_, ?_⟩
    · rw [row_set (row_set (row_set (row_set (row_set HM1.out _ _) _ _) _ _) _ _) _ _]
      unfold wordCells
      rw [set_map, set_map, set_map, set_map, set_map, ← HS.out, HY.out]
    · exact ((((HF1.out.setCell (.inl rfl) _).setCell (.inl rfl) _).setCell (.inl rfl) _).setCell (.inl rfl) _).setCell (.inl rfl) _
  · rw [hy] at t12
    have HY : Hid (yWord s.y = 1) := by simp [Hid, yWord, hy]
    clear hy
    go_wp2_with fail
    go_end0
    refine ⟨rfl, ?_, ?_⟩
    · rw [row_set (row_set (row_set (row_set (row_set (row_set HM1.out _ _) _ _) _ _) _ _) _ _) _ _]
      unfold wordCells
      rw [set_map, set_map, set_map, set_map, set_map, set_map, ← HS.out, HY.out, List.set_set]
    · exact (((((HF1.out.setCell (.inl rfl) _).setCell (.inl rfl) _).setCell (.inl rfl) _).setCell (.inl rfl) _).setCell (.inl rfl) _).setCell (.inl rfl) _

end Go.Proofs.Ytoccdnimikifnaa
