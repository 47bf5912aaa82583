/- What a ward reaches: the kernel in memory; find, read, Fetch, Get, Put. -/
import Derived.Test.YthmcheoehcmglaaGreatP2
import Derived.Test.YthmcheoehcmglaaGreatP5
import Derived.Test.YthmcheoehcmglaaGreatR0
import Derived.Laws.CopyOwn
namespace Go.Proofs.YthmcheoehcmglaaGreat
open Go.RowKit
set_option linter.unusedVariables false
attribute [local go_sem ↓] Go.wp_at_zero Go.wp_at_succ

/-- What of a machine never changes. -/
structure KX where
  X : Nat
  M : Nat
  n : Nat
  gap : Int
  qs : List Int
  vQ : Value
  gK : Nat
  cK : Nat
  regs : List (List Reg)
  vR : List Value
  wires : List (Int × Int)
  vI : Value
  dvs : List (List Int)
  vD : List Value
  gD : Nat
  dn : Nat

/-- The kernel's own cells. -/
def kerRow (x : KX) (ck : Int) : Array Value := #[.slice (some ⟨x.M, 0, none⟩) x.n x.n, .int .i64 ck, .int .i64 x.gap, x.vQ, .slice (some ⟨x.gK, 0, none⟩) x.regs.length x.cK, x.vI, .slice (some ⟨x.gD, 0, none⟩) x.dn x.dn]

def KS (x : KX) (i : Nat) : Prop := i = x.X ∨ i = x.M ∨ i = x.gK ∨ (∃ v ∈ x.vR, v.ownBlock = some i) ∨ x.vI.ownBlock = some i ∨ x.vQ.ownBlock = some i ∨ (∃ v ∈ x.vD, v.ownBlock = some i)

/-- What a turn reads of a machine, but its devices. -/
structure KerR (x : KX) (ck : Int) (mem : List Int) (w : World) : Prop where
  hx : w.heap[x.X]? = some (.cells (kerRow x ck) 101 (0, 0))
  hm : w.heap[x.M]? = some (.cells (wordCells mem).toArray 33 (0, 0))
  hn : mem.length = x.n
  n1 : x.n ≤ 1024
  mb : ∀ v ∈ mem, 0 ≤ v ∧ v < 4294967296
  gk : ∃ cur, w.heap[x.gK]? = some (.cells cur 94 (0, 0))
  kern : 16 + 16 * x.regs.length + 2 * x.wires.length ≤ x.n
  wn : x.regs.length = x.vR.length
  wl : x.regs.length ≤ 4
  rg : ∀ k rs, x.regs[k]? = some rs → ∃ v, x.vR[k]? = some v ∧ w.cell? ⟨x.gK, k * 15 + 13, none⟩ = some v ∧ w.ownsRow 0 151 4 v rs.length (rs.flatMap regCells)
  fit : ∀ rs ∈ x.regs, rs.length ≤ 3 ∧ ∀ r ∈ rs, RegB r ∧ r.2.2.1 + r.2.1 ≤ x.n
  wi : w.ownsRow 0 177 2 x.vI x.wires.length (x.wires.flatMap (fun p => [.int .i64 p.1, .int .i64 p.2]))
  wi8 : x.wires.length ≤ 8
  c0 : 0 ≤ ck
  hq : w.ownsRow 0 3 1 x.vQ x.qs.length (x.qs.map (Value.int .i64))
  dl : x.dvs.length = x.regs.length
  dg : ∀ k ds, x.dvs[k]? = some ds → ∃ v, x.vD[k]? = some v ∧ w.cell? ⟨x.gK, k * 15 + 14, none⟩ = some v ∧ w.ownsRow 0 3 1 v ds.length (ds.map (Value.int .i64))
  db : ∀ ds ∈ x.dvs, ds.length ≤ 8 ∧ ∀ d ∈ ds, 0 ≤ d ∧ d < x.dn
  dn8 : x.dn ≤ 8

theorem KerR.fr {x : KX} {ck : Int} {mem : List Int} {w w' : World} {T : Nat → Prop} (h : KerR x ck mem w) (hf : Fr T w w') (hT : ∀ i, T i → ¬ KS x i) : KerR x ck mem w' := by
  have hnX : ¬ T x.X := fun ht => hT _ ht (.inl rfl)
  have hnM : ¬ T x.M := fun ht => hT _ ht (.inr (.inl rfl))
  have hnK : ¬ T x.gK := fun ht => hT _ ht (.inr (.inr (.inl rfl)))
  have hcell : ∀ j, w'.cell? ⟨x.gK, j, none⟩ = w.cell? ⟨x.gK, j, none⟩ := fun j => World.cell?_of_block (hf.block x.gK (h.gk.elim fun cur hc => lt_of_get hc) hnK)
  refine ⟨hf.get h.hx hnX, hf.get h.hm hnM, h.hn, h.n1, h.mb, h.gk.elim (fun cur hc => ⟨cur, hf.get hc hnK⟩), h.kern, h.wn, h.wl, ?_, h.fit, ?_, h.wi8, h.c0, ?_, h.dl, ?_, h.db, h.dn8⟩
  · intro k rs hk
    obtain ⟨v, hv, hc, ho⟩ := h.rg k rs hk
    exact ⟨v, hv, (hcell _).trans hc, hf.owns ho (fun i hi ht => hT i ht (.inr (.inr (.inr (.inl ⟨v, List.mem_of_getElem? hv, hi⟩)))))⟩
  · exact hf.owns h.wi (fun i hi ht => hT i ht (.inr (.inr (.inr (.inr (.inl hi))))))
  · exact hf.owns h.hq (fun i hi ht => hT i ht (.inr (.inr (.inr (.inr (.inr (.inl hi)))))))
  · intro k ds hk
    obtain ⟨v, hv, hc, ho⟩ := h.dg k ds hk
    exact ⟨v, hv, (hcell _).trans hc, hf.owns ho (fun i hi ht => hT i ht (.inr (.inr (.inr (.inr (.inr (.inr ⟨v, List.mem_of_getElem? hv, hi⟩)))))))⟩
theorem KerR.frF {x : KX} {ck : Int} {mem : List Int} {w w' : World} (h : KerR x ck mem w) (hf : Fr (fun _ => False) w w') : KerR x ck mem w' := h.fr hf (fun _ h => h.elim)

/-- A block of another kind is none of these. -/
theorem KerR.notKS {x : KX} {ck : Int} {mem : List Int} {w : World} (h : KerR x ck mem w) {i : Nat} {cs : Array Value} {t : TypeId} {f : Nat × Nat} (hi : w.heap[i]? = some (.cells cs t f)) (hvl : x.vD.length = x.dvs.length)
    (h1 : t ≠ 101) (h2 : t ≠ 33) (h3 : t ≠ 94) (h4 : t ≠ 151) (h5 : t ≠ 177) (h6 : t ≠ 3) : ¬ KS x i := by
  have same : ∀ {c : Array Value} {t' : TypeId} {f' : Nat × Nat}, w.heap[i]? = some (.cells c t' f') → t = t' := by
    intro c t' f' e
    rw [hi] at e
    simp only [Option.some.injEq, Obj.cells.injEq] at e
    exact e.2.1
  rintro (e | e | e | ⟨v, hv, e⟩ | e | e | ⟨v, hv, e⟩)
  · subst e; exact h1 (same h.hx)
  · subst e; exact h2 (same h.hm)
  · subst e; obtain ⟨c, hc⟩ := h.gk; exact h3 (same hc)
  · obtain ⟨k, hk⟩ := List.getElem?_of_mem hv
    have hkl : k < x.regs.length := by rw [h.wn]; exact (List.getElem?_eq_some_iff.1 hk).1
    obtain ⟨v', hv', _, ho⟩ := h.rg k _ (List.getElem?_eq_getElem hkl)
    rw [hk] at hv'
    cases hv'
    exact owns_ne ho hi h4 e
  · exact owns_ne h.wi hi h5 e
  · exact owns_ne h.hq hi h6 e
  · obtain ⟨k, hk⟩ := List.getElem?_of_mem hv
    have hkl : k < x.dvs.length := by rw [← hvl]; exact (List.getElem?_eq_some_iff.1 hk).1
    obtain ⟨v', hv', _, ho⟩ := h.dg k _ (List.getElem?_eq_getElem hkl)
    rw [hk] at hv'
    cases hv'
    exact owns_ne ho hi h6 e

/-- The memory is written. -/
theorem KerR.wr {x : KX} {ck : Int} {mem mem' : List Int} {w w' : World} (h : KerR x ck mem w) (hm : w'.heap[x.M]? = some (.cells (wordCells mem').toArray 33 (0, 0))) (hf : Fr (fun i => i = x.M) w w') (hl : mem'.length = mem.length) (hb : ∀ v ∈ mem', 0 ≤ v ∧ v < 4294967296) : KerR x ck mem' w' := by
  have hXM : x.X ≠ x.M := by
    intro e
    have h1 := h.hx
    rw [e, h.hm] at h1
    simp only [Option.some.injEq, Obj.cells.injEq] at h1
    exact absurd h1.2.1 (by decide)
  obtain ⟨cur, hcur⟩ := h.gk
  have hKM : x.gK ≠ x.M := by
    intro e
    rw [e, h.hm] at hcur
    simp only [Option.some.injEq, Obj.cells.injEq] at hcur
    exact absurd hcur.2.1 (by decide)
  have hcell : ∀ j, w'.cell? ⟨x.gK, j, none⟩ = w.cell? ⟨x.gK, j, none⟩ := fun j => World.cell?_of_block (hf.block x.gK (lt_of_get hcur) hKM)
  refine ⟨hf.get h.hx hXM, hm, by rw [hl]; exact h.hn, h.n1, hb, ⟨cur, hf.get hcur hKM⟩, h.kern, h.wn, h.wl, ?_, h.fit, hf.owns1T h.hm h.wi (by decide), h.wi8, h.c0, hf.owns1T h.hm h.hq (by decide), h.dl, ?_, h.db, h.dn8⟩
  · intro k rs hk
    obtain ⟨v, hv, hc, ho⟩ := h.rg k rs hk
    exact ⟨v, hv, (hcell _).trans hc, hf.owns1T h.hm ho (by decide)⟩
  · intro k ds hk
    obtain ⟨v, hv, hc, ho⟩ := h.dg k ds hk
    exact ⟨v, hv, (hcell _).trans hc, hf.owns1T h.hm ho (by decide)⟩

/-- The wards' states are written. -/
theorem KerR.wk {x : KX} {ck : Int} {mem : List Int} {w w' : World} {cur : Array Value} (h : KerR x ck mem w) (hk : w'.heap[x.gK]? = some (.cells cur 94 (0, 0))) (hf : Fr (fun i => i = x.gK) w w')
    (hc : ∀ k c, k < x.regs.length → 13 ≤ c → c < 15 → w'.cell? ⟨x.gK, k * 15 + c, none⟩ = w.cell? ⟨x.gK, k * 15 + c, none⟩) : KerR x ck mem w' := by
  obtain ⟨cur0, hcur⟩ := h.gk
  have hX : x.X ≠ x.gK := by
    intro e
    have h1 := h.hx
    rw [e, hcur] at h1
    simp only [Option.some.injEq, Obj.cells.injEq] at h1
    exact absurd h1.2.1 (by decide)
  have hM : x.M ≠ x.gK := by
    intro e
    have h1 := h.hm
    rw [e, hcur] at h1
    simp only [Option.some.injEq, Obj.cells.injEq] at h1
    exact absurd h1.2.1 (by decide)
  refine ⟨hf.get h.hx hX, hf.get h.hm hM, h.hn, h.n1, h.mb, ⟨cur, hk⟩, h.kern, h.wn, h.wl, ?_, h.fit, hf.owns1T hcur h.wi (by decide), h.wi8, h.c0, hf.owns1T hcur h.hq (by decide), h.dl, ?_, h.db, h.dn8⟩
  · intro k rs hk
    obtain ⟨v, hv, hcc, ho⟩ := h.rg k rs hk
    exact ⟨v, hv, (hc k 13 (List.getElem?_eq_some_iff.1 hk).1 (by omega) (by omega)).trans hcc, hf.owns1T hcur ho (by decide)⟩
  · intro k ds hk
    obtain ⟨v, hv, hcc, ho⟩ := h.dg k ds hk
    exact ⟨v, hv, (hc k 14 (by rw [← h.dl]; exact (List.getElem?_eq_some_iff.1 hk).1) (by omega) (by omega)).trans hcc, hf.owns1T hcur ho (by decide)⟩
theorem KerR.set1 {x : KX} {ck : Int} {mem : List Int} {w : World} (h : KerR x ck mem w) (i : Nat) (v : Int) (v0 : 0 ≤ v) (v1 : v < 4294967296) : KerR x ck (mem.set i v) (w.setCell ⟨x.M, i, none⟩ (.int .u32 v)) := by
  refine h.wr ?_ (Fr.one w x.M i _) (by simp) ?_
  · rw [row_set h.hm]
    unfold wordCells
    rw [List.setIfInBounds_toArray, List.map_set]
  · intro u hu
    rcases List.mem_or_eq_of_mem_set hu with h1 | h1
    · exact h.mb u h1
    · rw [h1]; exact ⟨v0, v1⟩

theorem findR_bd (x : KX) (ck : Int) (mem : List Int) (w : World) (h : KerR x ck mem w) (k : Nat) (rs : List Reg) (hk : x.regs[k]? = some rs) (rights a at_ : Int) (hf : findR rights a rs = some at_) : 0 ≤ at_ ∧ at_ < x.n := by
  have hfit := (h.fit rs (List.mem_of_getElem? hk)).2
  clear hk
  induction rs with
  | nil => cases hf
  | cons r rs ih =>
    unfold findR at hf
    split at hf
    · rename_i hc
      simp only [Bool.and_eq_true, inR, decide_eq_true_eq] at hc
      simp only [Option.some.injEq] at hf
      have h1 := hfit r (by simp)
      have h2 := h1.1.b0
      omega
    · exact ih hf (fun r hr => hfit r (by simp [hr]))

def turnVal (x : KX) (k : Nat) : Value := .agg #[.pointer (some ⟨x.X, 0, none⟩), .int .i64 k]

set_option maxRecDepth 100000 in
set_option maxHeartbeats 2000000 in
theorem tfind_any (x : KX) (ck : Int) (mem : List Int) (w : World) (h : KerR x ck mem w) (k : Nat) (rs : List Reg) (hk : x.regs[k]? = some rs) (rights a : Int) (t0 : 0 ≤ rights) (t1 : rights ≤ 7) (a0 : 0 ≤ a) (a1 : a < 4294967296) :
    Calls Tryz.prog 178 #[.agg #[.pointer (some ⟨x.X, 0, none⟩), .int .i64 k], .int .i64 rights, .int .u32 a] w fun e w' => e = .returned (.tuple #[.int .i64 ((findR rights a rs).getD 0), .bool (findR rights a rs).isSome]) ∧ Fr (fun _ => False) w w' := by
  have hkl : k < x.regs.length := (List.getElem?_eq_some_iff.1 hk).1
  have hki : (k : Int) < (x.regs.length : Int) := by omega
  have hwl := h.wl
  go_enter Tryz.func178, Tryz.ntmps178
  go_wp2_with fail
  have HF0 : Hid (Fr (fun _ => False) w (w.alloc (.cells #[.pointer (some ⟨x.X, 0, none⟩), .int .i64 k] 139))) := (Fr.refl _ w).alloc _
  have hb := heap_alloc_new w (.cells #[.pointer (some ⟨x.X, 0, none⟩), .int .i64 k] 139)
  generalize w.alloc (.cells #[.pointer (some ⟨x.X, 0, none⟩), .int .i64 k] 139) = wa at *
  have hA := h.frF HF0.out
  obtain ⟨v, hv, hc, ho⟩ := hA.rg k rs hk
  have HFW := hid (fun (w1 : World) (hf : Fr (fun _ => False) wa w1) => findWith_any w1 x.gK (k * 15) rs v (by rw [← hc]; exact World.cell?_of_block (hf.block x.gK (hA.gk.elim fun cur hc => lt_of_get hc) id)) (hf.owns ho (fun _ _ h => h)) (fun r hr => ((h.fit rs (List.mem_of_getElem? hk)).2 r hr).1) ((h.fit rs (List.mem_of_getElem? hk)).1) rights a t0 t1 a0 a1)
  have c0 : wa.drew.cell? ⟨w.heap.size, 0, none⟩ = some (.pointer (some ⟨x.X, 0, none⟩)) := row_cell hb 0
  have c1 : wa.drew.cell? ⟨w.heap.size, 1, none⟩ = some (.int .i64 k) := row_cell hb 1
  have cw : wa.drew.cell? ⟨x.X, 4, none⟩ = some (.slice (some ⟨x.gK, 0, none⟩) x.regs.length x.cK) := row_cell hA.hx _
  clear h hA hv hc ho hb hk
  go_region_law
    (first
      | (refine step_call Tryz.func64 (by kernel_rfl) (by kernel_rfl) (by rfl) (by rfl) [.pointer (some ⟨x.gK, k * 15, none⟩), .int .i64 rights, .int .u32 a] (by rfl) ((HFW.out _ ?_).mono ?_); exact (Fr.refl _ wa).drew; rintro e w2 ⟨rfl, hf2⟩; refine ⟨_, rfl, ?_⟩))
  all_goals
    have HF2 := hid (HF0.out.drew.step hf2 (fun _ h => .inl h))
    clear hf2 c0 c1 cw
    go_wp2_with fail
    go_ret2
    exact ⟨rfl, HF2.out⟩

/-- A word of the memory that a ward reads. -/
def readM (rs : List Reg) (rights : Int) (mem : List Int) (a : Int) : Option Int := (findR rights a rs).map (fun i => mem.getD i.toNat 0)

theorem KerR.word {x : KX} {ck : Int} {mem : List Int} {w : World} (h : KerR x ck mem w) (i : Nat) (hi : i < x.n) : w.cell? ⟨x.M, i, none⟩ = some (.int .u32 (mem.getD i 0)) := by
  rw [row_cell h.hm, List.getElem?_toArray, wordCells, List.getElem?_map, List.getD_eq_getElem?_getD, List.getElem?_eq_getElem (by rw [h.hn]; exact hi)]
  rfl

set_option maxRecDepth 100000 in
set_option maxHeartbeats 2000000 in
theorem tread_any (x : KX) (ck : Int) (mem : List Int) (w : World) (h : KerR x ck mem w) (k : Nat) (rs : List Reg) (hk : x.regs[k]? = some rs) (rights a : Int) (t0 : 0 ≤ rights) (t1 : rights ≤ 7) (a0 : 0 ≤ a) (a1 : a < 4294967296) :
    Calls Tryz.prog 175 #[.agg #[.pointer (some ⟨x.X, 0, none⟩), .int .i64 k], .int .i64 rights, .int .u32 a] w fun e w' => e = .returned (.tuple #[.int .u32 ((readM rs rights mem a).getD 0), .bool (readM rs rights mem a).isSome]) ∧ Fr (fun _ => False) w w' := by
  have H := hid h
  have HK := hid hk
  have HFD := hid (fun (w1 : World) (hf : Fr (fun _ => False) w w1) => tfind_any x ck mem w1 (h.frF hf) k rs hk rights a t0 t1 a0 a1)
  have HBD := hid (findR_bd x ck mem w h k rs hk rights a)
  unfold readM
  generalize findR rights a rs = q at *
  clear h hk
  go_enter Tryz.func175, Tryz.ntmps175
  go_wp2_with fail
  refine (HFD.out _ ((Fr.refl _ w).alloc _)).mono ?_
  rintro e w1 ⟨rfl, hf1⟩
  have HF1 := hid (((Fr.refl _ w).alloc _).step hf1 (fun _ h => .inl h))
  have HB := hid (hf1.get (heap_alloc_new w _) id)
  clear hf1 HFD
  cases q with
  | none =>
    go_wp2_with fail
    go_ret2
    exact ⟨rfl, HF1.out⟩
  | some i =>
    have hb := HBD.out i rfl
    have H1 := hid (H.out.frF HF1.out)
    obtain ⟨j, rfl⟩ := Int.eq_ofNat_of_zero_le hb.1
    have hj : j < x.n := by omega
    have hji : (j : Int) < (x.n : Int) := by omega
    have b0 : w1.cell? ⟨w.heap.size, 0, none⟩ = some (.pointer (some ⟨x.X, 0, none⟩)) := row_cell HB.out 0
    have k0 : w1.cell? ⟨x.X, 0, none⟩ = some (.slice (some ⟨x.M, 0, none⟩) x.n x.n) := row_cell H1.out.hx _
    have m0 := H1.out.word j hj
    clear hb
    go_wp2_with fail
    go_ret2
    exact ⟨rfl, HF1.out⟩

set_option maxRecDepth 100000 in
set_option maxHeartbeats 1000000 in
theorem tfetch_any (x : KX) (ck : Int) (mem : List Int) (w : World) (h : KerR x ck mem w) (k : Nat) (rs : List Reg) (hk : x.regs[k]? = some rs) (a : Int) (a0 : 0 ≤ a) (a1 : a < 4294967296) :
    Calls Tryz.prog 165 #[turnVal x k, .int .u32 a] w fun e w' => e = .returned (.tuple #[.int .u32 ((readM rs 4 mem a).getD 0), .bool (readM rs 4 mem a).isSome]) ∧ Fr (fun _ => False) w w' := by
  have HRD := hid (fun (w1 : World) (hf : Fr (fun _ => False) w w1) => tread_any x ck mem w1 (h.frF hf) k rs hk 4 a (by omega) (by omega) a0 a1)
  generalize readM rs 4 mem a = q at *
  unfold turnVal
  clear h hk
  go_enter Tryz.func165, Tryz.ntmps165
  go_wp2_with fail
  refine (HRD.out _ ((Fr.refl _ w).alloc _)).mono ?_
  rintro e w1 ⟨rfl, hf1⟩
  have HF1 := hid (((Fr.refl _ w).alloc _).step hf1 (fun _ h => .inl h))
  clear hf1
  go_wp2_with fail
  go_ret2
  exact ⟨rfl, HF1.out⟩

end Go.Proofs.YthmcheoehcmglaaGreat
/- A struct within a block, loaded and stored. -/
namespace Go.Proofs.YthmcheoehcmglaaGreat
open Go.RowKit
set_option linter.unusedVariables false

theorem splice_cons {α : Type} (L : List α) (o : Nat) (v : α) (r : List α) (h : o + (v :: r).length ≤ L.length) : splice (L.set o v) (o + 1) r = splice L o (v :: r) := by
  unfold splice
  simp only [List.length_cons] at h ⊢
  rw [List.drop_set_of_lt (by omega), List.take_succ_eq_append_getElem (by simp; omega), List.getElem_set_self, List.take_set_of_le (Nat.le_refl _)]
  simp only [List.append_assoc, List.cons_append, List.nil_append]
  rw [show o + 1 + r.length = o + (r.length + 1) by omega]

theorem heap_setCells {b : Nat} {t : TypeId} : ∀ (vs : List Value) (o : Nat) (w : World) (cs : List Value), w.heap[b]? = some (.cells cs.toArray t (0, 0)) → o + vs.length ≤ cs.length →
    (w.setCells b o vs).heap[b]? = some (.cells (splice cs o vs).toArray t (0, 0)) ∧ Fr (fun i => i = b) w (w.setCells b o vs) := by
  intro vs
  induction vs with
  | nil => intro o w cs h _; exact ⟨by simpa [World.setCells, splice] using h, Fr.refl _ _⟩
  | cons v r ih =>
    intro o w cs h hl
    have h1 := row_set h o v
    rw [List.setIfInBounds_toArray] at h1
    have := ih (o + 1) _ (cs.set o v) h1 (by simp only [List.length_cons, List.length_set] at *; omega)
    rw [splice_cons cs o v r hl] at this
    exact ⟨this.1, (Fr.one w b o v).step this.2 (fun i hi => .inl hi)⟩

/-- A struct within a block is stored. -/
theorem wpList_storeMid {P : Program} {ops : Array Oper} {rest : List Oper} {o : Oper} {a : Act} {w : World} {Q : Exit → Act → World → Prop} (hgd : o.guard = none) (ty : TypeId) (x y : Operand) (ho : o.op = .store ty x y)
    (g off : Nat) (t : TypeId) (old cells : List Value) (hx : a.eval x = .pointer (some ⟨g, off, none⟩)) (hy : a.eval y = .agg cells.toArray) (hg : w.heap[g]? = some (.cells old.toArray t (0, 0)))
    (hi : (P.info? ty).map (·.size) = some cells.toArray.size) (hol : off + cells.length ≤ old.length) (h1 : cells.toArray.all (·.oneCell') = true)
    (h : ∀ w', w'.heap[g]? = some (.cells (splice old off cells).toArray t (0, 0)) → Fr (fun i => i = g) w w' → wpList P ops Q rest (a.put o.dst undef) w') : wpList P ops Q (o :: rest) a w := by
  have hs := heap_setCells cells off w old hg hol
  refine wpList_store_mid hgd ty x y ho g off cells.toArray hx hy ?_ hi h1 ?_
  · intro j hj
    simp only [List.size_toArray] at hj
    refine ⟨?_, row_frozen hg _⟩
    rw [row_cell hg, List.getElem?_toArray, List.getElem?_eq_getElem (by omega)]
    rfl
  · exact h _ hs.1 hs.2
theorem wpList_loadMid {P : Program} {ops : Array Oper} {rest : List Oper} {o : Oper} {a : Act} {w : World} {Q : Exit → Act → World → Prop} (hgd : o.guard = none) (ty : TypeId) (x : Operand) (ho : o.op = .load ty x)
    (g off : Nat) (t : TypeId) (old cells : List Value) {d : TypeDesc} (hx : a.eval x = .pointer (some ⟨g, off, none⟩)) (hg : w.heap[g]? = some (.cells old.toArray t (0, 0))) (hc : cells = (old.drop off).take cells.length)
    (hu : P.underlying ty = some d) (hd : d.isRow = true) (hi : (P.info? ty).map (·.size) = some cells.length)
    (h : wpList P ops Q rest (a.put o.dst (.agg cells.toArray)) w) : wpList P ops Q (o :: rest) a w := by
  refine wpList_load_mid hgd ty x ho g off hx cells d ?_ hu hd hi h
  intro j v hv
  rw [row_cell hg, List.getElem?_toArray]
  rw [hc, List.getElem?_take] at hv
  split at hv
  · rw [List.getElem?_drop] at hv; exact hv
  · cases hv
theorem splice_get {α : Type} (L : List α) (off : Nat) (cs : List α) (h : off + cs.length ≤ L.length) (i : Nat) : (splice L off cs)[i]? = if off ≤ i ∧ i < off + cs.length then cs[i - off]? else L[i]? := by
  unfold splice
  by_cases h1 : i < off
  · rw [if_neg (by omega), List.getElem?_append_left (by simp; omega), List.getElem?_take, if_pos h1]
  · rw [List.getElem?_append_right (by simp; omega)]
    simp only [List.length_take, Nat.min_eq_left (show off ≤ L.length by omega)]
    by_cases h2 : i < off + cs.length
    · rw [if_pos (by omega), List.getElem?_append_left (by omega)]
    · rw [if_neg (by omega), List.getElem?_append_right (by omega), List.getElem?_drop]
      congr 1
      omega
theorem splice_map {α β : Type} (f : α → β) (L : List α) (off : Nat) (cs : List α) : splice (L.map f) off (cs.map f) = (splice L off cs).map f := by
  simp [splice, List.map_take, List.map_drop]

end Go.Proofs.YthmcheoehcmglaaGreat
/- The processor: every code by its number; an instruction. -/
namespace Go.Proofs.YthmcheoehcmglaaGreat
open Go.RowKit
set_option linter.unusedVariables false
attribute [local go_sem ↓] Go.wp_at_zero Go.wp_at_succ

theorem do_any {σ : Type} {O : Ops σ} {rv : Value} {S W : Nat → Prop} {R Q : σ → World → Prop} (ok : OutOk O rv S W R Q) (w : World) (m : σ) (hR : R m w) (B : Nat) (hB : ¬ S B) (s : StV) (c n : Int) (a b : Nat) (h : WorkAt w B s c a b n (.iface 139 rv)) (hs : StB s) (ha : a < 8) (hb : b < 8) (n0 : 0 ≤ n) (n1 : n < 65536)
    (code f cyc : Nat) (hf : codeL[code]? = some (f, cyc)) :
    Calls Tryz.prog f #[.pointer (some ⟨B, 0, none⟩)] w fun e w' => e = .returned (.int .i64 (workM O code a b n s m).1) ∧ WorkAt w' B (workM O code a b n s m).2.1 c a b n (.iface 139 rv) ∧ Q (workM O code a b n s m).2.2 w' ∧ Fr (fun i => W i ∨ i = B) w w' := by
  have h8 := hs.l
  obtain ⟨x, hx⟩ : ∃ x, s.regs[a]? = some x := ⟨_, List.getElem?_eq_getElem (by omega)⟩
  obtain ⟨y, hy⟩ : ∃ y, s.regs[b]? = some y := ⟨_, List.getElem?_eq_getElem (by omega)⟩
  have hx1 := hs.r x (List.mem_of_getElem? hx)
  have hy1 := hs.r y (List.mem_of_getElem? hy)
  have ex : s.regs.getD a 0 = x := by rw [List.getD_eq_getElem?_getD, hx]; rfl
  have ey : s.regs.getD b 0 = y := by rw [List.getD_eq_getElem?_getD, hy]; rfl
  have keep : ∀ w', Fr (fun i => i = B) w w' → Q m w' := fun w' hf => ok.toQ m w' (ok.fr m w w' _ hR hf (fun i hi => by rw [hi]; exact hB))
  have wid : ∀ w', Fr (fun i => i = B) w w' → Fr (fun i => W i ∨ i = B) w w' := fun w' hf => hf.mono (fun i hi => .inr hi)
  have hk : code < 18 := (List.getElem?_eq_some_iff.1 hf).1
  match code, hk with
  | 0, _ =>
    cases hf
    simp only [workM]
    exact (wload_any w B s c n a b _ h h8 ha x y hx hy hx1.1 hx1.2 hy1.1 hy1.2).mono fun e w' ⟨h1, h2, h3⟩ => ⟨h1, h2, keep w' h3, wid w' h3⟩
  | 1, _ =>
    cases hf
    simp only [workM, ex]
    exact (high_any w B s c n a b _ h h8 ha x hx hx1.1 hx1.2).mono fun e w' ⟨h1, h2, h3⟩ => ⟨h1, h2, keep w' h3, wid w' h3⟩
  | 2, _ =>
    cases hf
    simp only [workM, ey]
    exact (move_any w B s c n a b _ h h8 ha x y hx hy hx1.1 hx1.2 hy1.1 hy1.2).mono fun e w' ⟨h1, h2, h3⟩ => ⟨h1, h2, keep w' h3, wid w' h3⟩
  | 3, _ =>
    cases hf
    simp only [workM, ex, ey]
    exact (add_any w B s c n a b _ h h8 ha x y hx hy hx1.1 hx1.2 hy1.1 hy1.2).mono fun e w' ⟨h1, h2, h3⟩ => ⟨h1, h2, keep w' h3, wid w' h3⟩
  | 4, _ =>
    cases hf
    simp only [workM, ex, ey]
    exact (sub_any w B s c n a b _ h h8 ha x y hx hy hx1.1 hx1.2 hy1.1 hy1.2).mono fun e w' ⟨h1, h2, h3⟩ => ⟨h1, h2, keep w' h3, wid w' h3⟩
  | 5, _ =>
    cases hf
    simp only [workM, ex, ey]
    exact (mul_any w B s c n a b _ h h8 ha x y hx hy hx1.1 hx1.2 hy1.1 hy1.2).mono fun e w' ⟨h1, h2, h3⟩ => ⟨h1, h2, keep w' h3, wid w' h3⟩
  | 6, _ =>
    cases hf
    simp only [workM, ex, ey]
    by_cases hz : y = 0
    · subst hz
      rw [if_pos rfl]
      exact (div_no w B s c n a b _ h h8 hy).mono fun e w' ⟨h1, h2⟩ => ⟨h1, h.fr h2, ok.toQ m w' (ok.fr m w w' _ hR h2 (fun _ h => h.elim)), h2.mono (fun _ h => h.elim)⟩
    · rw [if_neg hz]
      exact (div_any w B s c n a b _ h h8 ha x y hx hy hx1.1 hx1.2 hy1.1 hy1.2 hz).mono fun e w' ⟨h1, h2, h3⟩ => ⟨h1, h2, keep w' h3, wid w' h3⟩
  | 7, _ =>
    cases hf
    simp only [workM, ex, ey]
    exact (and_any w B s c n a b _ h h8 ha x y hx hy hx1.1 hx1.2 hy1.1 hy1.2).mono fun e w' ⟨h1, h2, h3⟩ => ⟨h1, h2, keep w' h3, wid w' h3⟩
  | 8, _ =>
    cases hf
    simp only [workM, ex, ey]
    exact (or_any w B s c n a b _ h h8 ha x y hx hy hx1.1 hx1.2 hy1.1 hy1.2).mono fun e w' ⟨h1, h2, h3⟩ => ⟨h1, h2, keep w' h3, wid w' h3⟩
  | 9, _ =>
    cases hf
    simp only [workM, ex, ey]
    exact (xor_any w B s c n a b _ h h8 ha x y hx hy hx1.1 hx1.2 hy1.1 hy1.2).mono fun e w' ⟨h1, h2, h3⟩ => ⟨h1, h2, keep w' h3, wid w' h3⟩
  | 10, _ =>
    cases hf
    simp only [workM, ex, ey]
    exact (left_any w B s c n a b _ h h8 ha x y hx hy hx1.1 hx1.2 hy1.1 hy1.2).mono fun e w' ⟨h1, h2, h3⟩ => ⟨h1, h2, keep w' h3, wid w' h3⟩
  | 11, _ =>
    cases hf
    simp only [workM, ex, ey]
    exact (right_any w B s c n a b _ h h8 ha x y hx hy hx1.1 hx1.2 hy1.1 hy1.2).mono fun e w' ⟨h1, h2, h3⟩ => ⟨h1, h2, keep w' h3, wid w' h3⟩
  | 12, _ =>
    cases hf
    simp only [workM, ey]
    refine (get_any ok w m hR B hB s c n a b h h8 ha y hy).mono fun e w' hp => ?_
    cases hg : O.get m ((y + n) % 4294967296) with
    | none => rw [hg] at hp; exact ⟨hp.1, h.fr hp.2, ok.toQ m w' (ok.fr m w w' _ hR hp.2 (fun _ h => h.elim)), hp.2.mono (fun _ h => h.elim)⟩
    | some v => rw [hg] at hp; exact ⟨hp.1, hp.2.1, keep w' hp.2.2, wid w' hp.2.2⟩
  | 13, _ =>
    cases hf
    simp only [workM, ex, ey]
    refine (put_any ok w m hR B hB s c n a b h h8 x y hx hy hx1.1 hx1.2).mono fun e w' hp => ?_
    have hw : WorkAt w' B s c a b n (.iface 139 rv) := hp.2.2.get h (fun hi => hB (ok.sub B hi))
    cases hg : O.put m ((y + n) % 4294967296) x with
    | none => rw [hg] at hp; exact ⟨hp.1, hw, hp.2.1, hp.2.2.mono (fun _ h => .inl h)⟩
    | some v => rw [hg] at hp; exact ⟨hp.1, hw, hp.2.1, hp.2.2.mono (fun _ h => .inl h)⟩
  | 14, _ =>
    cases hf
    exact (jump_any w B s c n a b _ h h8 x hx hx1.1 hx1.2).mono fun e w' ⟨h1, h2, h3⟩ => ⟨h1, h2, keep w' h3, wid w' h3⟩
  | 15, _ =>
    cases hf
    simp only [workM, ex]
    exact (zero_any w B s c n a b _ h h8 x hx hx1.1 hx1.2).mono fun e w' ⟨h1, h2, h3⟩ => ⟨h1, h2, keep w' h3, wid w' h3⟩
  | 16, _ =>
    cases hf
    simp only [workM, ex]
    exact (minus_any w B s c n a b _ h h8 x hx hx1.1 hx1.2).mono fun e w' ⟨h1, h2, h3⟩ => ⟨h1, h2, keep w' h3, wid w' h3⟩
  | 17, _ =>
    cases hf
    exact call_any ok w m hR B hB s c n a b h hs n0 n1

def goes (s : StV) : Bool := s.status == 0 && !s.y

set_option maxRecDepth 100000 in
set_option maxHeartbeats 1000000 in
theorem goesOn_any (w : World) (b off : Nat) (s : StV) (h1 : w.cell? ⟨b, off + 9, none⟩ = some (.int .i64 s.status)) (h2 : w.cell? ⟨b, off + 12, none⟩ = some (.bool s.y)) :
    Calls Tryz.prog 89 #[.pointer (some ⟨b, off, none⟩)] w fun e w' => e = .returned (.bool (goes s)) ∧ w' = w := by
  by_cases hs : s.status = 0
  · have HG : Hid (goes s = !s.y) := by simp [Hid, goes, hs]
    go_enter Tryz.func89, Tryz.ntmps89
    go_wp2_with fail
    go_ret
    exact ⟨by rw [HG.out]; rfl, rfl⟩
  · have HG : Hid (goes s = false) := by simp [Hid, goes, hs]
    go_enter Tryz.func89, Tryz.ntmps89
    go_wp2_with fail
    go_ret
    exact ⟨by rw [HG.out]; rfl, rfl⟩

end Go.Proofs.YthmcheoehcmglaaGreat
