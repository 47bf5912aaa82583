/- A cycle of the machine: the model. -/
import Derived.Test.YthmcheoehcmglaaGreatC14
namespace Go.Proofs.YthmcheoehcmglaaGreat
open Go.RowKit
set_option linter.unusedVariables false

/-- Which turn (or gap behind it) a cycle belongs to, and how many cycles of both are over. -/
def slotR (gap : Int) : List Int → Nat → Int → Nat × Int
  | [], k, r => (k, r)
  | q :: qs, k, r => if r < q + gap then (k, r) else slotR gap qs (k + 1) (r - (q + gap))

theorem accN_mono {gap : Int} {qs : List Int} (h : QsOk gap qs) : ∀ j d, j + d ≤ qs.length → accN gap qs j ≤ accN gap qs (j + d) := by
  intro j d
  induction d with
  | zero => intro _; exact Int.le_refl _
  | succ d ih =>
    intro hd
    have h1 := ih (by omega)
    have h2 := h.at (j + d) (by omega)
    have h3 := h.g0
    rw [show j + (d + 1) = (j + d) + 1 by omega]
    simp only [accN]
    omega

theorem slotR_from {gap : Int} {qs : List Int} (h : QsOk gap qs) (k : Nat) (r : Int) (hk : k < qs.length) (h1 : accN gap qs k ≤ r) (h2 : r < accN gap qs (k + 1)) : ∀ d j, j + d = k → slotR gap (qs.drop j) j (r - accN gap qs j) = (k, r - accN gap qs k) := by
  intro d
  induction d with
  | zero =>
    intro j hj
    obtain rfl : j = k := by omega
    rw [List.drop_eq_getElem_cons hk]
    simp only [slotR]
    have e : accN gap qs (j + 1) = accN gap qs j + (qs[j] + gap) := by simp only [accN]; rw [List.getD_eq_getElem?_getD, List.getElem?_eq_getElem hk]; rfl
    rw [if_pos (by omega)]
  | succ d ih =>
    intro j hj
    have hjl : j < qs.length := by omega
    rw [List.drop_eq_getElem_cons hjl]
    simp only [slotR]
    have e : accN gap qs (j + 1) = accN gap qs j + (qs[j] + gap) := by simp only [accN]; rw [List.getD_eq_getElem?_getD, List.getElem?_eq_getElem hjl]; rfl
    have hm := accN_mono h (j + 1) d (by omega)
    rw [show j + 1 + d = k by omega] at hm
    rw [if_neg (by omega), ← ih (j + 1) (by omega)]
    congr 1
    omega
theorem slotR_eq {gap : Int} {qs : List Int} (h : QsOk gap qs) (k : Nat) (r : Int) (hk : k < qs.length) (h1 : accN gap qs k ≤ r) (h2 : r < accN gap qs (k + 1)) : slotR gap qs 0 r = (k, r - accN gap qs k) := by
  have := slotR_from h k r hk h1 h2 k 0 (by omega)
  simpa [accN] using this

/-- A machine's state. -/
structure KM where
  ck : Int
  mem : List Int
  sts : List StV
  devs : List DevV

def roundK (x : KX) : Int := accN x.gap x.qs x.qs.length
def slotK (x : KX) (ck : Int) : Nat × Int := slotR x.gap x.qs 0 (ck % roundK x)
/-- What a cycle does, ahead of the clock. -/
def actK (x : KX) (s : KM) : KM :=
  let k := (slotK x s.ck).1
  let r := (slotK x s.ck).2
  let q := x.qs.getD k 0
  if r < q then
    let c := cycleM (opsK x k s.ck) (s.sts.getD k zeroSt) (s.mem, s.devs)
    { s with mem := c.2.1, devs := c.2.2, sts := s.sts.set k c.1 }
  else
    let c := changeM x k (r - q == 0) (r - q == x.gap - 1) s.mem s.sts
    { s with mem := c.1, sts := c.2 }
def tickK (s : KM) : KM := { s with ck := s.ck + 1, mem := s.mem.set 1 ((s.ck + 1) % 4294967296) }
def cycleK (x : KX) (s : KM) : KM := tickK (actK x s)

/-- All save areas hold states. -/
def AreaOk (x : KX) (mem : List Int) : Prop := ∀ k, k < x.regs.length → StB (loadSt mem (16 + 16 * k))

theorem loadSt_congr (m m' : List Int) (o : Nat) (hl : m.length = m'.length) (h : ∀ i, o ≤ i → i < o + 13 → m.getD i 0 = m'.getD i 0) : loadSt m o = loadSt m' o := by
  unfold loadSt
  have e : (m.drop o).take 8 = (m'.drop o).take 8 := by
    apply List.ext_getElem?
    intro i
    rw [List.getElem?_take, List.getElem?_take]
    by_cases hi : i < 8
    · rw [if_pos hi, if_pos hi, List.getElem?_drop, List.getElem?_drop]
      have := h (o + i) (by omega) (by omega)
      rw [List.getD_eq_getElem?_getD, List.getD_eq_getElem?_getD] at this
      by_cases hb : o + i < m.length
      · rw [List.getElem?_eq_getElem hb, List.getElem?_eq_getElem (by omega)] at this ⊢
        simpa using this
      · rw [List.getElem?_eq_none (by omega), List.getElem?_eq_none (by omega)]
    · rw [if_neg hi, if_neg hi]
  rw [e, h (o + 8) (by omega) (by omega), h (o + 9) (by omega) (by omega), h (o + 10) (by omega) (by omega), h (o + 11) (by omega) (by omega), h (o + 12) (by omega) (by omega)]

theorem getD_set_eq {α : Type} (l : List α) (i : Nat) (v d : α) (j : Nat) : (l.set i v).getD j d = if i = j ∧ j < l.length then v else l.getD j d := by
  rw [List.getD_eq_getElem?_getD, List.getD_eq_getElem?_getD, List.getElem?_set]
  by_cases h : i = j
  · subst h
    rw [if_pos rfl]
    by_cases hl : i < l.length
    · rw [if_pos hl, if_pos ⟨rfl, hl⟩]; rfl
    · rw [if_neg hl, if_neg (fun h => hl h.2), List.getElem?_eq_none (by omega)]
  · rw [if_neg h, if_neg (fun h' => h h'.1)]
theorem getD_splice (l : List Int) (o : Nat) (cs : List Int) (h : o + cs.length ≤ l.length) (j : Nat) : (splice l o cs).getD j 0 = if o ≤ j ∧ j < o + cs.length then cs.getD (j - o) 0 else l.getD j 0 := by
  rw [List.getD_eq_getElem?_getD, splice_get l o cs h, List.getD_eq_getElem?_getD, List.getD_eq_getElem?_getD]
  split <;> rfl

/-- A state that was saved is loaded as it was. -/
theorem loadSt_save (mem : List Int) (o : Nat) (s : StV) (h8 : s.regs.length = 8) (h : o + 16 ≤ mem.length) : loadSt (splice mem o (stWords s)) o = s := by
  have hw : (stWords s).length = 13 := by simp [stWords, h8]
  have e : ∀ j, j < 13 → (splice mem o (stWords s)).getD (o + j) 0 = (stWords s).getD j 0 := by
    intro j hj
    rw [getD_splice _ _ _ (by omega), if_pos (by omega), Nat.add_sub_cancel_left]
  obtain ⟨r0, r1, r2, r3, r4, r5, r6, r7, hr⟩ := st13 _ h8
  unfold loadSt
  rw [e 8 (by omega), e 9 (by omega), e 10 (by omega), e 11 (by omega), e 12 (by omega)]
  have e8 : ((splice mem o (stWords s)).drop o).take 8 = s.regs := by
    apply List.ext_getElem?
    intro i
    rw [List.getElem?_take]
    by_cases hi : i < 8
    · rw [if_pos hi, List.getElem?_drop, splice_get _ _ _ (by omega), if_pos (by omega), Nat.add_sub_cancel_left]
      unfold stWords
      rw [List.getElem?_append_left (by omega)]
    · rw [if_neg hi, List.getElem?_eq_none (by omega)]
  rw [e8]
  obtain ⟨rg, pl, st, ca, bu, y⟩ := s
  simp only at hr
  subst hr
  cases y <;> rfl

theorem endM_load (x : KX) (k : Nat) (mem : List Int) (sts : List StV) (s : StV) (hs : sts[k]? = some s) (h8 : s.regs.length = 8) (hk : k < x.regs.length) (hl : 16 + 16 * x.regs.length ≤ mem.length) (j : Nat) (hj : j < x.regs.length) :
    loadSt (endM x k mem sts).1 (16 + 16 * j) = if j = k then { s with y := false } else loadSt mem (16 + 16 * j) := by
  have hw : (stWords { s with y := false }).length = 13 := by simp [stWords, h8]
  have hsp : (splice mem (16 + 16 * k) (stWords { s with y := false })).length = mem.length := length_splice _ _ _ (by omega)
  have e0 : (endM x k mem sts).1 = (splice mem (16 + 16 * k) (stWords { s with y := false })).set 0 (x.regs.length : Int) := by unfold endM; rw [getD_of hs]
  have e1 : loadSt (endM x k mem sts).1 (16 + 16 * j) = loadSt (splice mem (16 + 16 * k) (stWords { s with y := false })) (16 + 16 * j) := by
    rw [e0]
    refine loadSt_congr _ _ _ (by simp) ?_
    intro i h1 h2
    rw [getD_set_eq, if_neg (by omega)]
  rw [e1]
  by_cases hjk : j = k
  · subst hjk
    rw [if_pos rfl, loadSt_save _ _ _ (by exact h8) (by omega)]
  · rw [if_neg hjk]
    refine loadSt_congr _ _ _ hsp ?_
    intro i h1 h2
    rw [getD_splice _ _ _ (by omega), if_neg (by omega)]

theorem workM_C {σ : Type} {O : Ops σ} {rv : Value} {S W : Nat → Prop} {R Q : σ → World → Prop} (ok : OutOk O rv S W R Q) (m : σ) (w : World) (hR : R m w) (code a b : Nat) (n : Int) (s : StV) (h : StB s) : 0 ≤ (workM O code a b n s m).1 ∧ (workM O code a b n s m).1 ≤ 5 := by
  unfold workM
  dsimp only
  split <;> (try simp)
  · split <;> simp
  · split <;> simp
  · split <;> simp
  · exact ok.callC m w s n hR h
theorem instrM_C {σ : Type} {O : Ops σ} {rv : Value} {S W : Nat → Prop} {R Q : σ → World → Prop} (ok : OutOk O rv S W R Q) (m : σ) (w : World) (hR : R m w) (s : StV) (h : StB s) : 0 ≤ (instrM O s m).1 ∧ (instrM O s m).1 ≤ 5 := by
  have hp : StB { s with place := (s.place + 1) % 4294967296 } := h.place _ (by omega) (by omega)
  unfold instrM
  split
  · simp
  · split
    · simp
    · split
      · simp
      · rename_i v _ _ _ _ _ _
        have := workM_C ok m w hR ((v / 16777216).toNat - 1) (v / 1048576 % 8).toNat (v / 65536 % 8).toNat (v % 65536) _ hp
        dsimp only
        split
        · simp
        · exact this

theorem cycleM_B {σ : Type} {O : Ops σ} {rv : Value} {S W : Nat → Prop} {R Q : σ → World → Prop} (ok : OutOk O rv S W R Q) (m : σ) (w : World) (hR : R m w) (s : StV) (h : StB s) : StB (cycleM O s m).1 := by
  unfold cycleM
  split
  · exact h
  · split
    · rename_i hb
      have := h.b1
      exact ⟨h.l, h.r, h.p0, h.p1, h.s0, h.s1, h.c0, h.c1, by simp only; omega, by simp only; omega⟩
    · unfold stepM
      have hB := instrM_B ok m w hR s h
      simp only
      split
      · exact hB
      · have hC := instrM_C ok m w hR s h
        exact ⟨h.l, h.r, h.p0, h.p1, by simp only; omega, by simp only; omega, hC.1, hC.2, h.b0, h.b1⟩

end Go.Proofs.YthmcheoehcmglaaGreat
