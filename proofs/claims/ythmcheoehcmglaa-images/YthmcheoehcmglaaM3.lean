/- What the net and the machine say of one image: the same. -/
import Derived.Test.YthmcheoehcmglaaR12
import Derived.Test.YthmcheoehcmglaaW18
namespace Go.Proofs.Ythmcheoehcmglaa
open Go.RowKit
set_option linter.unusedVariables false

abbrev RegP := (Int × Int × Int × Int) × List Int
def inP (a : Int) (p : RegP) : Bool := decide (p.1.2.2.1 ≤ a) && decide (a < p.1.2.2.1 + p.1.2.1)
def findP (L : List RegP) (a : Int) : Int := ((L.find? (inP a)).map (fun p => p.2.getD (a - p.1.2.2.1).toNat 0)).getD 0

theorem findW_P (L : List RReg) (a : Int) : findW L a = findP (L.map (fun r => (r.r, r.ws))) a := by
  unfold findW findP
  rw [List.find?_map]
  simp only [Option.map_map]
  rfl

theorem findP_app (A B : List RegP) (a : Int) : findP (A ++ B) a = if A.any (inP a) then findP A a else findP B a := by
  unfold findP
  rw [List.find?_append]
  cases h : A.find? (inP a) with
  | none =>
    have : A.any (inP a) = false := by
      rw [List.any_eq_false]
      exact fun x hx => List.find?_eq_none.1 h x hx
    rw [this]
    simp
  | some p =>
    have : A.any (inP a) = true := List.any_eq_true.2 ⟨p, List.mem_of_find?_eq_some h, List.find?_some h⟩
    rw [this]
    simp
theorem findP_none (L : List RegP) (a : Int) (h : L.any (inP a) = false) : findP L a = 0 := by
  unfold findP
  rw [List.find?_eq_none.2 (fun x hx => List.any_eq_false.1 h x hx)]
  rfl
theorem findP_zero (L : List RegP) (a : Int) (h : ∀ p ∈ L, ∀ i, p.2.getD i 0 = 0) : findP L a = 0 := by
  unfold findP
  cases hf : L.find? (inP a) with
  | none => rfl
  | some p => exact h p (List.mem_of_find?_eq_some hf) _

/-- A ward's regions with their words. -/
def wregs (x : WardV) : List RegP := x.regs.zip ((x.regs.map (fun r => List.replicate r.2.1.toNat (0 : Int))).modifyHead (fun z => splice z 0 x.prog))

theorem wregs_mem (x : WardV) (p : RegP) (h : p ∈ wregs x) : p.1 ∈ x.regs := by
  obtain ⟨r, s⟩ := p
  exact (List.of_mem_zip h).1

theorem rep_getD (n i : Nat) : (List.replicate n (0 : Int)).getD i 0 = 0 := by
  simp only [List.getD_eq_getElem?_getD, List.getElem?_replicate]
  split <;> rfl

theorem zeros_mem (rs : List (Int × Int × Int × Int)) (p : RegP) (h : p ∈ rs.zip (rs.map (fun r => List.replicate r.2.1.toNat (0 : Int)))) : p.2 = List.replicate p.1.2.1.toNat 0 := by
  induction rs with
  | nil => simp at h
  | cons r rs ih =>
    simp only [List.map_cons, List.zip_cons_cons, List.mem_cons] at h
    rcases h with rfl | h
    · rfl
    · exact ih h

theorem wregs_cons (x : WardV) (r : Int × Int × Int × Int) (rs : List (Int × Int × Int × Int)) (h : x.regs = r :: rs) : wregs x = (r, splice (List.replicate r.2.1.toNat 0) 0 x.prog) :: rs.zip (rs.map (fun r => List.replicate r.2.1.toNat (0 : Int))) := by
  unfold wregs
  rw [h]
  rfl

theorem findP_wregs (x : WardV) (hg : WardGood x) (a : Int) : findP (wregs x) a = if firstBase x.regs ≤ a ∧ a < firstBase x.regs + x.prog.length then x.prog.getD (a - firstBase x.regs).toNat 0 else 0 := by
  match hrs : x.regs, hg.one with
  | r :: rs, _ =>
    have hp := hg.prog
    rw [wregs_cons x r rs hrs]
    rw [hrs] at hp
    simp only [firstWords, List.getD_eq_getElem?_getD, List.getElem?_cons_zero, Option.getD_some] at hp
    simp only [firstBase, List.getD_eq_getElem?_getD, List.getElem?_cons_zero, Option.getD_some]
    have h1 : (r, splice (List.replicate r.2.1.toNat 0) 0 x.prog) :: rs.zip (rs.map (fun r => List.replicate r.2.1.toNat (0 : Int))) = [(r, splice (List.replicate r.2.1.toNat 0) 0 x.prog)] ++ rs.zip (rs.map (fun r => List.replicate r.2.1.toNat (0 : Int))) := rfl
    rw [h1, findP_app]
    have h2 : findP (rs.zip (rs.map (fun r => List.replicate r.2.1.toNat (0 : Int)))) a = 0 := findP_zero _ _ (fun p hp i => by rw [zeros_mem _ p hp]; exact rep_getD _ _)
    rw [h2]
    by_cases hi : inP a (r, splice (List.replicate r.2.1.toNat 0) 0 x.prog) = true
    · have h3 : findP [(r, splice (List.replicate r.2.1.toNat 0) 0 x.prog)] a = (splice (List.replicate r.2.1.toNat 0) 0 x.prog).getD (a - r.2.2.1).toNat 0 := by
        unfold findP
        simp only [List.find?_cons, hi]
        rfl
      simp only [List.any_cons, hi, Bool.true_or, if_true]
      rw [h3]
      simp only [inP, Bool.and_eq_true, decide_eq_true_eq] at hi
      rw [List.getD_eq_getElem?_getD, splice_get _ _ _ (by rw [List.length_replicate]; omega)]
      by_cases hin : r.2.2.1 ≤ a ∧ a < r.2.2.1 + x.prog.length
      · rw [if_pos (by omega), if_pos hin]
        simp
      · rw [if_neg (by omega), if_neg hin, ← List.getD_eq_getElem?_getD]
        exact rep_getD _ _
    · have hi' : inP a (r, splice (List.replicate r.2.1.toNat 0) 0 x.prog) = false := by simpa using hi
      simp only [List.any_cons, hi', List.any_nil, Bool.false_or, Bool.false_eq_true, if_false]
      rw [if_neg]
      intro hin
      simp only [inP, Bool.and_eq_false_iff, decide_eq_false_iff_not] at hi'
      omega

theorem flat_regs : ∀ (rws : List RWard) (ws : List WardV), rws.map rkey = ws.map wkey → (rws.flatMap (·.regs)).map (fun r => (r.r, r.ws)) = ws.flatMap wregs := by
  intro rws
  induction rws with
  | nil => intro ws h; cases ws with
    | nil => rfl
    | cons x ws => simp at h
  | cons y rws ih =>
    intro ws h
    cases ws with
    | nil => simp at h
    | cons x ws =>
      simp only [List.map_cons, List.cons.injEq] at h
      simp only [List.flatMap_cons, List.map_append, ih ws h.2]
      congr 1
      have h1 := h.1
      simp only [rkey, wkey, Prod.mk.injEq] at h1
      unfold wregs
      rw [← h1.2.2.2.2, ← h1.2.2.2.1]
      exact (List.zip_map' ..).symm

theorem mem_step (m : Img) (hF : m.Fits) (k : Nat) (x : WardV) (hx : m.ws[k]? = some x) (a : Nat) :
    (memN m (k + 1)).getD a 0 = if firstBase x.regs ≤ a ∧ (a : Int) < firstBase x.regs + x.prog.length then x.prog.getD (a - firstBase x.regs).toNat 0 else if 16 + 16 * k ≤ a ∧ a < 29 + 16 * k then (stWords (st0 x.bg)).getD (a - (16 + 16 * k)) 0 else (memN m k).getD a 0 := by
  have hk : k < m.ws.length := (List.getElem?_eq_some_iff.1 hx).1
  have hl := memN_len m hF k (by omega)
  have hr := hF.reg x (List.mem_of_getElem? hx)
  have hkern := hF.kern
  have h64 := hF.m64
  have e : memN m (k + 1) = splice (splice (memN m k) (16 + 16 * k) (stWords (st0 x.bg))) (firstBase x.regs).toNat x.prog := by simp only [memN, hx]
  have hs : (stWords (st0 x.bg)).length = 13 := rfl
  have hin : 16 + 16 * k + (stWords (st0 x.bg)).length ≤ (memN m k).length := by rw [hs, hl]; omega
  have hsl : (splice (memN m k) (16 + 16 * k) (stWords (st0 x.bg))).length = m.mem.toNat := by
    unfold splice
    simp only [List.length_append, List.length_take, List.length_drop]
    omega
  rw [e, List.getD_eq_getElem?_getD, splice_get _ _ _ (by rw [hsl]; omega), splice_get _ _ _ hin]
  by_cases h1 : firstBase x.regs ≤ a ∧ (a : Int) < firstBase x.regs + x.prog.length
  · rw [if_pos (by omega), if_pos h1, List.getD_eq_getElem?_getD, show a - (firstBase x.regs).toNat = ((a : Int) - firstBase x.regs).toNat by omega]
  · rw [if_neg (by omega), if_neg h1]
    by_cases h2 : 16 + 16 * k ≤ a ∧ a < 29 + 16 * k
    · rw [if_pos (by omega), if_pos h2, List.getD_eq_getElem?_getD]
    · rw [if_neg (by omega), if_neg h2, List.getD_eq_getElem?_getD]

/-- What an image that is met has. -/
structure Img.Good (m : Img) : Prop where
  f : m.Fits
  fit : fitsB m = true
  ap : apartB m = true
  w : ∀ x ∈ m.ws, WardGood x

theorem Img.Good.base {m : Img} (h : m.Good) (k : Nat) (x : WardV) (hx : m.ws[k]? = some x) : ∃ r rs, x.regs = r :: rs ∧ 16 + 16 * (m.ws.length : Int) + 2 * m.wi.length ≤ r.2.2.1 ∧ firstBase x.regs = r.2.2.1 ∧ (x.prog.length : Int) ≤ r.2.1 := by
  have hg := h.w x (List.mem_of_getElem? hx)
  match hrs : x.regs, hg.one with
  | r :: rs, _ =>
    refine ⟨r, rs, rfl, ?_, rfl, by have := hg.prog; rw [hrs] at this; exact this⟩
    have hf := h.fit
    unfold fitsB at hf
    have := List.all_eq_true.1 hf _ (mem_owned m.ws k x hx r (by rw [hrs]; simp) m.ws.length (List.getElem?_eq_some_iff.1 hx).1)
    unfold fitB at this
    simp only [Bool.not_eq_true', Bool.or_eq_false_iff, decide_eq_false_iff_not] at this
    omega

theorem Img.Good.apart {m : Img} (h : m.Good) (k : Nat) (x : WardV) (hx : m.ws[k]? = some x) (r : Int × Int × Int × Int) (rs : List (Int × Int × Int × Int)) (hr : x.regs = r :: rs) (a : Int) (h1 : r.2.2.1 ≤ a) (h2 : a < r.2.2.1 + r.2.1) :
    ((m.ws.take k).flatMap wregs).any (inP a) = false := by
  rw [List.any_eq_false]
  intro p hp hin
  obtain ⟨z, hz, hpz⟩ := List.mem_flatMap.1 hp
  obtain ⟨i, hi, hzi⟩ := List.getElem_of_mem hz
  rw [List.length_take] at hi
  have hz' : m.ws[i]? = some z := by
    rw [← hzi, List.getElem_take, ← List.getElem?_eq_getElem]
  have hk : k < m.ws.length := (List.getElem?_eq_some_iff.1 hx).1
  have hmem := mem_owned m.ws i z hz' p.1 (wregs_mem z p hpz) k (by omega)
  have hap := (apartN_iff _).1 h.ap
  obtain ⟨rest, hrest⟩ := owned_split m.ws k 0 x r hx (by rw [hr]; rfl)
  rw [hrest] at hap
  simp only [List.take_zero, List.map_nil, List.append_nil] at hap
  have := (List.pairwise_append.1 hap).2.2 _ hmem _ List.mem_cons_self
  simp only [ApP, Bool.or_eq_false_iff, shWord] at this
  simp only [inP, Bool.and_eq_true, decide_eq_true_eq] at hin
  have h5 := ovl_of r.2.2.1 r.2.1 p.1.2.2.1 p.1.2.1 a h1 h2 hin.1 hin.2
  rw [this.2] at h5
  cases h5

theorem mem_hi (m : Img) (h : m.Good) (a : Nat) (ha : 16 + 16 * m.ws.length + 2 * m.wi.length ≤ a) : ∀ k, k ≤ m.ws.length → (memN m k).getD a 0 = findP ((m.ws.take k).flatMap wregs) a := by
  intro k
  induction k with
  | zero => intro _; exact rep_getD _ _
  | succ k ih =>
    intro hk
    have hx : m.ws[k]? = some m.ws[k] := List.getElem?_eq_getElem (by omega)
    generalize m.ws[k] = x at hx
    obtain ⟨r, rs, hrs, hb1, hb2, hb3⟩ := h.base k x hx
    rw [mem_step m h.f k x hx, if_neg (c := 16 + 16 * k ≤ a ∧ a < 29 + 16 * k) (by omega), ih (by omega)]
    rw [show m.ws.take (k + 1) = m.ws.take k ++ [x] by rw [List.take_add_one, hx]; rfl, List.flatMap_append, findP_app]
    simp only [List.flatMap_cons, List.flatMap_nil, List.append_nil]
    rw [findP_wregs x (h.w x (List.mem_of_getElem? hx))]
    by_cases hA : ((m.ws.take k).flatMap wregs).any (inP a) = true
    · rw [if_pos hA, if_neg]
      intro hin
      rw [h.apart k x hx r rs hrs a (by omega) (by omega)] at hA
      cases hA
    · rw [if_neg hA, findP_none _ _ (by simpa using hA)]

theorem mem_lo (m : Img) (h : m.Good) (a : Nat) (ha : a < 16 + 16 * m.ws.length + 2 * m.wi.length) : ∀ k, k ≤ m.ws.length → (memN m k).getD a 0 = if 16 ≤ a ∧ a / 16 - 1 < k then (stWords (st0 ((m.ws[a / 16 - 1]?.map (·.bg)).getD 0))).getD (a % 16) 0 else 0 := by
  intro k
  induction k with
  | zero => intro _; rw [if_neg (by omega)]; exact rep_getD _ _
  | succ k ih =>
    intro hk
    have hx : m.ws[k]? = some m.ws[k] := List.getElem?_eq_getElem (by omega)
    generalize m.ws[k] = x at hx
    obtain ⟨r, rs, hrs, hb1, hb2, hb3⟩ := h.base k x hx
    rw [mem_step m h.f k x hx, if_neg (by omega), ih (by omega)]
    by_cases h1 : 16 + 16 * k ≤ a ∧ a < 32 + 16 * k
    · have e : a / 16 - 1 = k := by omega
      rw [e, hx]
      simp only [Option.map_some, Option.getD_some]
      rw [if_pos (c := 16 ≤ a ∧ k < k + 1) (by omega), if_neg (c := 16 ≤ a ∧ k < k) (by omega)]
      by_cases h2 : 16 + 16 * k ≤ a ∧ a < 29 + 16 * k
      · rw [if_pos h2, show a - (16 + 16 * k) = a % 16 by omega]
      · rw [if_neg h2]
        have : a % 16 = 13 ∨ a % 16 = 14 ∨ a % 16 = 15 := by omega
        rcases this with e | e | e <;> rw [e] <;> rfl
    · rw [if_neg (by omega)]
      by_cases h3 : 16 ≤ a ∧ a / 16 - 1 < k
      · rw [if_pos h3, if_pos (by omega)]
      · rw [if_neg h3, if_neg (by omega)]

theorem key_len {rws : List RWard} {ws : List WardV} (h : rws.map rkey = ws.map wkey) : rws.length = ws.length := by
  have := congrArg List.length h
  simpa using this
theorem key_at {rws : List RWard} {ws : List WardV} (h : rws.map rkey = ws.map wkey) (k : Nat) (y : RWard) (x : WardV) (hy : rws[k]? = some y) (hx : ws[k]? = some x) : rkey y = wkey x := by
  have := congrArg (fun l => l[k]?) h
  simp only [List.getElem?_map, hy, hx, Option.map_some, Option.some.injEq] at this
  exact this

theorem saved_words (bg : Int) (i : Nat) : savedN (st0 bg) i = (stWords (st0 bg)).getD i 0 := by
  unfold savedN stWords st0 yWord
  match i with
  | 0 | 1 | 2 | 3 | 4 | 5 | 6 | 7 | 8 | 9 | 10 | 11 | 12 => rfl
  | n + 13 => rfl

/-- THE WORDS: the machine's memory is what the net tells. -/
theorem mem_word (m : Img) (h : m.Good) (rws : List RWard) (wi : List (Int × Int × Int × Int)) (hN : NetOf m rws wi) (a : Nat) : (memN m m.ws.length).getD a 0 = rwordV 0 0 rws wi a := by
  have hl := key_len hN.key
  have hwl : wi.length = m.wi.length := by rw [hN.wi]; simp
  unfold rwordV
  rw [hl, hwl]
  by_cases hK : a < 16 + 16 * m.ws.length + 2 * m.wi.length
  · rw [mem_lo m h a hK _ (Nat.le_refl _)]
    by_cases h16 : a < 16
    · rw [if_neg (by omega)]
      split
      · rfl
      · split <;> rfl
    · rw [if_neg (c := a = 0) (by omega), if_neg (c := a = 1) (by omega), if_neg h16]
      by_cases hA : a < 16 * (1 + m.ws.length)
      · rw [if_pos hA, if_pos (by omega)]
        have hk : a / 16 - 1 < m.ws.length := by omega
        have hx : m.ws[a / 16 - 1]? = some m.ws[a / 16 - 1] := List.getElem?_eq_getElem hk
        have hy : rws[a / 16 - 1]? = some rws[a / 16 - 1] := List.getElem?_eq_getElem (by omega)
        have key := key_at hN.key _ _ _ hy hx
        rw [hx, hy]
        simp only [Option.map_some, Option.getD_some]
        simp only [rkey, wkey, Prod.mk.injEq] at key
        rw [key.2.2.1, saved_words]
      · rw [if_neg hA, if_neg (by omega), if_pos (by omega)]
        have hz : ∀ j, (wi.getD j (0, 0, 0, 0)).2.2.1 = 0 ∧ (wi.getD j (0, 0, 0, 0)).2.2.2 = 0 := by
          intro j
          rw [hN.wi, List.getD_eq_getElem?_getD, List.getElem?_map]
          cases m.wi[j]? <;> exact ⟨rfl, rfl⟩
        split
        · exact (hz _).1.symm
        · exact (hz _).2.symm
  · rw [mem_hi m h a (by omega) _ (Nat.le_refl _), if_neg (c := a = 0) (by omega), if_neg (c := a = 1) (by omega), if_neg (c := a < 16) (by omega), if_neg (by omega), if_neg (by omega), findW_P, flat_regs _ _ hN.key, List.take_of_length_le (Nat.le_refl _)]

/-- THE VIEWS: a kernel that has not run. -/
theorem view_boot (m : Img) (h : m.Good) (xs : List (WardV × Value × Value)) (hxs : xs.map (·.1) = m.ws) (k : Nat) (x : WardV) (hx : m.ws[k]? = some x) : viewSt (memN m m.ws.length) (kws xs) k = st0 x.bg := by
  have hk : k < m.ws.length := (List.getElem?_eq_some_iff.1 hx).1
  unfold viewSt
  split
  · have : (kws xs)[k]?.map (·.1) = some (st0 x.bg) := by
      unfold kws
      have e := congrArg (fun l => l[k]?) hxs
      simp only [List.getElem?_map, hx] at e
      cases hq : xs[k]? with
      | none => rw [hq] at e; cases e
      | some q =>
        rw [hq] at e
        simp only [Option.map_some, Option.some.injEq] at e
        simp only [List.getElem?_map, hq, Option.map_some, e]
    rw [List.getD_eq_getElem?_getD]
    cases hq : (kws xs)[k]? with
    | none => rw [hq] at this; cases this
    | some q =>
      rw [hq] at this
      simp only [Option.map_some, Option.some.injEq] at this
      simp only [Option.getD_some, this]
  · have hlen := memN_len m h.f _ (Nat.le_refl _)
    have hkern := h.f.kern
    have hw : ∀ j, j < 16 → (memN m m.ws.length).getD (16 + 16 * k + j) 0 = (stWords (st0 x.bg)).getD j 0 := by
      intro j hj
      rw [mem_lo m h _ (by omega) _ (Nat.le_refl _), if_pos (by omega), show (16 + 16 * k + j) / 16 - 1 = k by omega, hx, show (16 + 16 * k + j) % 16 = j by omega]
      rfl
    unfold loadSt
    rw [hw 8 (by omega), hw 9 (by omega), hw 10 (by omega), hw 11 (by omega), hw 12 (by omega)]
    have hr : ((memN m m.ws.length).drop (16 + 16 * k)).take 8 = [0, 0, 0, 0, 0, 0, 0, 0] := by
      apply List.ext_getElem
      · simp; omega
      · intro j h1 h2
        have hj : j < 8 := by simpa using h2
        have := hw j (by omega)
        rw [List.getElem_take, List.getElem_drop]
        rw [List.getD_eq_getElem?_getD, List.getElem?_eq_getElem (by omega)] at this
        simp only [Option.getD_some] at this
        rw [this]
        match j, hj with
        | 0, _ | 1, _ | 2, _ | 3, _ | 4, _ | 5, _ | 6, _ | 7, _ => rfl
    rw [hr]
    rfl

/-- THE ERROR: laid. -/
theorem laid_eq (m : Img) (rws : List RWard) (wi : List (Int × Int × Int × Int)) (hN : NetOf m rws wi) : laidB rws wi.length m.mem = (fitsB m && apartB m) := by
  have hl := key_len hN.key
  have hwl : wi.length = m.wi.length := by rw [hN.wi]; simp
  have hregs : (wsOf rws).map (·.regs) = m.ws.map (·.regs) := by
    have := congrArg (List.map (fun t => t.2.2.2.1)) hN.key
    simp only [List.map_map] at this
    unfold wsOf
    rw [List.map_map]
    exact this
  unfold laidB fitsB apartB
  rw [hl, hwl, ownedN_congr _ _ hregs]

theorem regs_ok (m : Img) (hm : m.Ok) (hg : ∀ x ∈ m.ws, WardGood x) (rws : List RWard) (wi : List (Int × Int × Int × Int)) (hN : NetOf m rws wi) : RegsOk rws wi.length ∧ ∀ y ∈ rws, ∀ r ∈ y.regs, 1 ≤ r.r.2.1 := by
  have hl := key_len hN.key
  have hwl : wi.length = m.wi.length := by rw [hN.wi]; simp
  have hk : ∀ y ∈ rws, ∃ x ∈ m.ws, rkey y = wkey x := by
    intro y hy
    have : rkey y ∈ m.ws.map wkey := by rw [← hN.key]; exact List.mem_map_of_mem hy
    obtain ⟨x, hx, e⟩ := List.mem_map.1 this
    exact ⟨x, hx, e.symm⟩
  have hr : ∀ y ∈ rws, ∀ r ∈ y.regs, ∃ x ∈ m.ws, (r.r, r.ws) ∈ wregs x ∧ r.r ∈ x.regs := by
    intro y hy r hr
    obtain ⟨x, hx, e⟩ := hk y hy
    simp only [rkey, wkey, Prod.mk.injEq] at e
    have : (r.r, r.ws) ∈ wregs x := by
      unfold wregs
      rw [← e.2.2.2.2]
      rw [← e.2.2.2.1]
      rw [List.zip_map']
      exact List.mem_map.2 ⟨r, hr, rfl⟩
    exact ⟨x, hx, this, wregs_mem x _ this⟩
  refine ⟨⟨by rw [hl]; exact hm.l, by rw [hwl]; exact hm.li, ?_, ?_⟩, ?_⟩
  · intro y hy r hrr
    obtain ⟨x, hx, h1, h2⟩ := hr y hy r hrr
    have hok := (hm.w x hx).2.1 r.r h2
    have hpos := (hg x hx).pos r.r h2
    refine ⟨hok.1, hok.2.1, hok.2.2.1, hok.2.2.2.1, hok.2.2.2.2.1, hok.2.2.2.2.2, ?_⟩
    match hrs : x.regs, (hg x hx).one with
    | r0 :: rs, _ =>
      rw [wregs_cons x r0 rs hrs] at h1
      have hp := (hg x hx).prog
      rw [hrs] at hp
      have hp' : (x.prog.length : Int) ≤ r0.2.1 := hp
      rcases List.mem_cons.1 h1 with e | e
      · simp only [Prod.mk.injEq] at e
        rw [e.2, e.1]
        unfold splice
        simp only [List.length_append, List.length_take, List.length_drop, List.length_replicate]
        rw [e.1] at hpos
        omega
      · have := zeros_mem rs _ e
        simp only at this
        rw [this, List.length_replicate]
        omega
  · intro y hy
    obtain ⟨x, hx, e⟩ := hk y hy
    simp only [rkey, wkey, Prod.mk.injEq] at e
    have := congrArg List.length e.2.2.2.1
    rw [List.length_map] at this
    rw [this]
    exact (hm.w x hx).1
  · intro y hy r hrr
    obtain ⟨x, hx, h1, h2⟩ := hr y hy r hrr
    exact (hg x hx).pos r.r h2

theorem wiresN_bd (k : Nat) (l : List UInt8) (bad : Bool) : ∀ x ∈ (wiresN k l bad).1, 0 ≤ x.1 ∧ 0 ≤ x.2 := by
  induction k with
  | zero => simp [wiresN]
  | succ k ih =>
    intro r hr
    simp only [wiresN, List.mem_append, List.mem_singleton] at hr
    rcases hr with hr | rfl
    · exact ih r hr
    · exact ⟨(rdn_bd 1 (by omega) _ _).1, (rdn_bd 1 (by omega) _ _).1⟩
theorem ownersN_bd (k : Nat) (l : List UInt8) (bad : Bool) : ∀ x ∈ (ownersN k l bad).1, 0 ≤ x := by
  induction k with
  | zero => simp [ownersN]
  | succ k ih =>
    intro r hr
    simp only [ownersN, List.mem_append, List.mem_singleton] at hr
    rcases hr with hr | rfl
    · exact ih r hr
    · exact (rdn_bd 1 (by omega) _ _).1

theorem sum_add (f g : Nat → Nat) : ∀ n, ((List.range n).map (fun k => f k + g k)).sum = ((List.range n).map f).sum + ((List.range n).map g).sum := by
  intro n
  induction n with
  | zero => rfl
  | succ n ih => simp only [List.range_succ, List.map_append, List.sum_append, ih, List.map_cons, List.map_nil, List.sum_cons, List.sum_nil]; omega
theorem hasB_iff (n : Nat) (o : Int) (ho : 0 ≤ o) : hasB n o = decide (o < n) := by unfold hasB; rw [decide_eq_true ho]; rfl
theorem sum_one (o : Int) (ho : 0 ≤ o) : ∀ n : Nat, ((List.range n).map (fun k : Nat => if some o = some (k : Int) then 1 else 0)).sum = if hasB n o = true then 1 else 0 := by
  intro n
  induction n with
  | zero => rw [hasB_iff 0 o ho, if_neg (by simp; omega)]; rfl
  | succ n ih =>
    rw [List.range_succ, List.map_append, List.sum_append, ih, hasB_iff n o ho, hasB_iff (n + 1) o ho]
    simp only [List.map_cons, List.map_nil, List.sum_cons, List.sum_nil, Option.some.injEq, decide_eq_true_eq, Int.natCast_add, Int.cast_ofNat_Int]
    by_cases h1 : o < n
    · rw [if_pos h1, if_neg (by omega), if_pos (by omega)]; rfl
    · by_cases h2 : o = n
      · rw [if_neg h1, if_pos h2, if_pos (by omega)]; rfl
      · rw [if_neg h1, if_neg h2, if_neg (by omega)]; rfl
theorem sum_devs (ow : List Int) (ho : ∀ o ∈ ow, 0 ≤ o) (n : Nat) : ∀ d, d ≤ ow.length → ((List.range n).map (fun k => (devsN ow k d).length)).sum = (ow.take d).countP (hasB n) := by
  intro d
  induction d with
  | zero =>
    intro _
    simp only [devsN, List.length_nil, List.take_zero, List.countP_nil]
    induction n with
    | zero => rfl
    | succ n ih => simp only [List.range_succ, List.map_append, List.sum_append, ih]; rfl
  | succ d ih =>
    intro hd
    have e : (fun k => (devsN ow k (d + 1)).length) = fun k => (devsN ow k d).length + (if some ow[d] = some (k : Int) then 1 else 0) := by
      funext k
      simp only [devsN, List.length_append, List.getElem?_eq_getElem (show d < ow.length by omega)]
      split <;> rfl
    rw [e, sum_add, ih (by omega), sum_one _ (ho _ (List.getElem_mem _)), List.take_succ_eq_append_getElem (by omega), List.countP_append]
    simp only [List.countP_cons, List.countP_nil, Nat.zero_add]
theorem devs_len (m : Img) (rws : List RWard) (wi : List (Int × Int × Int × Int)) (hN : NetOf m rws wi) : rws.map (fun y => y.devs.length) = (List.range rws.length).map (fun k => (devsN m.ow k m.ow.length).length) := by
  apply List.ext_getElem
  · simp
  · intro k h1 h2
    have hk : k < rws.length := by simpa using h1
    simp only [List.getElem_map, List.getElem_range]
    rw [hN.dev k _ (List.getElem?_eq_getElem hk)]
theorem devs_eq (m : Img) (ho : ∀ o ∈ m.ow, 0 ≤ o) (rws : List RWard) (wi : List (Int × Int × Int × Int)) (hN : NetOf m rws wi) : ((rws.map (fun y => y.devs.length)).sum = m.ow.length) ↔ devsB m = true := by
  rw [devs_len m rws wi hN, sum_devs m.ow ho _ _ (Nat.le_refl _), List.take_length, key_len hN.key, List.countP_eq_length]
  unfold devsB
  rw [List.all_eq_true]

end Go.Proofs.Ythmcheoehcmglaa
