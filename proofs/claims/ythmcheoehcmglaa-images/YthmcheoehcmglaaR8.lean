/- Rows of marks; what laid asks of the regions, word by word, and pair by pair. -/
import Derived.Test.YthmcheoehcmglaaR7
namespace Go.Proofs.Ythmcheoehcmglaa
open Go.RowKit
set_option linter.unusedVariables false

/-- A row of n marks. -/
def bRow (n : Nat) (t : Nat → Bool) : List Value := (List.range n).map (fun i => Value.bool (t i))
theorem bRow_len (n : Nat) (t : Nat → Bool) : (bRow n t).length = n := by simp [bRow]
theorem bRow_get (n : Nat) (t : Nat → Bool) (i : Nat) (h : i < n) : (bRow n t)[i]? = some (.bool (t i)) := by simp [bRow, h]
theorem bRow_set (n : Nat) (t : Nat → Bool) (i : Nat) : (bRow n t).set i (.bool true) = bRow n (fun j => t j || decide (j = i)) := by
  apply List.ext_getElem?
  intro j
  rw [List.getElem?_set]
  by_cases hj : j < n
  · rw [bRow_get n _ j hj, bRow_get n _ j hj, bRow_len]
    by_cases e : i = j
    · subst e; simp [hj]
    · rw [if_neg e]; simp [show ¬ j = i by omega]
  · have h1 : (bRow n t)[j]? = none := by rw [List.getElem?_eq_none_iff, bRow_len]; omega
    have h2 : (bRow n (fun j => t j || decide (j = i)))[j]? = none := by rw [List.getElem?_eq_none_iff, bRow_len]; omega
    rw [h1, h2, bRow_len]
    split
    · rename_i h; rw [if_neg (by omega)]
    · rfl
theorem bRow_congr (n : Nat) (t u : Nat → Bool) (h : ∀ i, i < n → t i = u i) : bRow n t = bRow n u := by
  unfold bRow
  apply List.map_congr_left
  intro i hi
  rw [h i (by simpa using hi)]

theorem made_bools {w : World} {base g n : Nat} (h : w.ownsRow base 4 1 (.slice (some ⟨g, 0, none⟩) n n) n (madeCells (Value.bool false).cells (n * 1)).toList) :
    w.heap[g]? = some (.cells (bRow n (fun _ => false)).toArray 4 (0, 0)) := by
  rcases h.2 with ⟨h1, _⟩ | ⟨g', cap, cur, h1, _, hg, _, _, hs, ht⟩
  · simp at h1
  · simp only [Value.slice.injEq, Option.some.injEq, Addr.mk.injEq] at h1
    obtain ⟨⟨rfl, _⟩, _, rfl⟩ := h1
    rw [hg]
    have e1 : (Value.bool false).cells = #[Value.bool false] := rfl
    rw [e1, toList_madeCells_one, List.take_of_length_le (by simp [hs])] at ht
    have e2 : cur = (bRow n (fun _ => false)).toArray := by
      apply Array.ext'
      rw [ht]
      simp only [bRow, List.map_const', List.length_range]
      simp
    rw [e2]

theorem bCell {w : World} {g n : Nat} {t : Nat → Bool} (h : w.heap[g]? = some (.cells (bRow n t).toArray 4 (0, 0))) (i : Nat) (hi : i < n) : w.cell? ⟨g, i, none⟩ = some (.bool (t i)) := by
  rw [row_cell h, List.getElem?_toArray, bRow_get n t i hi]
theorem bSet {w : World} {g n : Nat} {t : Nat → Bool} (h : w.heap[g]? = some (.cells (bRow n t).toArray 4 (0, 0))) (i : Nat) :
    (w.setCell ⟨g, i, none⟩ (.bool true)).heap[g]? = some (.cells (bRow n (fun j => t j || decide (j = i))).toArray 4 (0, 0)) := by
  rw [row_set h]
  congr 2
  simp only [List.setIfInBounds_toArray]
  rw [bRow_set]

abbrev Own := (Int × Int × Int × Int) × Int
/-- Which words of the memory, which addresses of ward i, some regions have. -/
def tB (P : List Own) (p : Nat) : Bool := P.any (fun b => decide (b.1.2.2.1 ≤ p) && decide ((p : Int) < b.1.2.2.1 + b.1.2.1))
def sB (P : List Own) (i : Int) (p : Nat) : Bool := P.any (fun b => b.2 == i && (decide (b.1.1 ≤ p) && decide ((p : Int) < b.1.1 + b.1.2.1)))

theorem tB_snoc (P : List Own) (b : Own) (p : Nat) : tB (P ++ [b]) p = (tB P p || (decide (b.1.2.2.1 ≤ p) && decide ((p : Int) < b.1.2.2.1 + b.1.2.1))) := by simp [tB]
theorem sB_snoc (P : List Own) (b : Own) (i : Int) (h : b.2 = i) (p : Nat) : sB (P ++ [b]) i p = (sB P i p || (decide (b.1.1 ≤ p) && decide ((p : Int) < b.1.1 + b.1.2.1))) := by simp [sB, h]

def ApP (b a : Own) : Prop := (shAddr a b || shWord a b) = false

theorem apartN_iff (L : List Own) : apartN L L.length = true ↔ L.Pairwise ApP := by
  have key : ∀ k, k ≤ L.length → (apartN L k = true ↔ (L.take k).Pairwise ApP) := by
    intro k
    induction k with
    | zero => intro _; simp [apartN]
    | succ k ih =>
      intro hk
      rw [apartN_succ L k (by omega), List.take_succ_eq_append_getElem (by omega), List.pairwise_append, Bool.and_eq_true, ih (by omega), List.all_eq_true]
      simp only [List.pairwise_cons, List.not_mem_nil, false_implies, implies_true, List.Pairwise.nil, and_self, true_and, List.mem_singleton, forall_eq, ApP, Bool.not_eq_true']
  have := key L.length (Nat.le_refl _)
  rwa [List.take_length] at this

/-- Two regions meet if a word of the one is the other's. -/
theorem ovl_of (a ca b cb p : Int) (h1 : a ≤ p) (h2 : p < a + ca) (h3 : b ≤ p) (h4 : p < b + cb) : ovl a ca b cb = true := by
  simp [ovl]; omega
theorem ovl_pt (a ca b cb : Int) (h : ovl a ca b cb = true) (h1 : 1 ≤ ca) (h2 : 1 ≤ cb) : ∃ p, a ≤ p ∧ p < a + ca ∧ b ≤ p ∧ p < b + cb := by
  simp [ovl] at h
  by_cases hab : a ≤ b
  · exact ⟨b, by omega, by omega, by omega, by omega⟩
  · exact ⟨a, by omega, by omega, by omega, by omega⟩

/-- A word of r that another ahead of it has. -/
theorem not_apart_t (P rest : List Own) (r : Own) (p : Nat) (h1 : r.1.2.2.1 ≤ p) (h2 : (p : Int) < r.1.2.2.1 + r.1.2.1) (h : tB P p = true) : ¬ (P ++ r :: rest).Pairwise ApP := by
  intro hp
  simp only [tB, List.any_eq_true, Bool.and_eq_true, decide_eq_true_eq] at h
  obtain ⟨b, hb, h3, h4⟩ := h
  have := (List.pairwise_append.1 hp).2.2 b hb r (by simp)
  simp only [ApP, shWord, Bool.or_eq_false_iff] at this
  rw [ovl_of _ _ _ _ p h1 h2 h3 h4] at this
  simp at this
theorem not_apart_s (P rest : List Own) (r : Own) (p : Nat) (h1 : r.1.1 ≤ p) (h2 : (p : Int) < r.1.1 + r.1.2.1) (h : sB P r.2 p = true) : ¬ (P ++ r :: rest).Pairwise ApP := by
  intro hp
  simp only [sB, List.any_eq_true, Bool.and_eq_true, decide_eq_true_eq, beq_iff_eq] at h
  obtain ⟨b, hb, h5, h3, h4⟩ := h
  have := (List.pairwise_append.1 hp).2.2 b hb r (by simp)
  simp only [ApP, shAddr, Bool.or_eq_false_iff] at this
  rw [ovl_of _ _ _ _ p h1 h2 h3 h4, h5] at this
  simp at this
/-- No word of r is another's ahead of it. -/
theorem apart_snoc (P : List Own) (r : Own) (hP : P.Pairwise ApP) (hs : ∀ b ∈ P, 1 ≤ b.1.2.1 ∧ 0 ≤ b.1.1 ∧ 0 ≤ b.1.2.2.1) (hr : 1 ≤ r.1.2.1)
    (h1 : ∀ p : Nat, r.1.1 ≤ p → (p : Int) < r.1.1 + r.1.2.1 → sB P r.2 p = false) (h2 : ∀ p : Nat, r.1.2.2.1 ≤ p → (p : Int) < r.1.2.2.1 + r.1.2.1 → tB P p = false) : (P ++ [r]).Pairwise ApP := by
  rw [List.pairwise_append]
  refine ⟨hP, by simp, ?_⟩
  intro b hb a ha
  obtain rfl := List.mem_singleton.1 ha
  have hbs := hs b hb
  simp only [ApP, Bool.or_eq_false_iff]
  constructor
  · cases h : shAddr a b with
    | false => rfl
    | true =>
      simp only [shAddr, Bool.and_eq_true, beq_iff_eq] at h
      obtain ⟨p, p1, p2, p3, p4⟩ := ovl_pt _ _ _ _ h.2 hr hbs.1
      obtain ⟨q, rfl⟩ := Int.eq_ofNat_of_zero_le (show 0 ≤ p by omega)
      have := h1 q p1 p2
      simp only [sB, List.any_eq_false] at this
      exact absurd (by simp [h.1, p3, p4]) (this b hb)
  · cases h : shWord a b with
    | false => rfl
    | true =>
      simp only [shWord] at h
      obtain ⟨p, p1, p2, p3, p4⟩ := ovl_pt _ _ _ _ h hr hbs.1
      obtain ⟨q, rfl⟩ := Int.eq_ofNat_of_zero_le (show 0 ≤ p by omega)
      have := h2 q p1 p2
      simp only [tB, List.any_eq_false] at this
      exact absurd (by simp [p3, p4]) (this b hb)

/-- The wards of a net, as an image has them. -/
def wsOf (rws : List RWard) : List WardV := rws.map (fun y => ⟨y.q, 0, y.regs.map (·.r), []⟩)

theorem ownedN_congr (ws ws' : List WardV) (h : ws.map (·.regs) = ws'.map (·.regs)) : ∀ k, ownedN ws k = ownedN ws' k := by
  intro k
  induction k with
  | zero => rfl
  | succ k ih =>
    have e : ws[k]?.map (·.regs) = ws'[k]?.map (·.regs) := by rw [← List.getElem?_map, ← List.getElem?_map, h]
    simp only [ownedN, ih, e]

theorem ownedN_lt (ws : List WardV) : ∀ k, ∀ b ∈ ownedN ws k, b.2 < (k : Int) := by
  intro k
  induction k with
  | zero => simp [ownedN]
  | succ k ih =>
    intro b hb
    simp only [ownedN, List.mem_append, List.mem_map] at hb
    rcases hb with hb | ⟨r, _, rfl⟩
    · have := ih b hb; omega
    · simp only; omega
theorem sB_none (ws : List WardV) (k : Nat) (p : Nat) : sB (ownedN ws k) k p = false := by
  simp only [sB, List.any_eq_false]
  intro b hb h
  have := ownedN_lt ws k b hb
  simp only [Bool.and_eq_true, beq_iff_eq] at h
  omega
theorem ownedN_pre (ws : List WardV) (k : Nat) : ∀ n, k ≤ n → ∃ rest, ownedN ws n = ownedN ws k ++ rest := by
  intro n
  induction n with
  | zero =>
    intro h
    obtain rfl : k = 0 := by omega
    exact ⟨[], by simp⟩
  | succ n ih =>
    intro h
    by_cases e : k = n + 1
    · subst e; exact ⟨[], by simp⟩
    · obtain ⟨rest, hr⟩ := ih (by omega)
      exact ⟨rest ++ _, by simp only [ownedN, hr, List.append_assoc]; rfl⟩
/-- The regions ahead of the j-th of ward k, and that one. -/
theorem owned_split (ws : List WardV) (k j : Nat) (x : WardV) (r : Int × Int × Int × Int) (hx : ws[k]? = some x) (hr : x.regs[j]? = some r) :
    ∃ rest, ownedN ws ws.length = (ownedN ws k ++ (x.regs.take j).map (fun r => (r, (k : Int)))) ++ (r, (k : Int)) :: rest := by
  have hk : k < ws.length := (List.getElem?_eq_some_iff.1 hx).1
  obtain ⟨rest, h⟩ := ownedN_pre ws (k + 1) ws.length (by omega)
  rw [h]
  have e := split_at x.regs j r hr
  refine ⟨(x.regs.drop (j + 1)).map (fun r => (r, (k : Int))) ++ rest, ?_⟩
  simp only [ownedN, hx, Option.map_some, Option.getD_some]
  conv => lhs; rw [e]
  simp

end Go.Proofs.Ythmcheoehcmglaa
