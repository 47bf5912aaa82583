/- The reference's laid. -/
import Derived.Test.YthmcheoehcmglaaR8
namespace Go.Proofs.Ythmcheoehcmglaa
open Go.RowKit
set_option linter.unusedVariables false
attribute [local go_sem ↓] Go.wp_at_zero Go.wp_at_succ

def laidB (rws : List RWard) (nw : Nat) (mem : Int) : Bool := (ownedN (wsOf rws) rws.length).all (fitB (16 + 16 * rws.length + 2 * nw) mem) && apartN (ownedN (wsOf rws) rws.length) (ownedN (wsOf rws) rws.length).length

theorem wsOf_get (rws : List RWard) (k : Nat) (y : RWard) (h : rws[k]? = some y) : (wsOf rws)[k]? = some ⟨y.q, 0, y.regs.map (·.r), []⟩ := by simp [wsOf, h]
theorem wsOf_len (rws : List RWard) : (wsOf rws).length = rws.length := by simp [wsOf]

theorem laid_no_fit (rws : List RWard) (nw : Nat) (mem : Int) (b : Own) (hb : b ∈ ownedN (wsOf rws) rws.length) (h : fitB (16 + 16 * rws.length + 2 * nw) mem b = false) : false = laidB rws nw mem := by
  unfold laidB
  have : (ownedN (wsOf rws) rws.length).all (fitB (16 + 16 * rws.length + 2 * nw) mem) = false := by
    rw [List.all_eq_false]
    exact ⟨b, hb, by simp [h]⟩
  rw [this]
  rfl
theorem laid_no_apart (rws : List RWard) (nw : Nat) (mem : Int) (h : ¬ (ownedN (wsOf rws) rws.length).Pairwise ApP) : false = laidB rws nw mem := by
  unfold laidB
  have : apartN (ownedN (wsOf rws) rws.length) (ownedN (wsOf rws) rws.length).length = false := by
    cases e : apartN (ownedN (wsOf rws) rws.length) (ownedN (wsOf rws) rws.length).length with
    | false => rfl
    | true => exact absurd ((apartN_iff _).1 e) h
  rw [this]
  simp

/-- The regions ahead of the j-th of ward k. -/
def preR (rws : List RWard) (k j : Nat) (y : RWard) : List Own := ownedN (wsOf rws) k ++ ((y.regs.map (·.r)).take j).map (fun r => (r, (k : Int)))
theorem preR_zero (rws : List RWard) (k : Nat) (y : RWard) : preR rws k 0 y = ownedN (wsOf rws) k := by simp [preR]
theorem preR_succ (rws : List RWard) (k j : Nat) (y : RWard) (r : RReg) (hr : y.regs[j]? = some r) : preR rws k (j + 1) y = preR rws k j y ++ [(r.r, (k : Int))] := by
  have : (y.regs.map (·.r))[j]? = some r.r := by simp [hr]
  have hj : j < (y.regs.map (·.r)).length := (List.getElem?_eq_some_iff.1 this).1
  have e := (List.getElem?_eq_some_iff.1 this).2
  unfold preR
  rw [List.take_succ_eq_append_getElem hj, e]
  simp
theorem preR_full (rws : List RWard) (k : Nat) (y : RWard) (hy : rws[k]? = some y) : preR rws k y.regs.length y = ownedN (wsOf rws) (k + 1) := by
  unfold preR
  rw [List.take_of_length_le (by simp)]
  simp [ownedN, wsOf_get rws k y hy]
theorem preR_split (rws : List RWard) (k j : Nat) (y : RWard) (r : RReg) (hy : rws[k]? = some y) (hr : y.regs[j]? = some r) : ∃ rest, ownedN (wsOf rws) rws.length = preR rws k j y ++ (r.r, (k : Int)) :: rest := by
  have := owned_split (wsOf rws) k j _ r.r (wsOf_get rws k y hy) (by simp [hr])
  rwa [wsOf_len] at this

theorem preR_mem (rws : List RWard) (k j : Nat) (y : RWard) (hy : rws[k]? = some y) (P : (Int × Int × Int × Int) → Prop) (hP : ∀ y ∈ rws, ∀ r ∈ y.regs, P r.r) : ∀ b ∈ preR rws k j y, P b.1 := by
  have h1 : ∀ k, ∀ b ∈ ownedN (wsOf rws) k, P b.1 := by
    intro k
    induction k with
    | zero => simp [ownedN]
    | succ k ih =>
      intro b hb
      simp only [ownedN, List.mem_append, List.mem_map] at hb
      rcases hb with hb | ⟨r, hr, rfl⟩
      · exact ih b hb
      · cases hk : rws[k]? with
        | none => simp [wsOf, hk] at hr
        | some z =>
          rw [wsOf_get rws k z hk] at hr
          simp only [Option.map_some, Option.getD_some, List.mem_map] at hr
          obtain ⟨q, hq, rfl⟩ := hr
          exact hP z (List.mem_of_getElem? hk) q hq
  intro b hb
  unfold preR at hb
  rcases List.mem_append.1 hb with hb | hb
  · exact h1 k b hb
  · obtain ⟨r, hr, rfl⟩ := List.mem_map.1 hb
    have := List.mem_of_mem_take hr
    obtain ⟨q, hq, rfl⟩ := List.mem_map.1 this
    exact hP y (List.mem_of_getElem? hy) q hq

/-- The marks while the j-th region of ward k is being laid, and c words of it are. -/
structure LIn (w : World) (T S N : Nat) (P : List Own) (k : Int) (r : Int × Int × Int × Int) (c : Nat) (wr : World) : Prop where
  t : wr.heap[T]? = some (.cells (bRow N (fun p => tB P p || (decide (r.2.2.1 ≤ p) && decide ((p : Int) < r.2.2.1 + c)))).toArray 4 (0, 0))
  s : wr.heap[S]? = some (.cells (bRow N (fun p => sB P k p || (decide (r.1 ≤ p) && decide ((p : Int) < r.1 + c)))).toArray 4 (0, 0))
  f : Fr (fun _ => False) w wr
  h1 : ∀ p : Nat, r.1 ≤ p → (p : Int) < r.1 + c → sB P k p = false
  h2 : ∀ p : Nat, r.2.2.1 ≤ p → (p : Int) < r.2.2.1 + c → tB P p = false

theorem LIn.step {w : World} {T S N : Nat} {P : List Own} {k : Int} {r : Int × Int × Int × Int} {c : Nat} {wr : World} (h : LIn w T S N P k r c wr) (hTS : T ≠ S) (hT : w.heap.size ≤ T) (hS : w.heap.size ≤ S) (p q : Nat) (hp : (p : Int) = r.1 + c) (hq : (q : Int) = r.2.2.1 + c)
    (hs : sB P k p = false) (ht : tB P q = false) : LIn w T S N P k r (c + 1) ((wr.setCell ⟨S, p, none⟩ (.bool true)).setCell ⟨T, q, none⟩ (.bool true)) := by
  refine ⟨?_, ?_, ?_, ?_, ?_⟩
  · have h3 := set_other h.t (p := ⟨S, p, none⟩) hTS (.bool true)
    rw [bSet h3 q]
    congr 3
    apply bRow_congr
    intro i _
    by_cases e : i = q
    · subst e; simp; omega
    · simp only [e, decide_false, Bool.or_false]
      congr 2
      simp only [decide_eq_decide]
      omega
  · have h3 := bSet h.s p
    have h4 := set_other h3 (p := ⟨T, q, none⟩) (Ne.symm hTS) (.bool true)
    rw [h4]
    congr 3
    apply bRow_congr
    intro i _
    by_cases e : i = p
    · subst e; simp; omega
    · simp only [e, decide_false, Bool.or_false]
      congr 2
      simp only [decide_eq_decide]
      omega
  · exact (h.f.setCell (p := ⟨S, p, none⟩) (.inr hS) _).setCell (p := ⟨T, q, none⟩) (.inr hT) _
  · intro i h1 h2
    by_cases e : (i : Int) < r.1 + c
    · exact h.h1 i h1 e
    · obtain rfl : i = p := by omega
      exact hs
  · intro i h1 h2
    by_cases e : (i : Int) < r.2.2.1 + c
    · exact h.h2 i h1 e
    · obtain rfl : i = q := by omega
      exact ht

end Go.Proofs.Ythmcheoehcmglaa
