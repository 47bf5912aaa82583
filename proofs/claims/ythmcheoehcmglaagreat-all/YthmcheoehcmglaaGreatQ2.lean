/- The machine is the net: gaps; some cycles. -/
import Derived.Test.YthmcheoehcmglaaGreatN5
import Derived.Test.YthmcheoehcmglaaGreatM1
import Derived.Test.YthmcheoehcmglaaGreatW17
import Derived.Test.YthmcheoehcmglaaGreatR0
import Derived.Test.YthmcheoehcmglaaGreatP2
import Derived.Test.YthmcheoehcmglaaGreatW3
namespace Go.Proofs.YthmcheoehcmglaaGreat
open Go.RowKit
set_option linter.unusedVariables false

/-- What a gap's cycle leaves: a net that differs in one ward's rest, a memory that differs in the low words. -/
theorem Sim.gap {x : KX} (hX : KXs x) {s : KM} {N : NM} (h : Sim x s N) (mem' : List Int) (sts' : List StV) (wn' : List WN) (hml : mem'.length = s.mem.length) (hhi : ∀ i, 16 + 16 * x.regs.length ≤ i → mem'.getD i 0 = s.mem.getD i 0) (hlo : ∀ i, 1 ≤ i → i < 16 → mem'.getD i 0 = s.mem.getD i 0)
    (h0 : mem'.getD 0 0 = turnN x (N.ck + 1)) (hsl : sts'.length = x.regs.length) (hws : wn'.map (·.ws) = N.wn.map (·.ws)) (hsb : ∀ w ∈ wn', StB w.now ∧ StB w.was)
    (har : ∀ (k : Nat) w, wn'[k]? = some w → loadSt mem' (16 + 16 * k) = w.was ∧ ∀ i, 13 ≤ i → i < 16 → mem'.getD (16 + 16 * k + i) 0 = 0)
    (hst : ∀ (k : Nat) w, wn'[k]? = some w → (turnN x (N.ck + 1) = k → sts'[k]? = some w.now) ∧ (turnN x (N.ck + 1) ≠ k → w.now = w.was)) :
    Sim x ⟨N.ck + 1, mem'.set 1 ((N.ck + 1) % 4294967296), sts', s.devs⟩ ⟨N.ck + 1, wn', N.wi, N.devs⟩ := by
  have hkern := hX.kn
  unfold kerK at hkern
  have hl := h.hi.l
  have hget : ∀ i, i ≠ 1 → (mem'.set 1 ((N.ck + 1) % 4294967296)).getD i 0 = mem'.getD i 0 := fun i hi => by rw [getD_set_eq, if_neg (fun e => hi e.1.symm)]
  have hl1 := hX.q.l1
  have hql := hX.ql
  refine ⟨rfl, by simp only; have := h.c0; omega, ?_, h.dv, hsl, ?_, ?_, ?_, ?_, hst, hsb, ?_, h.ni, h.nd⟩
  · simp only
    rw [hws]
    exact h.hi.congr hX.ok (by rw [List.length_set, hml]) (fun i hi => by rw [hget i (by omega)]; exact hhi i hi)
  · simp only
    rw [hget 0 (by omega)]
    exact h0
  · simp only
    rw [getD_set_eq, if_pos ⟨rfl, by omega⟩]
  · intro i h2 h16
    simp only
    rw [hget i (by omega), hlo i (by omega) h16]
    exact h.lo i h2 h16
  · intro k w hw
    have ha := har k w hw
    refine ⟨?_, ?_⟩
    · rw [← ha.1]
      refine loadSt_congr _ _ _ (by simp) ?_
      intro i h1 h2
      simp only
      rw [hget i (by omega)]
    · intro i h1 h2
      simp only
      rw [hget _ (by omega)]
      exact ha.2 i h1 h2
  · intro w hw u hu
    obtain ⟨k, hk⟩ := List.getElem?_of_mem hw
    have e : (wn'.map (·.ws))[k]? = some w.ws := by rw [List.getElem?_map, hk]; rfl
    rw [hws, List.getElem?_map, Option.map_eq_some_iff] at e
    obtain ⟨w0, hw0, he⟩ := e
    exact h.nw w0 (List.mem_of_getElem? hw0) u (by rw [he]; exact hu)

theorem Sim.step {x : KX} (hX : KXs x) {s : KM} {N : NM} (h : Sim x s N) : Sim x (cycleK x s) (cycleN x N) := by
  obtain ⟨k, r, hs⟩ := slot_is hX.q N.ck h.c0
  by_cases hr : r < x.qs.getD k 0
  · exact h.turn hX k r hs hr
  · have hkq := hs.kl
    have hkr : k < x.regs.length := by rw [← hX.ql]; exact hkq
    have hwl : N.wn.length = x.regs.length := by have := h.hi.wl; rw [List.length_map] at this; exact this
    have hkn : k < N.wn.length := by omega
    have hkern := hX.kn
    unfold kerK at hkern
    have hl := h.hi.l
    have hl4 := hX.q.l2
    have hql := hX.ql
    obtain ⟨w, hw⟩ : ∃ w, N.wn[k]? = some w := ⟨_, List.getElem?_eq_getElem hkn⟩
    have hts := turn_slot hX.q hX.ql N.ck h.c0 k r hs
    have htn := turn_next N.ck h.c0 k r hs
    rw [if_neg hr] at htn
    have hk2 : (k + 1) % x.regs.length < x.regs.length := Nat.mod_lt _ (by omega)
    obtain ⟨k2, hk2e⟩ : ∃ k2, (k + 1) % x.regs.length = k2 := ⟨_, rfl⟩
    rw [hk2e] at hk2 htn
    by_cases hf : r - x.qs.getD k 0 = 0
    · -- the first cycle of a gap
      rw [if_pos (by omega)] at hts
      have hst := (h.st k w hw).1 hts
      have hB := h.sb w (List.mem_of_getElem? hw)
      have hBy : StB { w.now with y := false } := hB.1.y false
      have hw13 : (stWords { w.now with y := false }).length = 13 := by simp [stWords, hB.1.l]
      have em1 : (endM x k s.mem s.sts).1 = (splice s.mem (16 + 16 * k) (stWords { w.now with y := false })).set 0 (x.regs.length : Int) := by unfold endM; rw [getD_of hst]
      have em2 : (endM x k s.mem s.sts).2 = s.sts.set k { w.now with y := false } := by unfold endM; rw [getD_of hst]
      have hlen1 : (endM x k s.mem s.sts).1.length = s.mem.length := by rw [em1, List.length_set, length_splice _ _ _ (by omega)]
      have hget1 : ∀ i, i ≠ 0 → ¬ (16 + 16 * k ≤ i ∧ i < 16 + 16 * k + 13) → (endM x k s.mem s.sts).1.getD i 0 = s.mem.getD i 0 := by
        intro i h1 h2
        rw [em1, getD_set_eq, if_neg (fun e => h1 e.1.symm), getD_splice _ _ _ (by omega), hw13, if_neg h2]
      have hload : ∀ j, j < x.regs.length → loadSt (endM x k s.mem s.sts).1 (16 + 16 * j) = if j = k then { w.now with y := false } else loadSt s.mem (16 + 16 * j) := fun j hj => endM_load x k s.mem s.sts w.now hst hB.1.l hkr (by omega) j hj
      have e2 : cycleN x N = ⟨N.ck + 1, N.wn.set k ⟨{ w.now with y := false }, { w.now with y := false }, w.ws⟩, N.wi, N.devs⟩ := by
        unfold cycleN actN
        rw [hs.e]
        simp only
        rw [if_neg hr, if_pos hf, getD_of hw]
      have hws : (N.wn.set k ⟨{ w.now with y := false }, { w.now with y := false }, w.ws⟩).map (·.ws) = N.wn.map (·.ws) := by
        rw [List.map_set]
        apply List.ext_getElem?
        intro i
        rw [List.getElem?_set]
        by_cases hik : k = i
        · subst hik
          rw [if_pos rfl, if_pos (by rw [List.length_map]; exact hkn), List.getElem?_map, hw]
          rfl
        · rw [if_neg hik]
      have hsb : ∀ v ∈ N.wn.set k ⟨{ w.now with y := false }, { w.now with y := false }, w.ws⟩, StB v.now ∧ StB v.was := by
        intro v hv
        rcases List.mem_or_eq_of_mem_set hv with h1 | h1
        · exact h.sb v h1
        · rw [h1]; exact ⟨hBy, hBy⟩
      have hnw : ∀ (j : Nat) v, (N.wn.set k ⟨{ w.now with y := false }, { w.now with y := false }, w.ws⟩)[j]? = some v → j < x.regs.length ∧ v.now = v.was ∧ v.was = (if j = k then { w.now with y := false } else loadSt s.mem (16 + 16 * j)) := by
        intro j v hv
        by_cases hjk : k = j
        · subst hjk
          rw [List.getElem?_set_self hkn] at hv
          cases hv
          exact ⟨hkr, rfl, by rw [if_pos rfl]⟩
        · rw [List.getElem?_set_ne hjk] at hv
          have hj : j < x.regs.length := by have := (List.getElem?_eq_some_iff.1 hv).1; omega
          refine ⟨hj, (h.st j v hv).2 (by rw [hts]; omega), ?_⟩
          rw [if_neg (fun e => hjk e.symm)]
          exact (h.ar j v hv).1.symm
      have har : ∀ mem', (∀ i, i ≠ 0 → mem'.getD i 0 = (endM x k s.mem s.sts).1.getD i 0) → mem'.length = (endM x k s.mem s.sts).1.length → ∀ (j : Nat) v, (N.wn.set k ⟨{ w.now with y := false }, { w.now with y := false }, w.ws⟩)[j]? = some v → loadSt mem' (16 + 16 * j) = v.was ∧ ∀ i, 13 ≤ i → i < 16 → mem'.getD (16 + 16 * j + i) 0 = 0 := by
        intro mem' he hl' j v hv
        obtain ⟨hj, _, h2⟩ := hnw j v hv
        refine ⟨?_, ?_⟩
        · rw [loadSt_congr mem' (endM x k s.mem s.sts).1 _ hl' (fun i h1 _ => he i (by omega)), hload j hj, h2]
        · intro i h1 h3
          rw [he _ (by omega), hget1 _ (by omega) (by omega)]
          have hj2 : j < N.wn.length := by omega
          exact (h.ar j _ (List.getElem?_eq_getElem hj2)).2 i h1 h3
      by_cases hla : r - x.qs.getD k 0 = x.gap - 1
      · rw [if_pos hla] at htn
        have e1 : cycleK x s = ⟨N.ck + 1, ((endM x k s.mem s.sts).1.set 0 (k2 : Int)).set 1 ((N.ck + 1) % 4294967296), (endM x k s.mem s.sts).2.set k2 (loadSt (endM x k s.mem s.sts).1 (16 + 16 * k2)), s.devs⟩ := by
          unfold cycleK tickK actK
          rw [h.ck, hs.e]
          simp only
          rw [if_neg hr]
          unfold changeM
          rw [show (r - x.qs.getD k 0 == 0) = true by simpa using hf, show (r - x.qs.getD k 0 == x.gap - 1) = true by simpa using hla, hk2e]
          rfl
        rw [e1, e2]
        have hg2 : ∀ i, i ≠ 0 → ((endM x k s.mem s.sts).1.set 0 (k2 : Int)).getD i 0 = (endM x k s.mem s.sts).1.getD i 0 := fun i hi => by rw [getD_set_eq, if_neg (fun e => hi e.1.symm)]
        refine h.gap hX _ _ _ (by rw [List.length_set, hlen1]) (fun i hi => by rw [hg2 i (by omega), hget1 i (by omega) (by omega)]) (fun i h1 h2 => by rw [hg2 i (by omega), hget1 i (by omega) (by omega)]) ?_ (by rw [List.length_set, em2, List.length_set]; exact h.sl) hws hsb (har _ hg2 (by simp)) ?_
        · rw [htn, getD_set_eq, if_pos ⟨rfl, by omega⟩]
        · intro j v hv
          obtain ⟨hj, h1, h2⟩ := hnw j v hv
          refine ⟨?_, fun _ => h1⟩
          intro e
          rw [htn] at e
          obtain rfl : k2 = j := by omega
          rw [List.getElem?_set_self (by rw [em2, List.length_set, h.sl]; exact hj), hload k2 hj, h1, h2]
      · rw [if_neg hla] at htn
        have e1 : cycleK x s = ⟨N.ck + 1, (endM x k s.mem s.sts).1.set 1 ((N.ck + 1) % 4294967296), (endM x k s.mem s.sts).2, s.devs⟩ := by
          unfold cycleK tickK actK
          rw [h.ck, hs.e]
          simp only
          rw [if_neg hr]
          unfold changeM
          rw [show (r - x.qs.getD k 0 == 0) = true by simpa using hf, show (r - x.qs.getD k 0 == x.gap - 1) = false by simpa using hla]
          rfl
        rw [e1, e2]
        refine h.gap hX _ _ _ hlen1 (fun i hi => hget1 i (by omega) (by omega)) (fun i h1 h2 => hget1 i (by omega) (by omega)) ?_ (by rw [em2, List.length_set]; exact h.sl) hws hsb (har _ (fun _ _ => rfl) rfl) ?_
        · rw [htn, em1, getD_set_eq, if_pos ⟨rfl, by rw [length_splice _ _ _ (by omega)]; omega⟩]
        · intro j v hv
          obtain ⟨hj, h1, h2⟩ := hnw j v hv
          exact ⟨fun e => absurd e (by rw [htn]; omega), fun _ => h1⟩
    · -- a later cycle of a gap
      rw [if_neg (by omega)] at hts
      have hnow : ∀ (j : Nat) v, N.wn[j]? = some v → v.now = v.was := by
        intro j v hv
        have hj : j < x.regs.length := by have := (List.getElem?_eq_some_iff.1 hv).1; omega
        exact (h.st j v hv).2 (by rw [hts]; omega)
      have e2 : cycleN x N = ⟨N.ck + 1, N.wn, N.wi, N.devs⟩ := by
        unfold cycleN actN
        rw [hs.e]
        simp only
        rw [if_neg hr, if_neg hf]
      by_cases hla : r - x.qs.getD k 0 = x.gap - 1
      · rw [if_pos hla] at htn
        have e1 : cycleK x s = ⟨N.ck + 1, (s.mem.set 0 (k2 : Int)).set 1 ((N.ck + 1) % 4294967296), s.sts.set k2 (loadSt s.mem (16 + 16 * k2)), s.devs⟩ := by
          unfold cycleK tickK actK
          rw [h.ck, hs.e]
          simp only
          rw [if_neg hr]
          unfold changeM
          rw [show (r - x.qs.getD k 0 == 0) = false by simpa using hf, show (r - x.qs.getD k 0 == x.gap - 1) = true by simpa using hla, hk2e]
          rfl
        rw [e1, e2]
        have hg2 : ∀ i, i ≠ 0 → (s.mem.set 0 (k2 : Int)).getD i 0 = s.mem.getD i 0 := fun i hi => by rw [getD_set_eq, if_neg (fun e => hi e.1.symm)]
        refine h.gap hX _ _ _ (by rw [List.length_set]) (fun i hi => hg2 i (by omega)) (fun i h1 h2 => hg2 i (by omega)) ?_ (by rw [List.length_set]; exact h.sl) rfl h.sb ?_ ?_
        · rw [htn, getD_set_eq, if_pos ⟨rfl, by omega⟩]
        · intro j v hv
          have ha := h.ar j v hv
          refine ⟨?_, fun i h1 h2 => by rw [hg2 _ (by omega)]; exact ha.2 i h1 h2⟩
          rw [loadSt_congr _ s.mem _ (by simp) (fun i h1 _ => hg2 i (by omega))]
          exact ha.1
        · intro j v hv
          refine ⟨?_, fun _ => hnow j v hv⟩
          intro e
          rw [htn] at e
          obtain rfl : k2 = j := by omega
          rw [List.getElem?_set_self (by rw [h.sl]; exact hk2), (h.ar k2 v hv).1, hnow k2 v hv]
      · rw [if_neg hla] at htn
        have e1 : cycleK x s = ⟨N.ck + 1, s.mem.set 1 ((N.ck + 1) % 4294967296), s.sts, s.devs⟩ := by
          unfold cycleK tickK actK
          rw [h.ck, hs.e]
          simp only
          rw [if_neg hr]
          unfold changeM
          rw [show (r - x.qs.getD k 0 == 0) = false by simpa using hf, show (r - x.qs.getD k 0 == x.gap - 1) = false by simpa using hla]
          rfl
        rw [e1, e2]
        refine h.gap hX _ _ _ rfl (fun i hi => rfl) (fun i h1 h2 => rfl) ?_ h.sl rfl h.sb h.ar ?_
        · rw [htn, ← hts]; exact h.t0
        · intro j v hv
          have hj : j < x.regs.length := by have := (List.getElem?_eq_some_iff.1 hv).1; omega
          exact ⟨fun e => absurd e (by rw [htn]; omega), fun _ => hnow j v hv⟩

theorem Sim.iter {x : KX} (hX : KXs x) {s : KM} {N : NM} (h : Sim x s N) : ∀ n, Sim x (iterK x n s) (iterN x n N)
  | 0 => h
  | n + 1 => (Sim.iter hX h n).step hX

theorem iterN_ck (x : KX) (N : NM) : ∀ n : Nat, (iterN x n N).ck = N.ck + n
  | 0 => by simp [iterN]
  | n + 1 => by simp only [iterN, cycleN]; rw [iterN_ck x N n]; omega

/-- A log grows by one word a cycle at most. -/
def logMax (devs : List DevV) (n : Nat) : Prop := ∀ d ∈ devs, d.2.length ≤ n
theorem putD_max {devs : List DevV} {n : Nat} (h : logMax devs n) (i : Nat) (v : Int) : logMax (putD devs i v) (n + 1) := by
  intro d hd
  unfold putD at hd
  rcases List.mem_or_eq_of_mem_set hd with h1 | h1
  · have := h d h1; omega
  · rw [h1]
    simp only [List.length_append, List.length_cons, List.length_nil]
    rw [List.getD_eq_getElem?_getD]
    cases hi : devs[i]? with
    | none => simp
    | some c => have := h c (List.mem_of_getElem? hi); simp; omega
theorem logMax.mono {devs : List DevV} {n m : Nat} (h : logMax devs n) (hnm : n ≤ m) : logMax devs m := fun d hd => Nat.le_trans (h d hd) hnm

theorem cycleM_log (x : KX) (k : Nat) (ck : Int) (s : StV) (m : NS) (n : Nat) (h : logMax m.2.2 n) : logMax (cycleM (opsN x k ck) s m).2.2.2 (n + 1) := by
  have hm := h.mono (Nat.le_succ n)
  have hW : ∀ code a b nn s', logMax (workM (opsN x k ck) code a b nn s' m).2.2.2.2 (n + 1) := by
    intro code a b nn s'
    unfold workM
    dsimp only
    split <;> (try exact hm)
    · split <;> exact hm
    · split <;> exact hm
    · split
      · rename_i u hu
        simp only [opsN, putN] at hu
        split at hu
        · cases hu
          exact putD_max h _ _
        · split at hu
          · split at hu
            · cases hu; exact hm
            · cases hu
          · cases hu
      · exact hm
  unfold cycleM
  split
  · exact hm
  · split
    · exact hm
    · have hI : logMax (instrM (opsN x k ck) s m).2.2.2.2 (n + 1) := by
        unfold instrM
        split
        · exact hm
        · split
          · exact hm
          · split
            · exact hm
            · dsimp only
              split
              · exact hW _ _ _ _ _
              · exact hW _ _ _ _ _
      unfold stepM
      dsimp only
      split <;> exact hI

theorem cycleN_log (x : KX) (N : NM) (n : Nat) (h : logMax N.devs n) : logMax (cycleN x N).devs (n + 1) := by
  unfold cycleN actN
  simp only
  split
  · exact cycleM_log x _ _ _ _ n h
  · split <;> exact h.mono (Nat.le_succ n)
theorem iterN_log (x : KX) (N : NM) (n : Nat) (h : logMax N.devs n) : ∀ j, logMax (iterN x j N).devs (n + j)
  | 0 => h
  | j + 1 => cycleN_log x _ _ (iterN_log x N n h j)

/-- What Run asks for. -/
theorem Sim.pre {x : KX} (hX : KXs x) {s : KM} {N : NM} (h : Sim x s N) (L n : Nat) (hL : logMax N.devs L) (hLn : 4 * (L + n) ≤ 140737488355328) (hc : N.ck + n ≤ 9223372036854775807) : ∀ j, j < n → PreK x (iterK x j s) := by
  intro j hj
  have hS := h.iter hX j
  refine ⟨by rw [hS.ck, iterN_ck]; omega, ?_, hS.area⟩
  intro d hd
  rw [hS.dv] at hd
  have := iterN_log x N L hL j d hd
  omega

end Go.Proofs.YthmcheoehcmglaaGreat
/- What a booted machine's memory holds, word by word; what is known of an image that is met. -/
namespace Go.Proofs.YthmcheoehcmglaaGreat
open Go.RowKit
set_option linter.unusedVariables false

theorem split_at {α : Type} (xs : List α) (k : Nat) (x : α) (hx : xs[k]? = some x) : xs = xs.take k ++ x :: xs.drop (k + 1) := by
  have hk : k < xs.length := (List.getElem?_eq_some_iff.1 hx).1
  have e : xs[k] = x := (List.getElem?_eq_some_iff.1 hx).2
  conv => lhs; rw [← List.take_append_drop k xs, List.drop_eq_getElem_cons hk, e]
abbrev Own := (Int × Int × Int × Int) × Int
def ApP (b a : Own) : Prop := (shAddr a b || shWord a b) = false

theorem apartN_iff (L : List Own) : apartN L L.length = true ↔ L.Pairwise ApP := by
  have key : ∀ k, k ≤ L.length → (apartN L k = true ↔ (L.take k).Pairwise ApP) := by
    intro k
    induction k with
    | zero => intro _; simp [apartN]
    | succ k ih =>
      intro hk
      rw [apartN_succ L k (by omega), List.take_succ_eq_append_getElem (by omega), List.pairwise_append, Bool.and_eq_true, ih (by omega), List.all_eq_true]
      simp only [List.pairwise_cons, List.not_mem_nil, false_implies, implies_true, List.Pairwise.nil, and_self, true_and, List.mem_singleton, forall_eq, ApP, Bool.not_eq_true']
  have := key L.length (Nat.le_refl _)
  rwa [List.take_length] at this

/-- Two regions meet if a word of the one is the other's. -/
theorem ovl_of (a ca b cb p : Int) (h1 : a ≤ p) (h2 : p < a + ca) (h3 : b ≤ p) (h4 : p < b + cb) : ovl a ca b cb = true := by
  simp [ovl]; omega
theorem ownedN_pre (ws : List WardV) (k : Nat) : ∀ n, k ≤ n → ∃ rest, ownedN ws n = ownedN ws k ++ rest := by
  intro n
  induction n with
  | zero =>
    intro h
    obtain rfl : k = 0 := by omega
    exact ⟨[], by simp⟩
  | succ n ih =>
    intro h
    by_cases e : k = n + 1
    · subst e; exact ⟨[], by simp⟩
    · obtain ⟨rest, hr⟩ := ih (by omega)
      exact ⟨rest ++ _, by simp only [ownedN, hr, List.append_assoc]; rfl⟩
/-- The regions ahead of the j-th of ward k, and that one. -/
theorem owned_split (ws : List WardV) (k j : Nat) (x : WardV) (r : Int × Int × Int × Int) (hx : ws[k]? = some x) (hr : x.regs[j]? = some r) :
    ∃ rest, ownedN ws ws.length = (ownedN ws k ++ (x.regs.take j).map (fun r => (r, (k : Int)))) ++ (r, (k : Int)) :: rest := by
  have hk : k < ws.length := (List.getElem?_eq_some_iff.1 hx).1
  obtain ⟨rest, h⟩ := ownedN_pre ws (k + 1) ws.length (by omega)
  rw [h]
  have e := split_at x.regs j r hr
  refine ⟨(x.regs.drop (j + 1)).map (fun r => (r, (k : Int))) ++ rest, ?_⟩
  simp only [ownedN, hx, Option.map_some, Option.getD_some]
  conv => lhs; rw [e]
  simp

abbrev RegP := (Int × Int × Int × Int) × List Int
def inP (a : Int) (p : RegP) : Bool := decide (p.1.2.2.1 ≤ a) && decide (a < p.1.2.2.1 + p.1.2.1)
def findP (L : List RegP) (a : Int) : Int := ((L.find? (inP a)).map (fun p => p.2.getD (a - p.1.2.2.1).toNat 0)).getD 0

theorem findP_app (A B : List RegP) (a : Int) : findP (A ++ B) a = if A.any (inP a) then findP A a else findP B a := by
  unfold findP
  rw [List.find?_append]
  cases h : A.find? (inP a) with
  | none =>
    have : A.any (inP a) = false := by
      rw [List.any_eq_false]
      exact fun x hx => List.find?_eq_none.1 h x hx
    rw [this]
    simp
  | some p =>
    have : A.any (inP a) = true := List.any_eq_true.2 ⟨p, List.mem_of_find?_eq_some h, List.find?_some h⟩
    rw [this]
    simp
theorem findP_none (L : List RegP) (a : Int) (h : L.any (inP a) = false) : findP L a = 0 := by
  unfold findP
  rw [List.find?_eq_none.2 (fun x hx => List.any_eq_false.1 h x hx)]
  rfl
theorem findP_zero (L : List RegP) (a : Int) (h : ∀ p ∈ L, ∀ i, p.2.getD i 0 = 0) : findP L a = 0 := by
  unfold findP
  cases hf : L.find? (inP a) with
  | none => rfl
  | some p => exact h p (List.mem_of_find?_eq_some hf) _

/-- A ward's regions with their words. -/
def wregs (x : WardV) : List RegP := x.regs.zip ((x.regs.map (fun r => List.replicate r.2.1.toNat (0 : Int))).modifyHead (fun z => splice z 0 x.prog))

theorem wregs_mem (x : WardV) (p : RegP) (h : p ∈ wregs x) : p.1 ∈ x.regs := by
  obtain ⟨r, s⟩ := p
  exact (List.of_mem_zip h).1

theorem rep_getD (n i : Nat) : (List.replicate n (0 : Int)).getD i 0 = 0 := by
  simp only [List.getD_eq_getElem?_getD, List.getElem?_replicate]
  split <;> rfl

theorem zeros_mem (rs : List (Int × Int × Int × Int)) (p : RegP) (h : p ∈ rs.zip (rs.map (fun r => List.replicate r.2.1.toNat (0 : Int)))) : p.2 = List.replicate p.1.2.1.toNat 0 := by
  induction rs with
  | nil => simp at h
  | cons r rs ih =>
    simp only [List.map_cons, List.zip_cons_cons, List.mem_cons] at h
    rcases h with rfl | h
    · rfl
    · exact ih h

theorem wregs_cons (x : WardV) (r : Int × Int × Int × Int) (rs : List (Int × Int × Int × Int)) (h : x.regs = r :: rs) : wregs x = (r, splice (List.replicate r.2.1.toNat 0) 0 x.prog) :: rs.zip (rs.map (fun r => List.replicate r.2.1.toNat (0 : Int))) := by
  unfold wregs
  rw [h]
  rfl

theorem findP_wregs (x : WardV) (hg : WardGood x) (a : Int) : findP (wregs x) a = if firstBase x.regs ≤ a ∧ a < firstBase x.regs + x.prog.length then x.prog.getD (a - firstBase x.regs).toNat 0 else 0 := by
  match hrs : x.regs, hg.one with
  | r :: rs, _ =>
    have hp := hg.prog
    rw [wregs_cons x r rs hrs]
    rw [hrs] at hp
    simp only [firstWords, List.getD_eq_getElem?_getD, List.getElem?_cons_zero, Option.getD_some] at hp
    simp only [firstBase, List.getD_eq_getElem?_getD, List.getElem?_cons_zero, Option.getD_some]
    have h1 : (r, splice (List.replicate r.2.1.toNat 0) 0 x.prog) :: rs.zip (rs.map (fun r => List.replicate r.2.1.toNat (0 : Int))) = [(r, splice (List.replicate r.2.1.toNat 0) 0 x.prog)] ++ rs.zip (rs.map (fun r => List.replicate r.2.1.toNat (0 : Int))) := rfl
    rw [h1, findP_app]
    have h2 : findP (rs.zip (rs.map (fun r => List.replicate r.2.1.toNat (0 : Int)))) a = 0 := findP_zero _ _ (fun p hp i => by rw [zeros_mem _ p hp]; exact rep_getD _ _)
    rw [h2]
    by_cases hi : inP a (r, splice (List.replicate r.2.1.toNat 0) 0 x.prog) = true
    · have h3 : findP [(r, splice (List.replicate r.2.1.toNat 0) 0 x.prog)] a = (splice (List.replicate r.2.1.toNat 0) 0 x.prog).getD (a - r.2.2.1).toNat 0 := by
        unfold findP
        simp only [List.find?_cons, hi]
        rfl
      simp only [List.any_cons, hi, Bool.true_or, if_true]
      rw [h3]
      simp only [inP, Bool.and_eq_true, decide_eq_true_eq] at hi
      rw [List.getD_eq_getElem?_getD, splice_get _ _ _ (by rw [List.length_replicate]; omega)]
      by_cases hin : r.2.2.1 ≤ a ∧ a < r.2.2.1 + x.prog.length
      · rw [if_pos (by omega), if_pos hin]
        simp
      · rw [if_neg (by omega), if_neg hin, ← List.getD_eq_getElem?_getD]
        exact rep_getD _ _
    · have hi' : inP a (r, splice (List.replicate r.2.1.toNat 0) 0 x.prog) = false := by simpa using hi
      simp only [List.any_cons, hi', List.any_nil, Bool.false_or, Bool.false_eq_true, if_false]
      rw [if_neg]
      intro hin
      simp only [inP, Bool.and_eq_false_iff, decide_eq_false_iff_not] at hi'
      omega

theorem mem_step (m : Img) (hF : m.Fits) (k : Nat) (x : WardV) (hx : m.ws[k]? = some x) (a : Nat) :
    (memN m (k + 1)).getD a 0 = if firstBase x.regs ≤ a ∧ (a : Int) < firstBase x.regs + x.prog.length then x.prog.getD (a - firstBase x.regs).toNat 0 else if 16 + 16 * k ≤ a ∧ a < 29 + 16 * k then (stWords (st0 x.bg)).getD (a - (16 + 16 * k)) 0 else (memN m k).getD a 0 := by
  have hk : k < m.ws.length := (List.getElem?_eq_some_iff.1 hx).1
  have hl := memN_len m hF k (by omega)
  have hr := hF.reg x (List.mem_of_getElem? hx)
  have hkern := hF.kern
  have h64 := hF.m64
  have e : memN m (k + 1) = splice (splice (memN m k) (16 + 16 * k) (stWords (st0 x.bg))) (firstBase x.regs).toNat x.prog := by simp only [memN, hx]
  have hs : (stWords (st0 x.bg)).length = 13 := rfl
  have hin : 16 + 16 * k + (stWords (st0 x.bg)).length ≤ (memN m k).length := by rw [hs, hl]; omega
  have hsl : (splice (memN m k) (16 + 16 * k) (stWords (st0 x.bg))).length = m.mem.toNat := by
    unfold splice
    simp only [List.length_append, List.length_take, List.length_drop]
    omega
  rw [e, List.getD_eq_getElem?_getD, splice_get _ _ _ (by rw [hsl]; omega), splice_get _ _ _ hin]
  by_cases h1 : firstBase x.regs ≤ a ∧ (a : Int) < firstBase x.regs + x.prog.length
  · rw [if_pos (by omega), if_pos h1, List.getD_eq_getElem?_getD, show a - (firstBase x.regs).toNat = ((a : Int) - firstBase x.regs).toNat by omega]
  · rw [if_neg (by omega), if_neg h1]
    by_cases h2 : 16 + 16 * k ≤ a ∧ a < 29 + 16 * k
    · rw [if_pos (by omega), if_pos h2, List.getD_eq_getElem?_getD]
    · rw [if_neg (by omega), if_neg h2, List.getD_eq_getElem?_getD]

/-- What an image that is met has. -/
structure Img.Good (m : Img) : Prop where
  f : m.Fits
  fit : fitsB m = true
  ap : apartB m = true
  w : ∀ x ∈ m.ws, WardGood x

theorem Img.Good.base {m : Img} (h : m.Good) (k : Nat) (x : WardV) (hx : m.ws[k]? = some x) : ∃ r rs, x.regs = r :: rs ∧ 16 + 16 * (m.ws.length : Int) + 2 * m.wi.length ≤ r.2.2.1 ∧ firstBase x.regs = r.2.2.1 ∧ (x.prog.length : Int) ≤ r.2.1 := by
  have hg := h.w x (List.mem_of_getElem? hx)
  match hrs : x.regs, hg.one with
  | r :: rs, _ =>
    refine ⟨r, rs, rfl, ?_, rfl, by have := hg.prog; rw [hrs] at this; exact this⟩
    have hf := h.fit
    unfold fitsB at hf
    have := List.all_eq_true.1 hf _ (mem_owned m.ws k x hx r (by rw [hrs]; simp) m.ws.length (List.getElem?_eq_some_iff.1 hx).1)
    unfold fitB at this
    simp only [Bool.not_eq_true', Bool.or_eq_false_iff, decide_eq_false_iff_not] at this
    omega

theorem Img.Good.apart {m : Img} (h : m.Good) (k : Nat) (x : WardV) (hx : m.ws[k]? = some x) (r : Int × Int × Int × Int) (rs : List (Int × Int × Int × Int)) (hr : x.regs = r :: rs) (a : Int) (h1 : r.2.2.1 ≤ a) (h2 : a < r.2.2.1 + r.2.1) :
    ((m.ws.take k).flatMap wregs).any (inP a) = false := by
  rw [List.any_eq_false]
  intro p hp hin
  obtain ⟨z, hz, hpz⟩ := List.mem_flatMap.1 hp
  obtain ⟨i, hi, hzi⟩ := List.getElem_of_mem hz
  rw [List.length_take] at hi
  have hz' : m.ws[i]? = some z := by
    rw [← hzi, List.getElem_take, ← List.getElem?_eq_getElem]
  have hk : k < m.ws.length := (List.getElem?_eq_some_iff.1 hx).1
  have hmem := mem_owned m.ws i z hz' p.1 (wregs_mem z p hpz) k (by omega)
  have hap := (apartN_iff _).1 h.ap
  obtain ⟨rest, hrest⟩ := owned_split m.ws k 0 x r hx (by rw [hr]; rfl)
  rw [hrest] at hap
  simp only [List.take_zero, List.map_nil, List.append_nil] at hap
  have := (List.pairwise_append.1 hap).2.2 _ hmem _ List.mem_cons_self
  simp only [ApP, Bool.or_eq_false_iff, shWord] at this
  simp only [inP, Bool.and_eq_true, decide_eq_true_eq] at hin
  have h5 := ovl_of r.2.2.1 r.2.1 p.1.2.2.1 p.1.2.1 a h1 h2 hin.1 hin.2
  rw [this.2] at h5
  cases h5

theorem mem_hi (m : Img) (h : m.Good) (a : Nat) (ha : 16 + 16 * m.ws.length + 2 * m.wi.length ≤ a) : ∀ k, k ≤ m.ws.length → (memN m k).getD a 0 = findP ((m.ws.take k).flatMap wregs) a := by
  intro k
  induction k with
  | zero => intro _; exact rep_getD _ _
  | succ k ih =>
    intro hk
    have hx : m.ws[k]? = some m.ws[k] := List.getElem?_eq_getElem (by omega)
    generalize m.ws[k] = x at hx
    obtain ⟨r, rs, hrs, hb1, hb2, hb3⟩ := h.base k x hx
    rw [mem_step m h.f k x hx, if_neg (c := 16 + 16 * k ≤ a ∧ a < 29 + 16 * k) (by omega), ih (by omega)]
    rw [show m.ws.take (k + 1) = m.ws.take k ++ [x] by rw [List.take_add_one, hx]; rfl, List.flatMap_append, findP_app]
    simp only [List.flatMap_cons, List.flatMap_nil, List.append_nil]
    rw [findP_wregs x (h.w x (List.mem_of_getElem? hx))]
    by_cases hA : ((m.ws.take k).flatMap wregs).any (inP a) = true
    · rw [if_pos hA, if_neg]
      intro hin
      rw [h.apart k x hx r rs hrs a (by omega) (by omega)] at hA
      cases hA
    · rw [if_neg hA, findP_none _ _ (by simpa using hA)]

theorem mem_lo (m : Img) (h : m.Good) (a : Nat) (ha : a < 16 + 16 * m.ws.length + 2 * m.wi.length) : ∀ k, k ≤ m.ws.length → (memN m k).getD a 0 = if 16 ≤ a ∧ a / 16 - 1 < k then (stWords (st0 ((m.ws[a / 16 - 1]?.map (·.bg)).getD 0))).getD (a % 16) 0 else 0 := by
  intro k
  induction k with
  | zero => intro _; rw [if_neg (by omega)]; exact rep_getD _ _
  | succ k ih =>
    intro hk
    have hx : m.ws[k]? = some m.ws[k] := List.getElem?_eq_getElem (by omega)
    generalize m.ws[k] = x at hx
    obtain ⟨r, rs, hrs, hb1, hb2, hb3⟩ := h.base k x hx
    rw [mem_step m h.f k x hx, if_neg (by omega), ih (by omega)]
    by_cases h1 : 16 + 16 * k ≤ a ∧ a < 32 + 16 * k
    · have e : a / 16 - 1 = k := by omega
      rw [e, hx]
      simp only [Option.map_some, Option.getD_some]
      rw [if_pos (c := 16 ≤ a ∧ k < k + 1) (by omega), if_neg (c := 16 ≤ a ∧ k < k) (by omega)]
      by_cases h2 : 16 + 16 * k ≤ a ∧ a < 29 + 16 * k
      · rw [if_pos h2, show a - (16 + 16 * k) = a % 16 by omega]
      · rw [if_neg h2]
        have : a % 16 = 13 ∨ a % 16 = 14 ∨ a % 16 = 15 := by omega
        rcases this with e | e | e <;> rw [e] <;> rfl
    · rw [if_neg (by omega)]
      by_cases h3 : 16 ≤ a ∧ a / 16 - 1 < k
      · rw [if_pos h3, if_pos (by omega)]
      · rw [if_neg h3, if_neg (by omega)]

theorem wiresN_bd (k : Nat) (l : List UInt8) (bad : Bool) : ∀ x ∈ (wiresN k l bad).1, 0 ≤ x.1 ∧ 0 ≤ x.2 := by
  induction k with
  | zero => simp [wiresN]
  | succ k ih =>
    intro r hr
    simp only [wiresN, List.mem_append, List.mem_singleton] at hr
    rcases hr with hr | rfl
    · exact ih r hr
    · exact ⟨(rdn_bd 1 (by omega) _ _).1, (rdn_bd 1 (by omega) _ _).1⟩
theorem ownersN_bd (k : Nat) (l : List UInt8) (bad : Bool) : ∀ x ∈ (ownersN k l bad).1, 0 ≤ x := by
  induction k with
  | zero => simp [ownersN]
  | succ k ih =>
    intro r hr
    simp only [ownersN, List.mem_append, List.mem_singleton] at hr
    rcases hr with hr | rfl
    · exact ih r hr
    · exact (rdn_bd 1 (by omega) _ _).1

/-- What is known of an image. -/
structure Img.Is (m : Img) : Prop where
  ok : m.Ok
  w : ∀ x ∈ m.ws, WardGood x
  n1 : 1 ≤ m.ws.length
  wi : ∀ x ∈ m.wi, 0 ≤ x.1 ∧ 0 ≤ x.2
  ow : ∀ o ∈ m.ow, 0 ≤ o
  g : 1 ≤ m.gap ∧ m.gap ≤ 16

theorem img_of (l : List UInt8) (m : Img) (hm : rimg l = (m, true)) : m.Is := by
  have hok := rimg_ok l
  rw [hm] at hok
  unfold rimg at hm
  simp only [Prod.mk.injEq, Bool.and_eq_true, Bool.not_eq_true'] at hm
  obtain ⟨rfl, hu, _⟩ := hm
  have h3 := ownersN_inv _ _ _ hu
  have h2 := wiresN_inv _ _ _ h3
  have h1 := wardsN_inv _ _ _ h2
  have hh := rhead_inv l h1.1
  refine ⟨hok, h1.2, ?_, wiresN_bd _ _ _, ownersN_bd _ _ _, ?_⟩
  · simp only [wardsN_len, rhead_good l hh]
    have := hh.n1
    omega
  · simp only [rhead_good l hh]
    exact ⟨hh.g1, hh.g2⟩

theorem mk1 (m : Img) : mkErr m false = 1 := rfl
theorem mk2 (m : Img) (h : (fitsB m && apartB m) = false) : mkErr m true = 2 := by unfold mkErr; rw [if_neg (by simp), if_pos h]
theorem mk3 (m : Img) (h : (fitsB m && apartB m) = true) (h2 : (wiresB m && devsB m) = false) : mkErr m true = 3 := by unfold mkErr; rw [if_neg (by simp), if_neg (by rw [h]; simp), if_pos h2]
theorem mk0 (m : Img) (h : (fitsB m && apartB m) = true) (h2 : (wiresB m && devsB m) = true) : mkErr m true = 0 := by unfold mkErr; rw [if_neg (by simp), if_neg (by rw [h]; simp), if_neg (by rw [h2]; simp)]

theorem mk_inv (m : Img) (ok : Bool) (h : mkErr m ok = 0) : ok = true ∧ fitsB m = true ∧ apartB m = true ∧ wiresB m = true ∧ devsB m = true := by
  cases ok with
  | false => rw [mk1] at h; cases h
  | true =>
    cases h1 : (fitsB m && apartB m) with
    | false => rw [mk2 m h1] at h; cases h
    | true =>
      cases h2 : (wiresB m && devsB m) with
      | false => rw [mk3 m h1 h2] at h; cases h
      | true =>
        simp only [Bool.and_eq_true] at h1 h2
        exact ⟨rfl, h1.1, h1.2, h2.1, h2.2⟩

theorem good_of (l : List UInt8) (m : Img) (ok : Bool) (hm : rimg l = (m, ok)) (he : mkErr m ok = 0) : m.Good := by
  obtain ⟨rfl, h1, h2, _⟩ := mk_inv m ok he
  exact ⟨fits_of l m hm he, h1, h2, (img_of l m hm).w⟩

def exText : ByteArray := ⟨#[1, 1, 0, 128, 0, 0, 8, 1, 0, 0, 0, 0, 0, 16, 0, 64, 7, 0, 3, 1, 0, 0, 5, 1, 16, 0, 7, 4, 1, 0, 0]⟩
def exImg : Img := ⟨1, 128, [⟨8, 0, [(0, 16, 64, 7)], [16777221, 17825799, 67174400]⟩], [], []⟩
theorem ex_img : rimg exText.data.toList = (exImg, true) := by rfl
theorem ex_err : mkErr exImg true = 0 := by rfl

end Go.Proofs.YthmcheoehcmglaaGreat
/- A machine that was just booted is a net. -/
namespace Go.Proofs.YthmcheoehcmglaaGreat
open Go.RowKit
set_option linter.unusedVariables false

/-- A ward's words. -/
def wordsOf (x : WardV) : List (List Int) := (x.regs.map (fun r => List.replicate r.2.1.toNat (0 : Int))).modifyHead (fun z => splice z 0 x.prog)
def bootW (x : WardV) : WN := ⟨st0 x.bg, st0 x.bg, wordsOf x⟩
def bootN (m : Img) : NM := ⟨0, m.ws.map bootW, m.wi.map (fun _ => (0, 0)), List.replicate m.ow.length (0, [])⟩

theorem wregs_eq (x : WardV) : wregs x = x.regs.zip (wordsOf x) := rfl
theorem wordsOf_len (x : WardV) : (wordsOf x).length = x.regs.length := by
  unfold wordsOf
  cases x.regs with
  | nil => rfl
  | cons r rs => simp

theorem Img.Good.fitR {m : Img} (h : m.Good) (x : WardV) (hx : x ∈ m.ws) (r : Reg) (hr : r ∈ x.regs) : 16 + 16 * (m.ws.length : Int) + 2 * m.wi.length ≤ r.2.2.1 ∧ r.2.2.1 + r.2.1 ≤ m.mem ∧ r.1 + r.2.1 ≤ 32768 := by
  obtain ⟨k, hk⟩ := List.getElem?_of_mem hx
  have hf := h.fit
  unfold fitsB at hf
  have := List.all_eq_true.1 hf _ (mem_owned m.ws k x hk r hr m.ws.length (List.getElem?_eq_some_iff.1 hk).1)
  unfold fitB at this
  simp only [Bool.not_eq_true', Bool.or_eq_false_iff, decide_eq_false_iff_not] at this
  omega

theorem imgK_of {m : Img} (h : m.Good) (hi : m.Is) : ImgK m := by
  refine ⟨h.f, ⟨by rw [List.length_map]; exact hi.n1, by rw [List.length_map]; exact h.f.ok.l, ?_, hi.g.1, hi.g.2⟩, ?_⟩
  · intro q hq
    simp only [List.mem_map] at hq
    obtain ⟨x, hx, rfl⟩ := hq
    exact (h.w x hx).q1
  · intro x hx
    have hw := h.f.ok.w x hx
    refine ⟨hw.1, fun r hr => ?_⟩
    have h1 := hw.2.1 r hr
    have h2 := (h.w x hx).rt r hr
    have h3 := h.fitR x hx r hr
    exact ⟨⟨h1.1, h1.2.1, h1.2.2.1, h1.2.2.2.1, h1.2.2.2.2.1, h1.2.2.2.2.2, h2.1, by omega⟩, h3.1, h3.2.1, h3.2.2⟩

/-- Two regions share nothing. -/
theorem Img.Good.two {m : Img} (h : m.Good) (k k' j j' : Nat) (x x' : WardV) (r r' : Reg) (hx : m.ws[k]? = some x) (hx' : m.ws[k']? = some x') (hr : x.regs[j]? = some r) (hr' : x'.regs[j']? = some r') (hlt : k < k' ∨ (k = k' ∧ j < j')) : ApP (r, (k : Int)) (r', (k' : Int)) := by
  have hap := (apartN_iff _).1 h.ap
  obtain ⟨rest, hrest⟩ := owned_split m.ws k' j' x' r' hx' hr'
  rw [hrest] at hap
  refine (List.pairwise_append.1 hap).2.2 _ ?_ _ List.mem_cons_self
  rcases hlt with h1 | ⟨rfl, h1⟩
  · exact List.mem_append_left _ (mem_owned m.ws k x hx r (List.mem_of_getElem? hr) k' h1)
  · rw [hx] at hx'
    cases hx'
    refine List.mem_append_right _ ?_
    rw [List.mem_map]
    refine ⟨r, ?_, rfl⟩
    have : (x.regs.take j')[j]? = some r := by rw [List.getElem?_take, if_pos h1]; exact hr
    exact List.mem_of_getElem? this

theorem ApP.words {a b : Own} (h : ApP a b) (i : Int) : ¬ ((a.1.2.2.1 ≤ i ∧ i < a.1.2.2.1 + a.1.2.1) ∧ (b.1.2.2.1 ≤ i ∧ i < b.1.2.2.1 + b.1.2.1)) := by
  rintro ⟨⟨h1, h2⟩, h3, h4⟩
  simp only [ApP, Bool.or_eq_false_iff, shWord] at h
  have := ovl_of b.1.2.2.1 b.1.2.1 a.1.2.2.1 a.1.2.1 i h3 h4 h1 h2
  rw [h.2] at this
  cases this

theorem boot_xs (m : Img) (h : m.Good) (hi : m.Is) (xs : List (WardV × Value × Value)) (X M D : Nat) (vI vQ : Value) (gK cK : Nat) (vD : List Value) : KXs (bootX m xs X M D vI vQ gK cK vD) := by
  have hK := imgK_of h hi
  have hkern := h.f.kern
  have hget : ∀ (k : Nat) rs, (m.ws.map (·.regs))[k]? = some rs → ∃ x, m.ws[k]? = some x ∧ rs = x.regs := by
    intro k rs hrs
    rw [List.getElem?_map, Option.map_eq_some_iff] at hrs
    obtain ⟨x, hx, rfl⟩ := hrs
    exact ⟨x, hx, rfl⟩
  refine ⟨⟨?_, ?_, ?_⟩, hK.qs, by simp [bootX], ?_⟩
  · intro rs hrs r hr
    simp only [bootX, List.mem_map] at hrs
    obtain ⟨x, hx, rfl⟩ := hrs
    have h1 := (hK.fit x hx).2 r hr
    have h2 := h1.1
    refine ⟨h2.f0, h2.s0, ?_, ?_, h1.2.2.2⟩
    · simp only [kerK, bootX, List.length_map]; have := h1.2.1; omega
    · simp only [bootX]; have := h1.2.2.1; omega
  · intro rs hrs
    simp only [bootX, List.mem_map] at hrs
    obtain ⟨x, hx, rfl⟩ := hrs
    obtain ⟨k, hk⟩ := List.getElem?_of_mem hx
    rw [List.pairwise_iff_getElem]
    intro i j hi' hj hij a ⟨h1, h2⟩
    have hap := h.two k k i j x x _ _ hk hk (List.getElem?_eq_getElem hi') (List.getElem?_eq_getElem hj) (.inr ⟨rfl, hij⟩)
    simp only [ApP, Bool.or_eq_false_iff, shAddr, beq_self_eq_true, Bool.true_and] at hap
    rw [inR_iff] at h1 h2
    have := ovl_of x.regs[j].1 x.regs[j].2.1 x.regs[i].1 x.regs[i].2.1 a h2.1 h2.2 h1.1 h1.2
    rw [hap.1] at this
    cases this
  · intro k k' rs rs' j j' r r' hrs hrs' hr hr' hne i hb
    obtain ⟨x, hx, rfl⟩ := hget k rs hrs
    obtain ⟨x', hx', rfl⟩ := hget k' rs' hrs'
    by_cases hlt : k < k' ∨ (k = k' ∧ j < j')
    · exact (h.two k k' j j' x x' r r' hx hx' hr hr' hlt).words i hb
    · exact (h.two k' k j' j x' x r' r hx' hx hr' hr (by omega)).words i ⟨hb.2, hb.1⟩
  · simp only [kerK, bootX, List.length_map]; omega

theorem loadSt_of (mem : List Int) (o : Nat) (s : StV) (h8 : s.regs.length = 8) (hl : o + 16 ≤ mem.length) (h : ∀ i, i < 13 → mem.getD (o + i) 0 = (stWords s).getD i 0) : loadSt mem o = s := by
  have hw : (stWords s).length = 13 := by simp [stWords, h8]
  rw [← loadSt_save mem o s h8 hl]
  refine loadSt_congr _ _ _ (by rw [length_splice _ _ _ (by omega)]) ?_
  intro i h1 h2
  rw [getD_splice _ _ _ (by omega), if_pos (by omega)]
  have := h (i - o) (by omega)
  rw [show o + (i - o) = i by omega] at this
  exact this

theorem wordsOf_at (x : WardV) (hg : WardGood x) (j : Nat) (r : Reg) (u : List Int) (hr : x.regs[j]? = some r) (hu : (wordsOf x)[j]? = some u) : u.length = r.2.1.toNat := by
  unfold wordsOf at hu
  have hp := hg.prog
  match hrs : x.regs, j with
  | [], _ => rw [hrs] at hr; simp at hr
  | r0 :: rs, 0 =>
    rw [hrs] at hu hr hp
    simp only [List.map_cons, List.modifyHead_cons, List.getElem?_cons_zero, Option.some.injEq] at hu hr
    subst hu hr
    simp only [firstWords, List.getD_cons_zero] at hp
    have h1 : x.prog.length ≤ r0.2.1.toNat := by
      have := hp
      omega
    rw [length_splice _ _ _ (by simp; omega)]
    simp
  | r0 :: rs, j + 1 =>
    rw [hrs] at hu hr
    simp only [List.map_cons, List.modifyHead_cons, List.getElem?_cons_succ, List.getElem?_map] at hu hr
    rw [hr] at hu
    simp only [Option.map_some, Option.some.injEq] at hu
    rw [← hu]
    simp

theorem wordsOf_bd (x : WardV) (hp : ∀ v ∈ x.prog, 0 ≤ v ∧ v < 4294967296) : ∀ u ∈ wordsOf x, ∀ v ∈ u, bdW v := by
  intro u hu v hv
  unfold wordsOf at hu
  cases hrs : x.regs with
  | nil => rw [hrs] at hu; simp at hu
  | cons r0 rs =>
    rw [hrs] at hu
    simp only [List.map_cons, List.modifyHead_cons, List.mem_cons, List.mem_map] at hu
    rcases hu with rfl | ⟨r, _, rfl⟩
    · unfold splice at hv
      rcases List.mem_append.1 hv with h | h
      · have := List.mem_of_mem_take h
        simp only [List.mem_replicate] at this
        rw [this.2]; exact ⟨by simp, by simp⟩
      · rcases List.mem_append.1 h with h | h
        · exact hp v h
        · have := List.mem_of_mem_drop h
          simp only [List.mem_replicate] at this
          rw [this.2]; exact ⟨by simp, by simp⟩
    · simp only [List.mem_replicate] at hv
      rw [hv.2]; exact ⟨by simp, by simp⟩

theorem boot_sim (m : Img) (h : m.Good) (hi : m.Is) (xs : List (WardV × Value × Value)) (X M D : Nat) (vI vQ : Value) (gK cK : Nat) (vD : List Value) : Sim (bootX m xs X M D vI vQ gK cK vD) (bootM m) (bootN m) := by
  have hX := boot_xs m h hi xs X M D vI vQ gK cK vD
  have hml := memN_len m h.f m.ws.length (Nat.le_refl _)
  have hkern := h.f.kern
  have hl1 := hi.n1
  have lo := fun a ha => mem_lo m h a ha m.ws.length (Nat.le_refl _)
  have hiM : ∀ a, 16 + 16 * m.ws.length + 2 * m.wi.length ≤ a → (memN m m.ws.length).getD a 0 = findP (m.ws.flatMap wregs) a := by
    intro a ha
    have := mem_hi m h a ha m.ws.length (Nat.le_refl _)
    rw [List.take_length] at this
    exact this
  have hturn : turnN (bootX m xs X M D vI vQ gK cK vD) 0 = 0 := by unfold turnN; rw [if_pos rfl]
  have hwn : ∀ (k : Nat) w, (bootN m).wn[k]? = some w → ∃ x, m.ws[k]? = some x ∧ w = bootW x := by
    intro k w hw
    simp only [bootN, List.getElem?_map, Option.map_eq_some_iff] at hw
    obtain ⟨x, hx, rfl⟩ := hw
    exact ⟨x, hx, rfl⟩
  have hbg : ∀ x ∈ m.ws, StB (st0 x.bg) := fun x hx => st0_B _ (h.f.ok.w x hx).2.2.1 (h.f.ok.w x hx).2.2.2.1
  refine ⟨rfl, by simp [bootN], ⟨hml, by simp [bootN, bootX], ?_, by simp [bootN, bootX], ?_, ?_, ?_⟩, rfl, by simp [bootM, bootX], ?_, ?_, ?_, ?_, ?_, ?_, ?_, ?_, ?_⟩
  · intro i c hc
    simp only [bootN, List.getElem?_map, Option.map_eq_some_iff] at hc
    obtain ⟨y, hy, rfl⟩ := hc
    have hil := (List.getElem?_eq_some_iff.1 hy).1
    simp only [cellAt, bootX, List.length_map, bootM]
    rw [lo _ (by omega), lo _ (by omega), if_neg (by omega), if_neg (by omega)]
    simp
  · intro k rs ws hrs hws
    simp only [bootX, List.getElem?_map, Option.map_eq_some_iff] at hrs
    obtain ⟨x, hx, rfl⟩ := hrs
    simp only [bootN, List.map_map, List.getElem?_map, hx, Option.map_some, Option.some.injEq] at hws
    rw [← hws]
    exact wordsOf_len x
  · intro k rs ws j r u hrs hws hr hu
    have hrs0 := hrs
    simp only [bootX, List.getElem?_map, Option.map_eq_some_iff] at hrs
    obtain ⟨x, hx, rfl⟩ := hrs
    simp only [bootN, List.map_map, List.getElem?_map, hx, Option.map_some, Option.some.injEq, Function.comp] at hws
    have hws' : wordsOf x = ws := hws
    rw [← hws'] at hu
    have hxm := List.mem_of_getElem? hx
    have hrm := List.mem_of_getElem? hr
    have hf := h.fitR x hxm r hrm
    refine ⟨wordsOf_at x (h.w x hxm) j r u hr hu, ?_⟩
    intro i hi2
    simp only [bootM]
    rw [hiM _ (by omega)]
    have hmem : (r, u) ∈ m.ws.flatMap wregs := by
      rw [List.mem_flatMap]
      refine ⟨x, hxm, ?_⟩
      rw [wregs_eq]
      have : (x.regs.zip (wordsOf x))[j]? = some (r, u) := by rw [List.getElem?_zip_eq_some]; exact ⟨hr, hu⟩
      exact List.mem_of_getElem? this
    have hin : inP ((r.2.2.1.toNat + i : Nat) : Int) (r, u) = true := by simp only [inP, Bool.and_eq_true, decide_eq_true_eq]; omega
    unfold findP
    cases hfd : (m.ws.flatMap wregs).find? (inP ((r.2.2.1.toNat + i : Nat) : Int)) with
    | none => exact absurd hin (by simpa using List.find?_eq_none.1 hfd _ hmem)
    | some p =>
      have hp1 := List.mem_of_find?_eq_some hfd
      have hp2 := List.find?_some hfd
      obtain ⟨x', hx', hpx⟩ := List.mem_flatMap.1 hp1
      obtain ⟨k', hk'⟩ := List.getElem?_of_mem hx'
      rw [wregs_eq] at hpx
      obtain ⟨j', hj'⟩ := List.getElem?_of_mem hpx
      rw [List.getElem?_zip_eq_some] at hj'
      simp only [inP, Bool.and_eq_true, decide_eq_true_eq] at hp2 hin
      have hkj : k = k' ∧ j = j' := by
        by_cases hne : k = k' ∧ j = j'
        · exact hne
        · exfalso
          have hrs' : (bootX m xs X M D vI vQ gK cK vD).regs[k']? = some x'.regs := by simp [bootX, hk']
          exact hX.ok.mw k k' _ _ j j' r p.1 hrs0 hrs' hr hj'.1 hne _ ⟨hin, hp2⟩
      obtain ⟨rfl, rfl⟩ := hkj
      rw [hx] at hk'
      cases hk'
      rw [hr] at hj'
      rw [hu] at hj'
      obtain ⟨h1, h2⟩ := hj'
      cases h1
      simp only [Option.map_some, Option.getD_some]
      rw [← Option.some.inj h2]
      congr 1
      omega
  · intro i hi2 hn
    simp only [kerK, bootX, List.length_map] at hi2
    simp only [bootM]
    rw [hiM i (by omega)]
    refine findP_none _ _ ?_
    rw [List.any_eq_false]
    intro p hp hin
    obtain ⟨x', hx', hpx⟩ := List.mem_flatMap.1 hp
    have := wregs_mem x' p hpx
    simp only [inP, Bool.and_eq_true, decide_eq_true_eq] at hin
    exact hn x'.regs (by simp only [bootX, List.mem_map]; exact ⟨x', hx', rfl⟩) p.1 this hin
  · show (memN m m.ws.length).getD 0 0 = turnN _ 0
    rw [hturn, lo 0 (by omega), if_neg (by omega)]
  · show (memN m m.ws.length).getD 1 0 = 0 % 4294967296
    rw [lo 1 (by omega), if_neg (by omega)]
    rfl
  · intro i h2 h16
    simp only [bootM]
    rw [lo i (by omega), if_neg (by omega)]
  · intro k w hw
    obtain ⟨x, hx, rfl⟩ := hwn k w hw
    have hk := (List.getElem?_eq_some_iff.1 hx).1
    have hcell : ∀ i, i < 16 → (memN m m.ws.length).getD (16 + 16 * k + i) 0 = (stWords (st0 x.bg)).getD i 0 := by
      intro i hi2
      rw [lo _ (by omega), if_pos (by omega)]
      have e1 : (16 + 16 * k + i) / 16 - 1 = k := by omega
      have e2 : (16 + 16 * k + i) % 16 = i := by omega
      rw [e1, e2, hx]
      rfl
    refine ⟨loadSt_of _ _ _ rfl (by simp only [bootM]; omega) (fun i hi2 => hcell i (by omega)), ?_⟩
    intro i h1 h2
    simp only [bootM]
    rw [hcell i h2]
    rcases (show i = 13 ∨ i = 14 ∨ i = 15 by omega) with rfl | rfl | rfl <;> rfl
  · intro k w hw
    obtain ⟨x, hx, rfl⟩ := hwn k w hw
    refine ⟨fun _ => ?_, fun _ => rfl⟩
    simp [bootM, hx, bootW]
  · intro w hw
    obtain ⟨k, hk⟩ := List.getElem?_of_mem hw
    obtain ⟨x, hx, rfl⟩ := hwn k w hk
    exact ⟨hbg x (List.mem_of_getElem? hx), hbg x (List.mem_of_getElem? hx)⟩
  · intro w hw
    obtain ⟨k, hk⟩ := List.getElem?_of_mem hw
    obtain ⟨x, hx, rfl⟩ := hwn k w hk
    exact wordsOf_bd x (h.f.ok.w x (List.mem_of_getElem? hx)).2.2.2.2.1
  · intro c hc
    simp only [bootN, List.mem_map] at hc
    obtain ⟨_, _, rfl⟩ := hc
    exact ⟨⟨by simp, by simp⟩, ⟨by simp, by simp⟩⟩
  · intro d hd
    simp only [bootN, List.mem_replicate] at hd
    rw [hd.2]
    exact ⟨by simp, by simp⟩

end Go.Proofs.YthmcheoehcmglaaGreat
/- What is to be seen of a machine, by the net: Boot, Run, Word, Clock, View. -/
namespace Go.Proofs.YthmcheoehcmglaaGreat
open Go.RowKit
set_option linter.unusedVariables false

/-- A machine of a net lies in the world. -/
structure Live (x : KX) (s : KM) (N : NM) (vL : List Value) (w : World) : Prop where
  k : KerM x s vL w
  n : Sim x s N
  x : KXs x

theorem Live.frF {x : KX} {s : KM} {N : NM} {vL : List Value} {w w' : World} (h : Live x s N vL w) (hf : Fr (fun _ => False) w w') : Live x s N vL w' := ⟨KerF.frF h.k hf, h.n, h.x⟩

theorem KerF.at' {x : KX} {ck : Int} {mem : List Int} {sts : List StV} {devs : List DevV} {vL : List Value} {w : World} (h : KerF x ck mem sts devs vL w) : KerAt w x.X x.M x.n mem ck (sts.zip x.vR) (.slice (some ⟨x.gK, 0, none⟩) x.regs.length x.cK) := by
  obtain ⟨L, hL, hS⟩ := h.st
  have hl : (sts.zip x.vR).length = x.regs.length := by rw [List.length_zip, h.sl, ← h.r.wn, Nat.min_self]
  have hk := h.r.kern
  refine ⟨⟨_, h.r.hx, rfl, rfl, rfl⟩, h.r.hm, ⟨x.gK, x.cK, L.toArray, by rw [hl], hL, ?_⟩, h.r.hn, h.n64, h.r.n1, by rw [hl]; omega, ?_, h.r.mb⟩
  · intro k y hy c v hcv
    rw [List.getElem?_zip_eq_some] at hy
    obtain ⟨h1, h2⟩ := hS k y.1 hy.1
    have hkr : k < x.regs.length := by rw [← h.sl]; exact (List.getElem?_eq_some_iff.1 hy.1).1
    have h8 := (h.sb y.1 (List.mem_of_getElem? hy.1)).l
    have hc14 : c < 14 := by
      have := (List.getElem?_eq_some_iff.1 hcv).1
      simpa [kwCells, stCells, h8] using this
    rw [List.getElem?_toArray]
    by_cases hc : c < 13
    · have e : (kwCells y)[c]? = (stCells y.1)[c]? := by unfold kwCells; rw [List.getElem?_append_left (by rw [stCells_len _ h8]; exact hc)]
      rw [e, h2, List.getElem?_take, if_pos hc, List.getElem?_drop] at hcv
      exact hcv
    · obtain rfl : c = 13 := by omega
      have e : (kwCells y)[13]? = some y.2 := by unfold kwCells; rw [List.getElem?_append_right (by rw [stCells_len _ h8]; omega), stCells_len _ h8]; rfl
      rw [e] at hcv
      cases hcv
      obtain ⟨v, hv, hcell, _⟩ := h.r.rg k _ (List.getElem?_eq_getElem hkr)
      rw [hy.2] at hv
      cases hv
      rw [row_cell hL, List.getElem?_toArray] at hcell
      exact hcell
  · intro y hy
    obtain ⟨k, hk⟩ := List.getElem?_of_mem hy
    rw [List.getElem?_zip_eq_some] at hk
    exact (h.sb _ (List.mem_of_getElem? hk.1)).ok

theorem Live.word {x : KX} {s : KM} {N : NM} {vL : List Value} {w : World} (h : Live x s N vL w) (i : Int) :
    Calls Tryz.prog 29 #[.pointer (some ⟨x.X, 0, none⟩), .int .i64 i] w fun e w' =>
      e = .returned (.tuple #[.int .u32 (if 0 ≤ i ∧ i < x.n then s.mem.getD i.toNat 0 else 0), .int .i64 (if 0 ≤ i ∧ i < x.n then 0 else 6)]) ∧ w' = w :=
  word_any w x.X x.M x.n s.mem s.ck _ _ i (KerF.at' h.k)
theorem Live.clock {x : KX} {s : KM} {N : NM} {vL : List Value} {w : World} (h : Live x s N vL w) :
    Calls Tryz.prog 60 #[.pointer (some ⟨x.X, 0, none⟩)] w fun e w' => e = .returned (.int .i64 N.ck) ∧ w' = w := by
  have := clock_any w x.X x.M x.n s.mem s.ck _ _ (KerF.at' h.k)
  rw [h.n.ck] at this
  exact this

theorem Sim.view {x : KX} {s : KM} {N : NM} (h : Sim x s N) (hw : x.regs.length = x.vR.length) (k : Nat) (v : WN) (hv : N.wn[k]? = some v) : viewSt s.mem (s.sts.zip x.vR) k = v.now := by
  unfold viewSt
  rw [h.t0]
  have hk : k < x.regs.length := by have := (List.getElem?_eq_some_iff.1 hv).1; have h2 := h.hi.wl; rw [List.length_map] at h2; omega
  by_cases ht : turnN x N.ck = k
  · rw [if_pos (by simpa using ht)]
    have h1 := (h.st k v hv).1 ht
    have h2 : (s.sts.zip x.vR)[k]? = some (v.now, x.vR[k]'(by omega)) := by rw [List.getElem?_zip_eq_some]; exact ⟨h1, List.getElem?_eq_getElem _⟩
    rw [getD_of h2]
  · rw [if_neg (by simpa using ht), (h.ar k v hv).1]
    exact ((h.st k v hv).2 ht).symm

theorem Live.view {x : KX} {s : KM} {N : NM} {vL : List Value} {w : World} (h : Live x s N vL w) (k : Nat) (v : WN) (hv : N.wn[k]? = some v) :
    Calls Tryz.prog 23 #[.pointer (some ⟨x.X, 0, none⟩), .int .i64 k] w fun e w' => e = .returned (.tuple #[.agg (stCells v.now).toArray, .int .i64 0]) ∧ Fr (fun _ => False) w w' := by
  have hr := KerF.r h.k
  have hk : k < x.regs.length := by have := (List.getElem?_eq_some_iff.1 hv).1; have h2 := h.n.hi.wl; rw [List.length_map] at h2; omega
  have hl : (s.sts.zip x.vR).length = x.regs.length := by rw [List.length_zip, KerF.sl h.k, ← hr.wn, Nat.min_self]
  have := kview_yes w x.X x.M x.n s.mem s.ck _ _ k (KerF.at' h.k) (by rw [hl]; exact hk)
  rw [h.n.view hr.wn k v hv] at this
  exact this
theorem Live.view_no {x : KX} {s : KM} {N : NM} {vL : List Value} {w : World} (h : Live x s N vL w) (k : Int) (hk : hasB x.regs.length k = false) :
    Calls Tryz.prog 23 #[.pointer (some ⟨x.X, 0, none⟩), .int .i64 k] w fun e w' => e = .returned (.tuple #[.agg (stCells noSt).toArray, .int .i64 4]) ∧ Fr (fun _ => False) w w' := by
  have hr := KerF.r h.k
  have hl : (s.sts.zip x.vR).length = x.regs.length := by rw [List.length_zip, KerF.sl h.k, ← hr.wn, Nat.min_self]
  exact kview_no w x.X x.M x.n s.mem s.ck _ _ k (KerF.at' h.k) (by rw [hl]; exact hk)

/-- What the machine of an image is. -/
structure XOf (m : Img) (x : KX) : Prop where
  n : x.n = m.mem.toNat
  gap : x.gap = m.gap
  qs : x.qs = m.ws.map (·.q)
  regs : x.regs = m.ws.map (·.regs)
  wires : x.wires = m.wi
  dvs : x.dvs = (List.range m.ws.length).map (fun k => devsOf m.ow k m.ow.length)
  dn : x.dn = m.ow.length

theorem boot_live (s : ByteArray) (hs : s.size ≤ maxLen) (w : World) (m : Img) (ok : Bool) (E : Hid (rimg s.data.toList = (m, ok))) (he : mkErr m ok = 0) :
    Calls Tryz.prog 36 #[.string s] w fun e w' => ∃ x vL, e = .returned (.tuple #[.pointer (some ⟨x.X, 0, none⟩), .int .i64 0]) ∧ Live x (bootM m) (bootN m) vL w' ∧ XOf m x ∧ Fr (fun _ => False) w w' ∧ (∀ i, KA x vL i → w.heap.size ≤ i) := by
  have hg := good_of _ m ok E.out he
  have hok : ok = true := (mk_inv m ok he).1
  have hi : m.Is := img_of s.data.toList m (by rw [← hok]; exact E.out)
  refine (boot_yes s hs w m ok E hg.f he).mono ?_
  rintro e w' ⟨X, xs, rfl, hxs, _, hf, hb⟩
  obtain ⟨M, D, vI, vQ, gK, cK, vD, hK, hfresh⟩ := bootK m (imgK_of hg hi) xs hxs w.heap.size w' X hb
  exact ⟨_, _, rfl, ⟨hK, boot_sim m hg hi xs X M D vI vQ gK cK vD, boot_xs m hg hi xs X M D vI vQ gK cK vD⟩, ⟨rfl, rfl, rfl, rfl, rfl, rfl, rfl⟩, hf, hfresh⟩

theorem Live.run {x : KX} {s : KM} {N : NM} {vL : List Value} {w : World} (h : Live x s N vL w) (n : Int) (L : Nat) (hL : logMax N.devs L) (hLn : 4 * (L + (runN n).toNat) ≤ 140737488355328) (hc : N.ck + (runN n).toNat ≤ 9223372036854775807) :
    Calls Tryz.prog 21 #[.pointer (some ⟨x.X, 0, none⟩), .int .i64 n] w fun e w' => e = .returned (.int .i64 (runN n)) ∧ ∃ vL', Live x (iterK x (runN n).toNat s) (iterN x (runN n).toNat N) vL' w' ∧ LogsIn vL vL' w.heap.size ∧ Fr (KA x vL) w w' := by
  refine (run_any x s vL w h.k n (h.n.pre h.x L _ hL hLn hc)).mono ?_
  rintro e w' ⟨rfl, vL', h1, h2, h3⟩
  exact ⟨rfl, vL', ⟨h1, h.n.iter h.x _, h.x⟩, h2, h3⟩

end Go.Proofs.YthmcheoehcmglaaGreat
/- wardskeep: some, boot; the image is met. -/
namespace Go.Proofs.YthmcheoehcmglaaGreat
open Go.RowKit
set_option linter.unusedVariables false
attribute [local go_sem ↓] Go.wp_at_zero Go.wp_at_succ

theorem keep_ok (gap : Int) (l : List (Int × List Int)) (n : Nat) (n1 : 1 ≤ n) (n4 : n ≤ 4) : mkErr (keepImg gap l n) true = 0 := by
  have h1 : fitsB (keepImg gap l n) = true := by
    match n, n1, n4 with
    | 1, _, _ => rfl
    | 2, _, _ => rfl
    | 3, _, _ => rfl
    | 4, _, _ => rfl
  have h2 : apartB (keepImg gap l n) = true := by
    match n, n1, n4 with
    | 1, _, _ => rfl
    | 2, _, _ => rfl
    | 3, _, _ => rfl
    | 4, _, _ => rfl
  have h3 : wiresB (keepImg gap l n) = true := rfl
  have h4 : devsB (keepImg gap l n) = true := by
    match n, n1, n4 with
    | 1, _, _ => rfl
    | 2, _, _ => rfl
    | 3, _, _ => rfl
    | 4, _, _ => rfl
  exact mk0 _ (by rw [h1, h2]; rfl) (by rw [h3, h4]; rfl)

/-- One to four wards. -/
def someL (l : List (Int × List Int)) : List (Int × List Int) := if l = [] then [(0, [])] else l.take 4
theorem someL_bd (l : List (Int × List Int)) : 1 ≤ (someL l).length ∧ (someL l).length ≤ 4 := by
  unfold someL
  split
  · simp
  · rename_i h
    have : 0 < l.length := List.length_pos_iff.2 h
    simp; omega

/-- A slice of wards, whatever its length. -/
def WdsV (w : World) (v : Value) (l : List (Int × List Int)) : Prop := ∃ a c, v = .slice a l.length c ∧ l.length ≤ c ∧ c ≤ 9223372036854775807 ∧ (1 ≤ l.length → ∃ g o, a = some ⟨g, o, none⟩ ∧ WdsAt w g o l.length c l)
theorem WdsAt.fr {w w' : World} {g o n c : Nat} {l : List (Int × List Int)} (h : WdsAt w g o n c l) (hf : Fr (fun _ => False) w w') : WdsAt w' g o n c l := by
  refine ⟨h.len, ?_, h.ok⟩
  intro k q ws hk
  obtain ⟨h1, vw, h2, h3⟩ := h.el k q ws hk
  exact ⟨cell_fr h1 hf, vw, cell_fr h2 hf, h3.fr hf⟩
theorem WdsAt.take {w : World} {g o n c c' : Nat} {l : List (Int × List Int)} (h : WdsAt w g o n c l) (j : Nat) (hj : j ≤ n) : WdsAt w g o j c' (l.take j) := by
  refine ⟨by rw [List.length_take, h.len]; omega, ?_, fun q ws hm => h.ok q ws (List.mem_of_mem_take hm)⟩
  intro k q ws hk
  rw [List.getElem?_take] at hk
  split at hk
  · exact h.el k q ws hk
  · cases hk

set_option maxRecDepth 100000 in
set_option maxHeartbeats 1000000 in
theorem some_any (w : World) (v : Value) (l : List (Int × List Int)) (h : WdsV w v l) :
    Calls Tryz.prog 25 #[v] w fun e w' => ∃ g o c, e = .returned (.slice (some ⟨g, o, none⟩) (someL l).length c) ∧ WdsAt w' g o (someL l).length c (someL l) ∧ Fr (fun _ => False) w w' := by
  obtain ⟨a, c, rfl, hlc, hcm, hel⟩ := h
  by_cases h0 : l = []
  · subst h0
    have e : someL [] = [(0, [])] := rfl
    rw [e]
    go_enter Tryz.func25, Tryz.ntmps25
    go_wp2_with fail
    go_ret
    refine ⟨w.heap.size, 0, 1, rfl, ⟨rfl, ?_, ?_⟩, (Fr.refl _ w).alloc _⟩
    · intro k q ws hk
      have hb := heap_alloc_new w (.cells #[.int .i64 0, .slice none 0 0] 41)
      match k, hk with
      | 0, hk =>
        simp only [List.getElem?_cons_zero, Option.some.injEq, Prod.mk.injEq] at hk
        obtain ⟨rfl, rfl⟩ := hk
        exact ⟨row_cell hb 0, .slice none 0 0, row_cell hb 1, none, 0, rfl, by simp, by omega, by simp⟩
    · intro q ws hm
      simp only [List.mem_singleton, Prod.mk.injEq] at hm
      obtain ⟨rfl, rfl⟩ := hm
      exact ⟨by unfold I64; omega, by simp⟩
  · have hl : 0 < l.length := List.length_pos_iff.2 h0
    obtain ⟨g, o, rfl, hW⟩ := hel hl
    have HW := hid hW
    have hli : ¬ (l.length : Int) = 0 := by omega
    have hlb : ((l.length : Int) == 0) = false := by simpa using h0
    by_cases h4 : 4 < l.length
    · have e : someL l = l.take 4 := by unfold someL; rw [if_neg h0]
      have el : (someL l).length = 4 := by rw [e, List.length_take]; omega
      rw [el, e]
      have h4i : (4 : Int) < (l.length : Int) := by omega
      have hc4 : (4 : Int) ≤ (c : Int) := by omega
      have hc4' : 4 ≤ c := by omega
      clear hel hW
      go_enter Tryz.func25, Tryz.ntmps25
      go_wp2_with fail
      go_ret
      exact ⟨g, o, _, rfl, HW.out.take 4 (by omega), Fr.refl _ _⟩
    · have e : someL l = l := by unfold someL; rw [if_neg h0, List.take_of_length_le (by omega)]
      rw [e]
      have h4i : ¬ (4 : Int) < (l.length : Int) := by omega
      clear hel hW
      go_enter Tryz.func25, Tryz.ntmps25
      go_wp2_with fail
      go_ret
      exact ⟨g, o, c, rfl, HW.out, Fr.refl _ _⟩

set_option maxRecDepth 100000 in
set_option maxHeartbeats 1000000 in
theorem kboot_any (s : ByteArray) (hs : s.size ≤ maxLen) (w : World) (m : Img) (ok : Bool) (E : Hid (rimg s.data.toList = (m, ok))) (he : mkErr m ok = 0) :
    Calls Tryz.prog 19 #[.string s] w fun e w' => ∃ x vL, e = .returned (.pointer (some ⟨x.X, 0, none⟩)) ∧ Live x (bootM m) (bootN m) vL w' ∧ XOf m x ∧ Fr (fun _ => False) w w' ∧ (∀ i, KA x vL i → w.heap.size ≤ i) := by
  have HB := hid (boot_live s hs w m ok E he)
  clear he
  go_enter Tryz.func19, Tryz.ntmps19
  go_wp2_with fail
  refine HB.out.mono ?_
  rintro e w1 ⟨x, vL, rfl, h1, h2, h3, h4⟩
  have H1 := hid h1
  have H2 := hid h2
  have H3 := hid h3
  have H4 := hid h4
  clear h1 h2 h3 h4 HB
  go_wp2_with fail
  go_ret
  exact ⟨x, vL, rfl, H1.out, H2.out, H3.out, H4.out⟩

end Go.Proofs.YthmcheoehcmglaaGreat
/- Rows: a slice of wards, opened. -/
namespace Go.Proofs.YthmcheoehcmglaaGreat
open Go.ChangeShapes Go.WideShapes Go.ChangeAt Go.RowKit Go.Deep
set_option linter.unusedVariables false

theorem wards_open {H : Type} {enc : TypeId × Value → H} {W : World} {fuel : Nat} {v : Value} {x : DataW H × List MemPlace} (h : DataW.trod enc Tryz.prog W 0 (fun _ => true) true fuel 42 [v] = some x) :
    ∃ l : List (Int × List Int), WdsV W v l ∧ l.length ≤ maxLen := by
  rcases open_slice_pairs Tryz.underlying42 Tryz.underlying41 (by kernel_rfl) (by kernel_rfl) (by kernel_rfl) (by kernel_rfl) (by kernel_rfl) h with ⟨h1, -⟩ | ⟨a, len, cap, m, n, V0, V1, D0, D1, P0, P1, h1, -, hlc, hcm, hm, -, hel⟩
  · simp only [List.cons.injEq, and_true] at h1
    subst h1
    exact ⟨[], ⟨none, 0, rfl, by simp, by omega, by simp⟩, by simp⟩
  · simp only [List.cons.injEq, and_true] at h1
    subst h1
    simp only [if_true] at hm
    have hcap : cap ≤ 9223372036854775807 := by unfold maxLen at hcm; omega
    have each : ∀ i, i < len → ∃ p : Int × List Int, V0 i = .int .i64 p.1 ∧ I64 p.1 ∧ IntsAt W (V1 i) p.2 ∧ ∀ z ∈ p.2, I64 z := by
      intro i hi
      obtain ⟨-, -, h3, h4⟩ := hel i (by omega)
      obtain ⟨q, hq, -, hwf⟩ := DataW.trod_int Tryz.underlying3 h3
      obtain ⟨ws, hws, hwb, -⟩ := ints_open h4
      simp only [List.cons.injEq, and_true] at hq
      exact ⟨(q, ws), hq, i64_of_wf hwf, hws, hwb⟩
    obtain ⟨f, hf⟩ := choose_lt each
    have hll : ((List.range len).map f).length = len := by simp
    refine ⟨(List.range len).map f, ⟨some a, cap, by rw [hll], by rw [hll]; exact hlc, hcap, ?_⟩, by rw [hll]; omega⟩
    intro h1
    rw [hll] at h1 ⊢
    have hc0 := (hel 0 (by omega)).1
    obtain ⟨b, off, spot⟩ := a
    have hspot : spot = none := by simpa [Addr.add] using World.cell?_spot hc0
    subst hspot
    refine ⟨b, off, rfl, by simp, ?_, ?_⟩
    · intro k q ws hk
      rw [List.getElem?_map] at hk
      simp only [Option.map_eq_some_iff] at hk
      obtain ⟨i, hi, hfi⟩ := hk
      obtain ⟨hil, hie⟩ := List.getElem?_eq_some_iff.1 hi
      simp only [List.length_range] at hil
      simp only [List.getElem_range] at hie
      subst hie
      obtain ⟨h2, h3, -, -⟩ := hel k (by omega)
      have h4 := hf k hil
      rw [hfi] at h4
      rw [add_plain] at h2 h3
      refine ⟨by rw [h2, h4.1], V1 k, by rw [← h3, Nat.add_assoc], h4.2.2.1⟩
    · intro q ws hm'
      simp only [List.mem_map, List.mem_range] at hm'
      obtain ⟨i, hi, hfi⟩ := hm'
      have h4 := hf i hi
      rw [hfi] at h4
      exact ⟨h4.2.1, h4.2.2.2⟩

end Go.Proofs.YthmcheoehcmglaaGreat
