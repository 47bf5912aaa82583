/- The machine's outside and the net's do the same. -/
import Derived.Test.YthmcheoehcmglaaGreatN2
namespace Go.Proofs.YthmcheoehcmglaaGreat
open Go.RowKit
set_option linter.unusedVariables false

theorem set_getD_self {α : Type} (l : List α) (i : Nat) (d : α) (h : i < l.length) : l.set i (l.getD i d) = l := by
  rw [List.getD_eq_getElem?_getD, List.getElem?_eq_getElem h]
  simp

theorem opsSim (x : KX) (hx : KXok x) (hK : kerK x ≤ x.n) (mem0 : List Int) (W : List (List (List Int))) (k : Nat) (hk : k < W.length) (ck : Int) : OpsSim (opsK x k ck) (opsN x k ck) (TurnRel x mem0 W k) where
  fetch m n a h := h.h.read hx k n.1 (List.getElem?_set_self hk) 4 a
  get m n a h := by
    simp only [opsK, opsN, getM, getN]
    rw [h.d]
    cases findDev (x.dvs.getD k []) 0 a with
    | some d => rfl
    | none => exact h.h.read hx k n.1 (List.getElem?_set_self hk) 1 a
  put m n a v h := by
    simp only [opsK, opsN, putM, putN]
    have hkr : k < x.regs.length := by rw [← h.h.wl, List.length_set]; exact hk
    obtain ⟨rs, hrs⟩ : ∃ rs, x.regs[k]? = some rs := ⟨_, List.getElem?_eq_getElem hkr⟩
    rw [getD_of hrs]
    cases findDev (x.dvs.getD k []) 1 a with
    | some d => exact .inr ⟨_, _, rfl, rfl, ⟨h.h, h.lo, by simp only; rw [h.d]⟩⟩
    | none =>
      simp only
      rw [findR_eq 2 a rs (hx.ad rs (List.mem_of_getElem? hrs))]
      cases hi : regI rs a with
      | none => exact .inl ⟨rfl, rfl⟩
      | some j =>
        obtain ⟨r, hr, hra, hin⟩ := regI_some hi
        simp only [hra]
        have hb := hx.rg rs (List.mem_of_getElem? hrs) r (List.mem_of_getElem? hr)
        have hi2 := (inR_iff r a).1 hin
        split
        · refine .inr ⟨_, _, rfl, rfl, ?_, ?_, h.d⟩
          · have hw := h.h.write hx k rs n.1 hrs (List.getElem?_set_self hk) j r hr (a - r.1).toNat (by omega) v
            rw [List.set_set] at hw
            have e : (r.2.2.1 + (a - r.1)).toNat = r.2.2.1.toNat + (a - r.1).toNat := by omega
            simp only
            rw [e]
            exact hw
          · intro i hi3
            simp only
            unfold kerK at hb
            rw [getD_set_eq, if_neg (by omega)]
            exact h.lo i hi3
        · exact .inl ⟨rfl, rfl⟩
  call m n s c h := by
    simp only [opsK, opsN]
    have hw : ∀ (i : Nat) (p : Int × Int), x.wires[i]? = some p → ∃ q, n.2.1[i]? = some q := by
      intro i p hp
      have hi : i < n.2.1.length := by rw [h.h.il]; exact (List.getElem?_eq_some_iff.1 hp).1
      exact ⟨_, List.getElem?_eq_getElem hi⟩
    have hKn := hK
    have hml := h.h.l
    generalize c.toNat = cn
    match cn with
    | 0 => exact ⟨rfl, rfl, h⟩
    | 1 => exact ⟨rfl, rfl, h⟩
    | 2 => exact ⟨rfl, rfl, h⟩
    | 3 =>
      simp only [callM, callN, sendM, sendN]
      cases hwo : wireOf x s with
      | none => exact ⟨rfl, rfl, h⟩
      | some p =>
        obtain ⟨q, hq⟩ := hw _ p hwo
        have hwl : w1 s < x.wires.length := (List.getElem?_eq_some_iff.1 hwo).1
        have hc := h.h.cl _ q hq
        obtain ⟨f, t⟩ := p
        simp only
        have e1 : n.2.1.getD (w1 s) (0, 0) = q := getD_of hq
        have e2 : m.1.getD (cellOf x s) 0 = q.1 := hc.1
        rw [e1, e2]
        split
        · split
          · refine ⟨rfl, rfl, ?_, ?_, h.d⟩
            · unfold kerK at hKn
              refine h.h.cell hx hK (w1 s) hwl 1 _ (.inr rfl) _ (by simp) ?_ ?_ ?_
              · show ((m.1.set (cellOf x s) 1).set (cellOf x s + 1) _).getD (cellAt x (w1 s)) 0 = 1
                rw [getD_set_eq, if_neg (by unfold cellOf cellAt w1; omega), getD_set_eq, if_pos ⟨rfl, by unfold cellAt; omega⟩]
              · show ((m.1.set (cellOf x s) 1).set (cellOf x s + 1) _).getD (cellAt x (w1 s) + 1) 0 = _
                rw [getD_set_eq, if_pos ⟨rfl, by rw [List.length_set]; unfold cellAt; omega⟩]
              · intro p hp1 hp2
                show ((m.1.set (cellOf x s) 1).set (cellOf x s + 1) _).getD p 0 = _
                rw [getD_set_eq, if_neg (fun e => hp2 e.1.symm), getD_set_eq, if_neg (fun e => hp1 e.1.symm)]
            · intro i hi
              simp only
              rw [getD_set_eq, if_neg (by unfold cellOf cellAt; omega), getD_set_eq, if_neg (by unfold cellOf cellAt; omega)]
              exact h.lo i hi
          · exact ⟨rfl, rfl, h⟩
        · exact ⟨rfl, rfl, h⟩
    | 4 =>
      simp only [callM, callN, receiveM, receiveN]
      cases hwo : wireOf x s with
      | none => exact ⟨rfl, rfl, h⟩
      | some p =>
        obtain ⟨q, hq⟩ := hw _ p hwo
        have hwl : w1 s < x.wires.length := (List.getElem?_eq_some_iff.1 hwo).1
        have hc := h.h.cl _ q hq
        obtain ⟨f, t⟩ := p
        simp only
        have e1 : n.2.1.getD (w1 s) (0, 0) = q := getD_of hq
        have e2 : m.1.getD (cellOf x s) 0 = q.1 := hc.1
        have e3 : m.1.getD (cellOf x s + 1) 0 = q.2 := hc.2.1
        rw [e1, e2, e3]
        split
        · split
          · exact ⟨rfl, rfl, h⟩
          · refine ⟨rfl, rfl, ?_, ?_, h.d⟩
            · unfold kerK at hKn
              refine h.h.cell hx hK (w1 s) hwl 0 _ (.inl rfl) _ (by simp) ?_ ?_ ?_
              · show (m.1.set (cellOf x s) 0).getD (cellAt x (w1 s)) 0 = 0
                rw [getD_set_eq, if_pos ⟨rfl, by unfold cellAt; omega⟩]
              · show (m.1.set (cellOf x s) 0).getD (cellAt x (w1 s) + 1) 0 = _
                rw [getD_set_eq, if_neg (by unfold cellOf cellAt w1; omega)]
                exact e3
              · intro p hp1 hp2
                show (m.1.set (cellOf x s) 0).getD p 0 = _
                rw [getD_set_eq, if_neg (fun e => hp1 e.1.symm)]
            · intro i hi
              simp only
              rw [getD_set_eq, if_neg (by unfold cellOf cellAt; omega)]
              exact h.lo i hi
        · exact ⟨rfl, rfl, h⟩
    | 5 =>
      simp only [callM, callN, lookM, lookN]
      cases hwo : wireOf x s with
      | none => exact ⟨rfl, rfl, h⟩
      | some p =>
        obtain ⟨q, hq⟩ := hw _ p hwo
        have hc := h.h.cl _ q hq
        obtain ⟨f, t⟩ := p
        simp only
        have e1 : n.2.1.getD (w1 s) (0, 0) = q := getD_of hq
        have e2 : m.1.getD (cellOf x s) 0 = q.1 := hc.1
        rw [e1, e2]
        split
        · split
          · exact ⟨rfl, rfl, h⟩
          · exact ⟨rfl, rfl, h⟩
        · exact ⟨rfl, rfl, h⟩
    | 6 => exact ⟨rfl, rfl, h⟩
    | n + 7 => exact ⟨rfl, rfl, h⟩

end Go.Proofs.YthmcheoehcmglaaGreat
/- The machine and the net, cycle by cycle. -/
namespace Go.Proofs.YthmcheoehcmglaaGreat
open Go.RowKit
set_option linter.unusedVariables false

/-- The word 0 behind t cycles. -/
def turnN (x : KX) (t : Int) : Int :=
  if t = 0 then 0 else
    let k := (slotK x (t - 1)).1
    let r := (slotK x (t - 1)).2
    let q := x.qs.getD k 0
    if r < q then k else if r - q = x.gap - 1 then (((k + 1) % x.regs.length : Nat) : Int) else x.regs.length

theorem accN_pos {gap : Int} {qs : List Int} (h : QsOk gap qs) : 2 ≤ accN gap qs qs.length := by
  have h1 := accN_bd h qs.length (Nat.le_refl _)
  have := h.l1
  omega

/-- Each cycle of a round belongs to a turn (or the gap behind it). -/
theorem slot_ex {gap : Int} {qs : List Int} (h : QsOk gap qs) (c : Int) (c0 : 0 ≤ c) : ∀ n, n ≤ qs.length → c < accN gap qs n → ∃ k, k < n ∧ accN gap qs k ≤ c ∧ c < accN gap qs (k + 1) := by
  intro n
  induction n with
  | zero => intro _ hc; simp [accN] at hc; omega
  | succ n ih =>
    intro hn hc
    by_cases h1 : c < accN gap qs n
    · obtain ⟨k, hk, h2, h3⟩ := ih (by omega) h1
      exact ⟨k, by omega, h2, h3⟩
    · exact ⟨n, by omega, by omega, hc⟩

structure SlotIs (x : KX) (t : Int) (k : Nat) (r : Int) : Prop where
  e : slotK x t = (k, r)
  kl : k < x.qs.length
  r0 : 0 ≤ r
  r1 : r < x.qs.getD k 0 + x.gap
  c : t % roundK x = accN x.gap x.qs k + r

theorem slot_is {x : KX} (h : QsOk x.gap x.qs) (t : Int) (t0 : 0 ≤ t) : ∃ k r, SlotIs x t k r := by
  have hp := accN_pos h
  have hc0 : 0 ≤ t % roundK x := Int.emod_nonneg _ (by unfold roundK; omega)
  have hc1 : t % roundK x < roundK x := Int.emod_lt_of_pos _ (by unfold roundK; omega)
  obtain ⟨k, hk, h1, h2⟩ := slot_ex h (t % roundK x) hc0 x.qs.length (Nat.le_refl _) hc1
  refine ⟨k, t % roundK x - accN x.gap x.qs k, slotR_eq h k _ hk h1 h2, hk, by omega, ?_, by omega⟩
  simp only [accN] at h2
  omega

theorem slot_of {x : KX} (h : QsOk x.gap x.qs) (t : Int) (k : Nat) (r : Int) (hk : k < x.qs.length) (r0 : 0 ≤ r) (r1 : r < x.qs.getD k 0 + x.gap) (c : t % roundK x = accN x.gap x.qs k + r) : SlotIs x t k r := by
  refine ⟨?_, hk, r0, r1, c⟩
  have := slotR_eq h k (t % roundK x) hk (by omega) (by simp only [accN]; omega)
  unfold slotK
  rw [this, c]
  congr 1
  omega

/-- Whose turn it is ahead of a cycle. -/
theorem turn_slot {x : KX} (h : QsOk x.gap x.qs) (hl : x.qs.length = x.regs.length) (t : Int) (t0 : 0 ≤ t) (k : Nat) (r : Int) (hs : SlotIs x t k r) : turnN x t = if r ≤ x.qs.getD k 0 then (k : Int) else x.regs.length := by
  have hg0 := h.g0
  have hp := accN_pos h
  have hqk := h.at k hs.kl
  unfold turnN
  by_cases ht : t = 0
  · subst ht
    rw [if_pos rfl]
    have hc := hs.c
    rw [Int.zero_emod] at hc
    have hk0 : k = 0 := by
      have := accN_bd h k (by have := hs.kl; omega)
      have := hs.r0
      omega
    subst hk0
    simp only [accN] at hc
    rw [if_pos (by omega)]
    rfl
  · rw [if_neg ht]
    by_cases hr : 0 < r
    · have hs' : SlotIs x (t - 1) k (r - 1) := by
        refine slot_of h _ _ _ hs.kl (by omega) (by have := hs.r1; omega) ?_
        have hc := hs.c
        have hb := accN_bd h k (by have := hs.kl; omega)
        have e : (t - 1) % roundK x = t % roundK x - 1 := by
          have h1 : 0 < roundK x := by unfold roundK; omega
          have h2 : t % roundK x < roundK x := Int.emod_lt_of_pos _ h1
          have h3 : t = roundK x * (t / roundK x) + t % roundK x := (Int.mul_ediv_add_emod t (roundK x)).symm
          rw [show t - 1 = (t % roundK x - 1) + roundK x * (t / roundK x) by omega, Int.add_mul_emod_self_left, Int.emod_eq_of_lt (by omega) (by omega)]
        rw [e]
        omega
      rw [hs'.e]
      simp only
      have hr1 := hs.r1
      by_cases h1 : r - 1 < x.qs.getD k 0
      · rw [if_pos h1, if_pos (by omega)]
      · rw [if_neg h1, if_neg (by omega), if_neg (by omega)]
    · have hr0 : r = 0 := by have := hs.r0; omega
      subst hr0
      rw [if_pos (show (0 : Int) ≤ x.qs.getD k 0 by omega)]
      by_cases hk0 : k = 0
      · subst hk0
        have hl1 := h.l1
        have hlast := h.at (x.qs.length - 1) (by omega)
        have hs' : SlotIs x (t - 1) (x.qs.length - 1) (x.qs.getD (x.qs.length - 1) 0 + x.gap - 1) := by
          refine slot_of h _ _ _ (by omega) (by omega) (by omega) ?_
          have hc := hs.c
          simp only [accN] at hc
          have e2 : accN x.gap x.qs x.qs.length = accN x.gap x.qs (x.qs.length - 1) + (x.qs.getD (x.qs.length - 1) 0 + x.gap) := by
            obtain ⟨d, hd⟩ : ∃ d, x.qs.length = d + 1 := ⟨x.qs.length - 1, by omega⟩
            rw [hd]
            rfl
          have e : (t - 1) % roundK x = roundK x - 1 := by
            have h1 : 0 < roundK x := by unfold roundK; omega
            have h3 : t = roundK x * (t / roundK x) + t % roundK x := (Int.mul_ediv_add_emod t (roundK x)).symm
            have h4 : roundK x * (t / roundK x - 1) = roundK x * (t / roundK x) - roundK x := by rw [Int.mul_sub, Int.mul_one]
            rw [show t - 1 = (roundK x - 1) + roundK x * (t / roundK x - 1) by omega, Int.add_mul_emod_self_left, Int.emod_eq_of_lt (by omega) (by omega)]
          rw [e]
          unfold roundK
          omega
        rw [hs'.e]
        simp only
        rw [if_neg (by omega), if_pos (by omega)]
        have : x.qs.length - 1 + 1 = x.regs.length := by omega
        rw [this, Nat.mod_self]
      · have hkq := hs.kl
        have hlast := h.at (k - 1) (by omega)
        have hs' : SlotIs x (t - 1) (k - 1) (x.qs.getD (k - 1) 0 + x.gap - 1) := by
          refine slot_of h _ _ _ (by omega) (by omega) (by omega) ?_
          have hc := hs.c
          have e2 : accN x.gap x.qs k = accN x.gap x.qs (k - 1) + (x.qs.getD (k - 1) 0 + x.gap) := by
            obtain ⟨d, hd⟩ : ∃ d, k = d + 1 := ⟨k - 1, by omega⟩
            subst hd
            rfl
          have hb := accN_bd h k (by omega)
          have e : (t - 1) % roundK x = t % roundK x - 1 := by
            have h1 : 0 < roundK x := by unfold roundK; omega
            have h2 : t % roundK x < roundK x := Int.emod_lt_of_pos _ h1
            have h3 : t = roundK x * (t / roundK x) + t % roundK x := (Int.mul_ediv_add_emod t (roundK x)).symm
            rw [show t - 1 = (t % roundK x - 1) + roundK x * (t / roundK x) by omega, Int.add_mul_emod_self_left, Int.emod_eq_of_lt (by omega) (by omega)]
          rw [e]
          omega
        rw [hs'.e]
        simp only
        rw [if_neg (by omega), if_pos (by omega)]
        have : k - 1 + 1 = k := by omega
        rw [this, Nat.mod_eq_of_lt (by omega)]

/-- The word 0 behind a cycle. -/
theorem turn_next {x : KX} (t : Int) (t0 : 0 ≤ t) (k : Nat) (r : Int) (hs : SlotIs x t k r) : turnN x (t + 1) = if r < x.qs.getD k 0 then (k : Int) else if r - x.qs.getD k 0 = x.gap - 1 then (((k + 1) % x.regs.length : Nat) : Int) else x.regs.length := by
  unfold turnN
  rw [if_neg (by omega), show t + 1 - 1 = t by omega, hs.e]

end Go.Proofs.YthmcheoehcmglaaGreat
/- The machine is the net: the relation, and that a cycle keeps it. -/
namespace Go.Proofs.YthmcheoehcmglaaGreat
open Go.RowKit
set_option linter.unusedVariables false

def bdW (v : Int) : Prop := 0 ≤ v ∧ v < 4294967296

structure KXs (x : KX) : Prop where
  ok : KXok x
  q : QsOk x.gap x.qs
  ql : x.qs.length = x.regs.length
  kn : kerK x ≤ x.n

structure Sim (x : KX) (s : KM) (N : NM) : Prop where
  ck : s.ck = N.ck
  c0 : 0 ≤ N.ck
  hi : HiRel x s.mem (N.wn.map (·.ws)) N.wi
  dv : s.devs = N.devs
  sl : s.sts.length = x.regs.length
  t0 : s.mem.getD 0 0 = turnN x N.ck
  t1 : s.mem.getD 1 0 = N.ck % 4294967296
  lo : ∀ i, 2 ≤ i → i < 16 → s.mem.getD i 0 = 0
  ar : ∀ (k : Nat) w, N.wn[k]? = some w → loadSt s.mem (16 + 16 * k) = w.was ∧ ∀ i, 13 ≤ i → i < 16 → s.mem.getD (16 + 16 * k + i) 0 = 0
  st : ∀ (k : Nat) w, N.wn[k]? = some w → (turnN x N.ck = k → s.sts[k]? = some w.now) ∧ (turnN x N.ck ≠ k → w.now = w.was)
  sb : ∀ w ∈ N.wn, StB w.now ∧ StB w.was
  nw : ∀ w ∈ N.wn, ∀ u ∈ w.ws, ∀ v ∈ u, bdW v
  ni : ∀ c ∈ N.wi, bdW c.1 ∧ bdW c.2
  nd : ∀ d ∈ N.devs, bdW d.1

theorem HiRel.congr {x : KX} {mem mem' : List Int} {W : List (List (List Int))} {wi : List (Int × Int)} (hx : KXok x) (h : HiRel x mem W wi) (hl : mem'.length = mem.length) (he : ∀ i, 16 + 16 * x.regs.length ≤ i → mem'.getD i 0 = mem.getD i 0) : HiRel x mem' W wi := by
  refine ⟨by rw [hl]; exact h.l, h.il, ?_, h.wl, h.rl, ?_, ?_⟩
  · intro i c hc
    have h1 := h.cl i c hc
    unfold cellAt at h1 ⊢
    rw [he _ (by omega), he _ (by omega)]
    exact h1
  · intro k rs ws j r u hrs hW hr hu
    have hb := hx.rg rs (List.mem_of_getElem? hrs) r (List.mem_of_getElem? hr)
    unfold kerK at hb
    have h1 := h.rg k rs ws j r u hrs hW hr hu
    refine ⟨h1.1, fun i hi => ?_⟩
    rw [he _ (by omega)]
    exact h1.2 i hi
  · intro i hi hn
    have hi' := hi
    unfold kerK at hi'
    rw [he _ (by omega)]
    exact h.ot i hi hn

theorem wi_bd {l : List (Int × Int)} (h : ∀ c ∈ l, bdW c.1 ∧ bdW c.2) (i : Nat) : bdW (l.getD i (0, 0)).1 ∧ bdW (l.getD i (0, 0)).2 := by
  rw [List.getD_eq_getElem?_getD]
  cases hi : l[i]? with
  | none => exact ⟨⟨by simp, by simp⟩, ⟨by simp, by simp⟩⟩
  | some c => exact h c (List.mem_of_getElem? hi)

def NSB (n : NS) : Prop := (∀ u ∈ n.1, ∀ v ∈ u, bdW v) ∧ (∀ c ∈ n.2.1, bdW c.1 ∧ bdW c.2) ∧ (∀ d ∈ n.2.2, bdW d.1)

theorem getD_bd {l : List Int} (h : ∀ v ∈ l, bdW v) (i : Nat) : bdW (l.getD i 0) := by
  rw [List.getD_eq_getElem?_getD]
  cases hi : l[i]? with
  | none => exact ⟨by simp, by simp⟩
  | some c => exact h c (List.mem_of_getElem? hi)
theorem getD2_mem {l : List (List Int)} (h : ∀ u ∈ l, ∀ v ∈ u, bdW v) (i : Nat) : ∀ v ∈ l.getD i [], bdW v := by
  rw [List.getD_eq_getElem?_getD]
  cases hi : l[i]? with
  | none => intro v hv; simp at hv
  | some c => exact h c (List.mem_of_getElem? hi)

theorem readN_bd {rs : List Reg} {right : Int} {ws : List (List Int)} {a v : Int} (h : ∀ u ∈ ws, ∀ v ∈ u, bdW v) (hv : readN rs right ws a = some v) : bdW v := by
  unfold readN at hv
  split at hv
  · split at hv
    · cases hv
      exact getD_bd (getD2_mem h _) _
    · cases hv
  · cases hv

theorem opsB (x : KX) (k : Nat) (hk : k ≤ 4) (ck : Int) : OpsB (opsN x k ck) NSB where
  get m a v h hv := by
    simp only [opsN, getN] at hv
    split at hv
    · cases hv
      rename_i d _
      rw [List.getD_eq_getElem?_getD]
      cases hi : m.2.2[d.toNat]? with
      | none => exact ⟨by simp, by simp⟩
      | some c => exact h.2.2 c (List.mem_of_getElem? hi)
    · exact readN_bd h.1 hv
  callB m s n h hs := by
    simp only [opsN]
    generalize n.toNat = c
    have hw := wi_bd h.2.1 (w1 s)
    match c with
    | 0 => exact ⟨hs.l, hs.r, hs.p0, hs.p1, by simp [callN], by simp [callN], hs.c0, hs.c1, hs.b0, hs.b1⟩
    | 1 => exact ⟨hs.l, hs.r, hs.p0, hs.p1, hs.s0, hs.s1, hs.c0, hs.c1, hs.b0, hs.b1⟩
    | 2 => exact hs.set 0 _ (by omega) (by omega)
    | 3 =>
      simp only [callN, sendN]
      split
      · exact hs
      · split
        · split
          · exact hs.set 0 _ (by omega) (by omega)
          · exact hs.set 0 _ (by omega) (by omega)
        · exact hs
    | 4 =>
      simp only [callN, receiveN]
      split
      · exact hs
      · split
        · split
          · exact hs.set 0 _ (by omega) (by omega)
          · exact (hs.set 2 _ hw.2.1 hw.2.2).set 0 _ (by omega) (by omega)
        · exact hs
    | 5 =>
      simp only [callN, lookN]
      split
      · exact hs
      · split
        · split
          · exact hs.set 0 _ (by omega) (by omega)
          · exact hs.set 0 _ (by omega) (by omega)
        · exact hs
    | 6 => exact hs.set 0 _ (by omega) (by omega)
    | n + 7 => exact hs
  callC m s n h hs := by
    simp only [opsN]
    generalize n.toNat = c
    match c with
    | 0 => simp [callN]
    | 1 => simp [callN]
    | 2 => simp [callN]
    | 3 => simp only [callN, sendN]; split <;> (try split) <;> (try split) <;> simp
    | 4 => simp only [callN, receiveN]; split <;> (try split) <;> (try split) <;> simp
    | 5 => simp only [callN, lookN]; split <;> (try split) <;> (try split) <;> simp
    | 6 => simp [callN]
    | n + 7 => simp [callN]
  put m a v m' h v0 v1 hp := by
    simp only [opsN, putN] at hp
    split at hp
    · cases hp
      refine ⟨h.1, h.2.1, ?_⟩
      intro d hd
      unfold putD at hd
      rcases List.mem_or_eq_of_mem_set hd with h1 | h1
      · exact h.2.2 d h1
      · rw [h1]
        simp only
        rename_i d0 _
        rw [List.getD_eq_getElem?_getD]
        cases hi : m.2.2[d0.toNat]? with
        | none => exact ⟨by simp, by simp⟩
        | some c => exact h.2.2 c (List.mem_of_getElem? hi)
    · split at hp
      · split at hp
        · cases hp
          refine ⟨?_, h.2.1, h.2.2⟩
          intro u hu
          rcases List.mem_or_eq_of_mem_set hu with h1 | h1
          · exact h.1 u h1
          · rw [h1]
            intro z hz
            rcases List.mem_or_eq_of_mem_set hz with h2 | h2
            · exact getD2_mem h.1 _ z h2
            · rw [h2]; exact ⟨v0, v1⟩
        · cases hp
      · cases hp
  call m s n h hs := by
    refine ⟨h.1, ?_, h.2.2⟩
    simp only [opsN]
    generalize n.toNat = c
    have hw := wi_bd h.2.1 (w1 s)
    have hr2 := hs.getD 2
    match c with
    | 0 => exact h.2.1
    | 1 => exact h.2.1
    | 2 => exact h.2.1
    | 3 =>
      simp only [callN, sendN]
      split
      · exact h.2.1
      · split
        · split
          · intro d hd
            rcases List.mem_or_eq_of_mem_set hd with h1 | h1
            · exact h.2.1 d h1
            · rw [h1]; exact ⟨⟨by simp, by simp⟩, hr2⟩
          · exact h.2.1
        · exact h.2.1
    | 4 =>
      simp only [callN, receiveN]
      split
      · exact h.2.1
      · split
        · split
          · exact h.2.1
          · intro d hd
            rcases List.mem_or_eq_of_mem_set hd with h1 | h1
            · exact h.2.1 d h1
            · rw [h1]; exact ⟨⟨by simp, by simp⟩, hw.2⟩
        · exact h.2.1
    | 5 =>
      simp only [callN, lookN]
      split
      · exact h.2.1
      · split
        · split <;> exact h.2.1
        · exact h.2.1
    | 6 => exact h.2.1
    | n + 7 => exact h.2.1

theorem Sim.area {x : KX} {s : KM} {N : NM} (h : Sim x s N) : AreaOk x s.mem := by
  intro k hk
  have hkl : k < N.wn.length := by have := h.hi.wl; rw [List.length_map] at this; omega
  rw [(h.ar k _ (List.getElem?_eq_getElem hkl)).1]
  exact (h.sb _ (List.getElem_mem hkl)).2

/-- A cycle of a ward's turn. -/
theorem Sim.turn {x : KX} (hX : KXs x) {s : KM} {N : NM} (h : Sim x s N) (k : Nat) (r : Int) (hs : SlotIs x N.ck k r) (hr : r < x.qs.getD k 0) : Sim x (cycleK x s) (cycleN x N) := by
  have hkq := hs.kl
  have hkr : k < x.regs.length := by rw [← hX.ql]; exact hkq
  have hkn : k < N.wn.length := by have := h.hi.wl; rw [List.length_map] at this; omega
  have hl4 := hX.q.l2
  obtain ⟨w, hw⟩ : ∃ w, N.wn[k]? = some w := ⟨_, List.getElem?_eq_getElem hkn⟩
  have htk : turnN x N.ck = k := by rw [turn_slot hX.q hX.ql N.ck h.c0 k r hs, if_pos (by omega)]
  have htk' : turnN x (N.ck + 1) = k := by rw [turn_next N.ck h.c0 k r hs, if_pos hr]
  have hst := (h.st k w hw).1 htk
  have hT : TurnRel x s.mem (N.wn.map (·.ws)) k (s.mem, s.devs) (w.ws, N.wi, N.devs) := by
    refine ⟨?_, fun _ _ => rfl, h.dv⟩
    have e : (N.wn.map (·.ws)).set k w.ws = N.wn.map (·.ws) := by
      apply List.ext_getElem?
      intro i
      rw [List.getElem?_set]
      by_cases hik : k = i
      · subst hik
        rw [if_pos rfl, if_pos (by rw [List.length_map]; exact hkn), List.getElem?_map, hw]
        rfl
      · rw [if_neg hik]
    rw [e]
    exact h.hi
  have hsim := cycleM_sim (opsSim x hX.ok hX.kn s.mem (N.wn.map (·.ws)) k (by rw [List.length_map]; exact hkn) N.ck) w.now (s.mem, s.devs) (w.ws, N.wi, N.devs) hT
  have hBB := cycleM_B' (opsB x k (by omega) N.ck) (w.ws, N.wi, N.devs) ⟨h.nw w (List.mem_of_getElem? hw), h.ni, h.nd⟩ w.now (h.sb w (List.mem_of_getElem? hw)).1
  have e1 : cycleK x s = ⟨N.ck + 1, (cycleM (opsK x k N.ck) w.now (s.mem, s.devs)).2.1.set 1 ((N.ck + 1) % 4294967296), s.sts.set k (cycleM (opsK x k N.ck) w.now (s.mem, s.devs)).1, (cycleM (opsK x k N.ck) w.now (s.mem, s.devs)).2.2⟩ := by
    unfold cycleK tickK actK
    rw [h.ck, hs.e]
    simp only
    rw [if_pos hr, getD_of hst]
  have e2 : cycleN x N = ⟨N.ck + 1, N.wn.set k ⟨(cycleM (opsN x k N.ck) w.now (w.ws, N.wi, N.devs)).1, w.was, (cycleM (opsN x k N.ck) w.now (w.ws, N.wi, N.devs)).2.1⟩, (cycleM (opsN x k N.ck) w.now (w.ws, N.wi, N.devs)).2.2.1, (cycleM (opsN x k N.ck) w.now (w.ws, N.wi, N.devs)).2.2.2⟩ := by
    unfold cycleN actN
    rw [hs.e]
    simp only
    rw [if_pos hr, getD_of hw]
  rw [e1, e2]
  generalize cycleM (opsK x k N.ck) w.now (s.mem, s.devs) = c at *
  generalize cycleM (opsN x k N.ck) w.now (w.ws, N.wi, N.devs) = d at *
  obtain ⟨hs1, hR⟩ := hsim
  have hml : c.2.1.length = x.n := hR.h.l
  have hkern := hX.kn
  unfold kerK at hkern
  have hget : ∀ i, i ≠ 1 → (c.2.1.set 1 ((N.ck + 1) % 4294967296)).getD i 0 = c.2.1.getD i 0 := fun i hi => by rw [getD_set_eq, if_neg (fun e => hi e.1.symm)]
  refine ⟨rfl, by simp only; have := h.c0; omega, ?_, hR.d, by simp only [List.length_set]; exact h.sl, ?_, ?_, ?_, ?_, ?_, ?_, ?_, hBB.2.2.1, hBB.2.2.2⟩
  · simp only
    rw [List.map_set]
    exact hR.h.congr hX.ok (by simp) (fun i hi => hget i (by omega))
  · simp only
    rw [hget 0 (by omega), hR.lo 0 (by omega), h.t0, htk, htk']
  · simp only
    rw [getD_set_eq, if_pos ⟨rfl, by omega⟩]
  · intro i h2 h16
    simp only
    rw [hget i (by omega), hR.lo i (by omega)]
    exact h.lo i h2 h16
  · intro j v hv
    simp only at hv ⊢
    have hj : j < x.regs.length := by
      have := (List.getElem?_eq_some_iff.1 hv).1
      rw [List.length_set] at this
      have h2 := h.hi.wl
      rw [List.length_map] at h2
      omega
    obtain ⟨v0, hv0, hwas⟩ : ∃ v0, N.wn[j]? = some v0 ∧ v.was = v0.was := by
      by_cases hjk : k = j
      · subst hjk
        rw [List.getElem?_set_self hkn] at hv
        cases hv
        exact ⟨w, hw, rfl⟩
      · rw [List.getElem?_set_ne hjk] at hv
        exact ⟨v, hv, rfl⟩
    have ha := h.ar j v0 hv0
    refine ⟨?_, ?_⟩
    · rw [hwas, ← ha.1]
      refine loadSt_congr _ _ _ (by rw [List.length_set, hml, h.hi.l]) ?_
      intro i h1 h2
      rw [hget i (by omega), hR.lo i (by omega)]
    · intro i h1 h2
      rw [hget _ (by omega), hR.lo _ (by omega)]
      exact ha.2 i h1 h2
  · intro j v hv
    simp only at hv ⊢
    rw [htk']
    by_cases hjk : k = j
    · subst hjk
      rw [List.getElem?_set_self hkn] at hv
      cases hv
      exact ⟨fun _ => by rw [List.getElem?_set_self (by rw [h.sl]; exact hkr), hs1], fun e => absurd rfl e⟩
    · rw [List.getElem?_set_ne hjk] at hv
      refine ⟨fun e => absurd (by omega) hjk, fun _ => ?_⟩
      exact (h.st j v hv).2 (by rw [htk]; omega)
  · intro v hv
    rcases List.mem_or_eq_of_mem_set hv with h1 | h1
    · exact h.sb v h1
    · rw [h1]; exact ⟨hBB.1, (h.sb w (List.mem_of_getElem? hw)).2⟩
  · intro v hv
    rcases List.mem_or_eq_of_mem_set hv with h1 | h1
    · exact h.nw v h1
    · rw [h1]; exact hBB.2.1

end Go.Proofs.YthmcheoehcmglaaGreat
/- The machine is the net: gaps; some cycles. -/
namespace Go.Proofs.YthmcheoehcmglaaGreat
open Go.RowKit
set_option linter.unusedVariables false

/-- What a gap's cycle leaves: a net that differs in one ward's rest, a memory that differs in the low words. -/
theorem Sim.gap {x : KX} (hX : KXs x) {s : KM} {N : NM} (h : Sim x s N) (mem' : List Int) (sts' : List StV) (wn' : List WN) (hml : mem'.length = s.mem.length) (hhi : ∀ i, 16 + 16 * x.regs.length ≤ i → mem'.getD i 0 = s.mem.getD i 0) (hlo : ∀ i, 1 ≤ i → i < 16 → mem'.getD i 0 = s.mem.getD i 0)
    (h0 : mem'.getD 0 0 = turnN x (N.ck + 1)) (hsl : sts'.length = x.regs.length) (hws : wn'.map (·.ws) = N.wn.map (·.ws)) (hsb : ∀ w ∈ wn', StB w.now ∧ StB w.was)
    (har : ∀ (k : Nat) w, wn'[k]? = some w → loadSt mem' (16 + 16 * k) = w.was ∧ ∀ i, 13 ≤ i → i < 16 → mem'.getD (16 + 16 * k + i) 0 = 0)
    (hst : ∀ (k : Nat) w, wn'[k]? = some w → (turnN x (N.ck + 1) = k → sts'[k]? = some w.now) ∧ (turnN x (N.ck + 1) ≠ k → w.now = w.was)) :
    Sim x ⟨N.ck + 1, mem'.set 1 ((N.ck + 1) % 4294967296), sts', s.devs⟩ ⟨N.ck + 1, wn', N.wi, N.devs⟩ := by
  have hkern := hX.kn
  unfold kerK at hkern
  have hl := h.hi.l
  have hget : ∀ i, i ≠ 1 → (mem'.set 1 ((N.ck + 1) % 4294967296)).getD i 0 = mem'.getD i 0 := fun i hi => by rw [getD_set_eq, if_neg (fun e => hi e.1.symm)]
  have hl1 := hX.q.l1
  have hql := hX.ql
  refine ⟨rfl, by simp only; have := h.c0; omega, ?_, h.dv, hsl, ?_, ?_, ?_, ?_, hst, hsb, ?_, h.ni, h.nd⟩
  · simp only
    rw [hws]
    exact h.hi.congr hX.ok (by rw [List.length_set, hml]) (fun i hi => by rw [hget i (by omega)]; exact hhi i hi)
  · simp only
    rw [hget 0 (by omega)]
    exact h0
  · simp only
    rw [getD_set_eq, if_pos ⟨rfl, by omega⟩]
  · intro i h2 h16
    simp only
    rw [hget i (by omega), hlo i (by omega) h16]
    exact h.lo i h2 h16
  · intro k w hw
    have ha := har k w hw
    refine ⟨?_, ?_⟩
    · rw [← ha.1]
      refine loadSt_congr _ _ _ (by simp) ?_
      intro i h1 h2
      simp only
      rw [hget i (by omega)]
    · intro i h1 h2
      simp only
      rw [hget _ (by omega)]
      exact ha.2 i h1 h2
  · intro w hw u hu
    obtain ⟨k, hk⟩ := List.getElem?_of_mem hw
    have e : (wn'.map (·.ws))[k]? = some w.ws := by rw [List.getElem?_map, hk]; rfl
    rw [hws, List.getElem?_map, Option.map_eq_some_iff] at e
    obtain ⟨w0, hw0, he⟩ := e
    exact h.nw w0 (List.mem_of_getElem? hw0) u (by rw [he]; exact hu)

theorem Sim.step {x : KX} (hX : KXs x) {s : KM} {N : NM} (h : Sim x s N) : Sim x (cycleK x s) (cycleN x N) := by
  obtain ⟨k, r, hs⟩ := slot_is hX.q N.ck h.c0
  by_cases hr : r < x.qs.getD k 0
  · exact h.turn hX k r hs hr
  · have hkq := hs.kl
    have hkr : k < x.regs.length := by rw [← hX.ql]; exact hkq
    have hwl : N.wn.length = x.regs.length := by have := h.hi.wl; rw [List.length_map] at this; exact this
    have hkn : k < N.wn.length := by omega
    have hkern := hX.kn
    unfold kerK at hkern
    have hl := h.hi.l
    have hl4 := hX.q.l2
    have hql := hX.ql
    obtain ⟨w, hw⟩ : ∃ w, N.wn[k]? = some w := ⟨_, List.getElem?_eq_getElem hkn⟩
    have hts := turn_slot hX.q hX.ql N.ck h.c0 k r hs
    have htn := turn_next N.ck h.c0 k r hs
    rw [if_neg hr] at htn
    have hk2 : (k + 1) % x.regs.length < x.regs.length := Nat.mod_lt _ (by omega)
    obtain ⟨k2, hk2e⟩ : ∃ k2, (k + 1) % x.regs.length = k2 := ⟨_, rfl⟩
    rw [hk2e] at hk2 htn
    by_cases hf : r - x.qs.getD k 0 = 0
    · -- the first cycle of a gap
      rw [if_pos (by omega)] at hts
      have hst := (h.st k w hw).1 hts
      have hB := h.sb w (List.mem_of_getElem? hw)
      have hBy : StB { w.now with y := false } := hB.1.y false
      have hw13 : (stWords { w.now with y := false }).length = 13 := by simp [stWords, hB.1.l]
      have em1 : (endM x k s.mem s.sts).1 = (splice s.mem (16 + 16 * k) (stWords { w.now with y := false })).set 0 (x.regs.length : Int) := by unfold endM; rw [getD_of hst]
      have em2 : (endM x k s.mem s.sts).2 = s.sts.set k { w.now with y := false } := by unfold endM; rw [getD_of hst]
      have hlen1 : (endM x k s.mem s.sts).1.length = s.mem.length := by rw [em1, List.length_set, length_splice _ _ _ (by omega)]
      have hget1 : ∀ i, i ≠ 0 → ¬ (16 + 16 * k ≤ i ∧ i < 16 + 16 * k + 13) → (endM x k s.mem s.sts).1.getD i 0 = s.mem.getD i 0 := by
        intro i h1 h2
        rw [em1, getD_set_eq, if_neg (fun e => h1 e.1.symm), getD_splice _ _ _ (by omega), hw13, if_neg h2]
      have hload : ∀ j, j < x.regs.length → loadSt (endM x k s.mem s.sts).1 (16 + 16 * j) = if j = k then { w.now with y := false } else loadSt s.mem (16 + 16 * j) := fun j hj => endM_load x k s.mem s.sts w.now hst hB.1.l hkr (by omega) j hj
      have e2 : cycleN x N = ⟨N.ck + 1, N.wn.set k ⟨{ w.now with y := false }, { w.now with y := false }, w.ws⟩, N.wi, N.devs⟩ := by
        unfold cycleN actN
        rw [hs.e]
        simp only
        rw [if_neg hr, if_pos hf, getD_of hw]
      have hws : (N.wn.set k ⟨{ w.now with y := false }, { w.now with y := false }, w.ws⟩).map (·.ws) = N.wn.map (·.ws) := by
        rw [List.map_set]
        apply List.ext_getElem?
        intro i
        rw [List.getElem?_set]
        by_cases hik : k = i
        · subst hik
          rw [if_pos rfl, if_pos (by rw [List.length_map]; exact hkn), List.getElem?_map, hw]
          rfl
        · rw [if_neg hik]
      have hsb : ∀ v ∈ N.wn.set k ⟨{ w.now with y := false }, { w.now with y := false }, w.ws⟩, StB v.now ∧ StB v.was := by
        intro v hv
        rcases List.mem_or_eq_of_mem_set hv with h1 | h1
        · exact h.sb v h1
        · rw [h1]; exact ⟨hBy, hBy⟩
      have hnw : ∀ (j : Nat) v, (N.wn.set k ⟨{ w.now with y := false }, { w.now with y := false }, w.ws⟩)[j]? = some v → j < x.regs.length ∧ v.now = v.was ∧ v.was = (if j = k then { w.now with y := false } else loadSt s.mem (16 + 16 * j)) := by
        intro j v hv
        by_cases hjk : k = j
        · subst hjk
          rw [List.getElem?_set_self hkn] at hv
          cases hv
          exact ⟨hkr, rfl, by rw [if_pos rfl]⟩
        · rw [List.getElem?_set_ne hjk] at hv
          have hj : j < x.regs.length := by have := (List.getElem?_eq_some_iff.1 hv).1; omega
          refine ⟨hj, (h.st j v hv).2 (by rw [hts]; omega), ?_⟩
          rw [if_neg (fun e => hjk e.symm)]
          exact (h.ar j v hv).1.symm
      have har : ∀ mem', (∀ i, i ≠ 0 → mem'.getD i 0 = (endM x k s.mem s.sts).1.getD i 0) → mem'.length = (endM x k s.mem s.sts).1.length → ∀ (j : Nat) v, (N.wn.set k ⟨{ w.now with y := false }, { w.now with y := false }, w.ws⟩)[j]? = some v → loadSt mem' (16 + 16 * j) = v.was ∧ ∀ i, 13 ≤ i → i < 16 → mem'.getD (16 + 16 * j + i) 0 = 0 := by
        intro mem' he hl' j v hv
        obtain ⟨hj, _, h2⟩ := hnw j v hv
        refine ⟨?_, ?_⟩
        · rw [loadSt_congr mem' (endM x k s.mem s.sts).1 _ hl' (fun i h1 _ => he i (by omega)), hload j hj, h2]
        · intro i h1 h3
          rw [he _ (by omega), hget1 _ (by omega) (by omega)]
          have hj2 : j < N.wn.length := by omega
          exact (h.ar j _ (List.getElem?_eq_getElem hj2)).2 i h1 h3
      by_cases hla : r - x.qs.getD k 0 = x.gap - 1
      · rw [if_pos hla] at htn
        have e1 : cycleK x s = ⟨N.ck + 1, ((endM x k s.mem s.sts).1.set 0 (k2 : Int)).set 1 ((N.ck + 1) % 4294967296), (endM x k s.mem s.sts).2.set k2 (loadSt (endM x k s.mem s.sts).1 (16 + 16 * k2)), s.devs⟩ := by
          unfold cycleK tickK actK
          rw [h.ck, hs.e]
          simp only
          rw [if_neg hr]
          unfold changeM
          rw [show (r - x.qs.getD k 0 == 0) = true by simpa using hf, show (r - x.qs.getD k 0 == x.gap - 1) = true by simpa using hla, hk2e]
          rfl
        rw [e1, e2]
        have hg2 : ∀ i, i ≠ 0 → ((endM x k s.mem s.sts).1.set 0 (k2 : Int)).getD i 0 = (endM x k s.mem s.sts).1.getD i 0 := fun i hi => by rw [getD_set_eq, if_neg (fun e => hi e.1.symm)]
        refine h.gap hX _ _ _ (by rw [List.length_set, hlen1]) (fun i hi => by rw [hg2 i (by omega), hget1 i (by omega) (by omega)]) (fun i h1 h2 => by rw [hg2 i (by omega), hget1 i (by omega) (by omega)]) ?_ (by rw [List.length_set, em2, List.length_set]; exact h.sl) hws hsb (har _ hg2 (by simp)) ?_
        · rw [htn, getD_set_eq, if_pos ⟨rfl, by omega⟩]
        · intro j v hv
          obtain ⟨hj, h1, h2⟩ := hnw j v hv
          refine ⟨?_, fun _ => h1⟩
          intro e
          rw [htn] at e
          obtain rfl : k2 = j := by omega
          rw [List.getElem?_set_self (by rw [em2, List.length_set, h.sl]; exact hj), hload k2 hj, h1, h2]
      · rw [if_neg hla] at htn
        have e1 : cycleK x s = ⟨N.ck + 1, (endM x k s.mem s.sts).1.set 1 ((N.ck + 1) % 4294967296), (endM x k s.mem s.sts).2, s.devs⟩ := by
          unfold cycleK tickK actK
          rw [h.ck, hs.e]
          simp only
          rw [if_neg hr]
          unfold changeM
          rw [show (r - x.qs.getD k 0 == 0) = true by simpa using hf, show (r - x.qs.getD k 0 == x.gap - 1) = false by simpa using hla]
          rfl
        rw [e1, e2]
        refine h.gap hX _ _ _ hlen1 (fun i hi => hget1 i (by omega) (by omega)) (fun i h1 h2 => hget1 i (by omega) (by omega)) ?_ (by rw [em2, List.length_set]; exact h.sl) hws hsb (har _ (fun _ _ => rfl) rfl) ?_
        · rw [htn, em1, getD_set_eq, if_pos ⟨rfl, by rw [length_splice _ _ _ (by omega)]; omega⟩]
        · intro j v hv
          obtain ⟨hj, h1, h2⟩ := hnw j v hv
          exact ⟨fun e => absurd e (by rw [htn]; omega), fun _ => h1⟩
    · -- a later cycle of a gap
      rw [if_neg (by omega)] at hts
      have hnow : ∀ (j : Nat) v, N.wn[j]? = some v → v.now = v.was := by
        intro j v hv
        have hj : j < x.regs.length := by have := (List.getElem?_eq_some_iff.1 hv).1; omega
        exact (h.st j v hv).2 (by rw [hts]; omega)
      have e2 : cycleN x N = ⟨N.ck + 1, N.wn, N.wi, N.devs⟩ := by
        unfold cycleN actN
        rw [hs.e]
        simp only
        rw [if_neg hr, if_neg hf]
      by_cases hla : r - x.qs.getD k 0 = x.gap - 1
      · rw [if_pos hla] at htn
        have e1 : cycleK x s = ⟨N.ck + 1, (s.mem.set 0 (k2 : Int)).set 1 ((N.ck + 1) % 4294967296), s.sts.set k2 (loadSt s.mem (16 + 16 * k2)), s.devs⟩ := by
          unfold cycleK tickK actK
          rw [h.ck, hs.e]
          simp only
          rw [if_neg hr]
          unfold changeM
          rw [show (r - x.qs.getD k 0 == 0) = false by simpa using hf, show (r - x.qs.getD k 0 == x.gap - 1) = true by simpa using hla, hk2e]
          rfl
        rw [e1, e2]
        have hg2 : ∀ i, i ≠ 0 → (s.mem.set 0 (k2 : Int)).getD i 0 = s.mem.getD i 0 := fun i hi => by rw [getD_set_eq, if_neg (fun e => hi e.1.symm)]
        refine h.gap hX _ _ _ (by rw [List.length_set]) (fun i hi => hg2 i (by omega)) (fun i h1 h2 => hg2 i (by omega)) ?_ (by rw [List.length_set]; exact h.sl) rfl h.sb ?_ ?_
        · rw [htn, getD_set_eq, if_pos ⟨rfl, by omega⟩]
        · intro j v hv
          have ha := h.ar j v hv
          refine ⟨?_, fun i h1 h2 => by rw [hg2 _ (by omega)]; exact ha.2 i h1 h2⟩
          rw [loadSt_congr _ s.mem _ (by simp) (fun i h1 _ => hg2 i (by omega))]
          exact ha.1
        · intro j v hv
          refine ⟨?_, fun _ => hnow j v hv⟩
          intro e
          rw [htn] at e
          obtain rfl : k2 = j := by omega
          rw [List.getElem?_set_self (by rw [h.sl]; exact hk2), (h.ar k2 v hv).1, hnow k2 v hv]
      · rw [if_neg hla] at htn
        have e1 : cycleK x s = ⟨N.ck + 1, s.mem.set 1 ((N.ck + 1) % 4294967296), s.sts, s.devs⟩ := by
          unfold cycleK tickK actK
          rw [h.ck, hs.e]
          simp only
          rw [if_neg hr]
          unfold changeM
          rw [show (r - x.qs.getD k 0 == 0) = false by simpa using hf, show (r - x.qs.getD k 0 == x.gap - 1) = false by simpa using hla]
          rfl
        rw [e1, e2]
        refine h.gap hX _ _ _ rfl (fun i hi => rfl) (fun i h1 h2 => rfl) ?_ h.sl rfl h.sb h.ar ?_
        · rw [htn, ← hts]; exact h.t0
        · intro j v hv
          have hj : j < x.regs.length := by have := (List.getElem?_eq_some_iff.1 hv).1; omega
          exact ⟨fun e => absurd e (by rw [htn]; omega), fun _ => hnow j v hv⟩

theorem Sim.iter {x : KX} (hX : KXs x) {s : KM} {N : NM} (h : Sim x s N) : ∀ n, Sim x (iterK x n s) (iterN x n N)
  | 0 => h
  | n + 1 => (Sim.iter hX h n).step hX

theorem iterN_ck (x : KX) (N : NM) : ∀ n : Nat, (iterN x n N).ck = N.ck + n
  | 0 => by simp [iterN]
  | n + 1 => by simp only [iterN, cycleN]; rw [iterN_ck x N n]; omega

/-- A log grows by one word a cycle at most. -/
def logMax (devs : List DevV) (n : Nat) : Prop := ∀ d ∈ devs, d.2.length ≤ n
theorem putD_max {devs : List DevV} {n : Nat} (h : logMax devs n) (i : Nat) (v : Int) : logMax (putD devs i v) (n + 1) := by
  intro d hd
  unfold putD at hd
  rcases List.mem_or_eq_of_mem_set hd with h1 | h1
  · have := h d h1; omega
  · rw [h1]
    simp only [List.length_append, List.length_cons, List.length_nil]
    rw [List.getD_eq_getElem?_getD]
    cases hi : devs[i]? with
    | none => simp
    | some c => have := h c (List.mem_of_getElem? hi); simp; omega
theorem logMax.mono {devs : List DevV} {n m : Nat} (h : logMax devs n) (hnm : n ≤ m) : logMax devs m := fun d hd => Nat.le_trans (h d hd) hnm

theorem cycleM_log (x : KX) (k : Nat) (ck : Int) (s : StV) (m : NS) (n : Nat) (h : logMax m.2.2 n) : logMax (cycleM (opsN x k ck) s m).2.2.2 (n + 1) := by
  have hm := h.mono (Nat.le_succ n)
  have hW : ∀ code a b nn s', logMax (workM (opsN x k ck) code a b nn s' m).2.2.2.2 (n + 1) := by
    intro code a b nn s'
    unfold workM
    dsimp only
    split <;> (try exact hm)
    · split <;> exact hm
    · split <;> exact hm
    · split
      · rename_i u hu
        simp only [opsN, putN] at hu
        split at hu
        · cases hu
          exact putD_max h _ _
        · split at hu
          · split at hu
            · cases hu; exact hm
            · cases hu
          · cases hu
      · exact hm
  unfold cycleM
  split
  · exact hm
  · split
    · exact hm
    · have hI : logMax (instrM (opsN x k ck) s m).2.2.2.2 (n + 1) := by
        unfold instrM
        split
        · exact hm
        · split
          · exact hm
          · split
            · exact hm
            · dsimp only
              split
              · exact hW _ _ _ _ _
              · exact hW _ _ _ _ _
      unfold stepM
      dsimp only
      split <;> exact hI

theorem cycleN_log (x : KX) (N : NM) (n : Nat) (h : logMax N.devs n) : logMax (cycleN x N).devs (n + 1) := by
  unfold cycleN actN
  simp only
  split
  · exact cycleM_log x _ _ _ _ n h
  · split <;> exact h.mono (Nat.le_succ n)
theorem iterN_log (x : KX) (N : NM) (n : Nat) (h : logMax N.devs n) : ∀ j, logMax (iterN x j N).devs (n + j)
  | 0 => h
  | j + 1 => cycleN_log x _ _ (iterN_log x N n h j)

/-- What Run asks for. -/
theorem Sim.pre {x : KX} (hX : KXs x) {s : KM} {N : NM} (h : Sim x s N) (L n : Nat) (hL : logMax N.devs L) (hLn : 4 * (L + n) ≤ 140737488355328) (hc : N.ck + n ≤ 9223372036854775807) : ∀ j, j < n → PreK x (iterK x j s) := by
  intro j hj
  have hS := h.iter hX j
  refine ⟨by rw [hS.ck, iterN_ck]; omega, ?_, hS.area⟩
  intro d hd
  rw [hS.dv] at hd
  have := iterN_log x N L hL j d hd
  omega

end Go.Proofs.YthmcheoehcmglaaGreat
