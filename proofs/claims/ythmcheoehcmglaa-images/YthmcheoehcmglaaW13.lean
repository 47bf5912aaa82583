/- plan.Make, walked. -/
import Derived.Test.YthmcheoehcmglaaW12
namespace Go.Proofs.Ythmcheoehcmglaa
open Go.RowKit
set_option linter.unusedVariables false
attribute [local go_sem ↓] Go.wp_at_zero Go.wp_at_succ

def fitsB (m : Img) : Bool := (ownedN m.ws m.ws.length).all (fitB (16 + 16 * m.ws.length + 2 * m.wi.length) m.mem)
def apartB (m : Img) : Bool := apartN (ownedN m.ws m.ws.length) (ownedN m.ws m.ws.length).length
def wiresB (m : Img) : Bool := m.wi.all (wireOk m.ws.length)
def devsB (m : Img) : Bool := m.ow.all (hasB m.ws.length)
def mkErr (m : Img) (ok : Bool) : Int := if ok = false then 1 else if (fitsB m && apartB m) = false then 2 else if (wiresB m && devsB m) = false then 3 else 0
def noImg : Img := ⟨0, 0, [], [], []⟩

theorem PlanVal.none (w : World) (base : Nat) : PlanVal w base noImg (.slice none 0 0) (.slice none 0 0) (.slice none 0 0) := ⟨WardsAt.nil _ _, World.ownsRow_nil _ _ _ _, World.ownsRow_nil _ _ _ _⟩
theorem PlanVal.fr {w w' : World} {base : Nat} {m : Img} {vW vI vO : Value} (h : PlanVal w base m vW vI vO) (hf : Fr (fun _ => False) w w') : PlanVal w' base m vW vI vO :=
  ⟨h.ws.carry (hf.ownsF _) (hf.ownsF _) (hf.ownsF _), hf.ownsF _ h.wi, hf.ownsF _ h.ow⟩
theorem PlanVal.carry {w w' : World} {base : Nat} {m : Img} {vW vI vO : Value} (h : PlanVal w base m vW vI vO) (H : ∀ e, 58 ≠ e → Owns w w' e) : PlanVal w' base m vW vI vO :=
  ⟨h.ws.carry (H _ (by decide)) (H _ (by decide)) (H _ (by decide)), H _ (by decide) h.wi, H _ (by decide) h.ow⟩
theorem WardsAt.base {w : World} {b b' : Nat} {v : Value} {ws : List WardV} (h : WardsAt w b v ws) (hb : b' ≤ b) : WardsAt w b' v ws := by
  obtain ⟨xs, e, ho, hx⟩ := h
  exact ⟨xs, e, owns_base ho hb, fun x hm => ⟨owns_base (hx x hm).1 hb, owns_base (hx x hm).2 hb⟩⟩
theorem PlanVal.base {w : World} {b b' : Nat} {m : Img} {vW vI vO : Value} (h : PlanVal w b m vW vI vO) (hb : b' ≤ b) : PlanVal w b' m vW vI vO := ⟨h.ws.base hb, owns_base h.wi hb, owns_base h.ow hb⟩

theorem fr_five' (wr : World) (b : Nat) (v0 v1 v2 v3 v4 : Value) : Fr (fun i => i = b) wr (((((wr.setCell ⟨b, 0, none⟩ v0).setCell ⟨b, 1, none⟩ v1).setCell ⟨b, 2, none⟩ v2).setCell ⟨b, 3, none⟩ v3).setCell ⟨b, 4, none⟩ v4) :=
  (((((Fr.refl (fun i => i = b) wr).setCell (p := ⟨b, 0, none⟩) (Or.inl rfl) v0).setCell (p := ⟨b, 1, none⟩) (Or.inl rfl) v1).setCell (p := ⟨b, 2, none⟩) (Or.inl rfl) v2).setCell (p := ⟨b, 3, none⟩) (Or.inl rfl) v3).setCell (p := ⟨b, 4, none⟩) (Or.inl rfl) v4

set_option maxRecDepth 100000 in
set_option maxHeartbeats 4000000 in
theorem make_core (s : ByteArray) (hs : s.size ≤ maxLen) (w : World) (m : Img) (ok : Bool) (E : Hid (rimg s.data.toList = (m, ok))) (hm : m.Ok) :
    Calls Try.prog 20 #[.string s] w fun e w' =>
      ∃ vW vI vO m', e = .returned (.tuple #[.agg #[.int .i64 m'.gap, .int .i64 m'.mem, vW, vI, vO], .int .i64 (mkErr m ok)]) ∧ Fr (fun _ => False) w w' ∧ PlanVal w' w.heap.size m' vW vI vO ∧ (mkErr m ok = 0 → m' = m) := by
  have HM := hid hm
  clear hm
  go_enter Try.func20, Try.ntmps20
  go_wp2_with fail
  refine (read_any s hs _).mono ?_
  rw [E.out]
  rintro e w1 ⟨vW, vI, vO, rfl, hf1, hv1⟩
  have hF1 : Fr (fun _ => False) w w1 := ((Fr.refl _ w).alloc _).step hf1 (fun _ h => .inl h)
  have p1 := hf1.get (heap_new w _) id
  have hV1 := hv1.base (b' := w.heap.size) (by simp)
  obtain ⟨a1, q1, rfl⟩ := hV1.ws.shape
  obtain ⟨a2, q2, rfl⟩ := owns_shape hV1.wi
  obtain ⟨a3, q3, rfl⟩ := owns_shape hV1.ow
  have hz1 := hF1.size
  have HV1 := hid hV1
  have hpl := lt_of_get p1
  clear hf1 hv1 hV1
  have HA : Hid (PlanAt (w1.alloc (.cells #[.int .i64 m.gap, .int .i64 m.mem, .slice a1 m.ws.length q1, .slice a2 m.wi.length q2, .slice a3 m.ow.length q3] 58)) w1.heap.size w.heap.size m.gap m.mem m.ws m.wi m.ow (.slice a1 m.ws.length q1) (.slice a2 m.wi.length q2) (.slice a3 m.ow.length q3)) := by
    have hf := (Fr.refl (fun _ => False) w1).alloc (.cells #[.int .i64 m.gap, .int .i64 m.mem, .slice a1 m.ws.length q1, .slice a2 m.wi.length q2, .slice a3 m.ow.length q3] 58)
    exact ⟨heap_new _ _, (HV1.out.fr hf).ws, (HV1.out.fr hf).wi, (HV1.out.fr hf).ow⟩
  have pa : ∀ o, (w1.alloc o).heap[w.heap.size]? = some (.cells #[.int .i64 0, .int .i64 0, .slice none 0 0, .slice none 0 0, .slice none 0 0] 58 (0, 0)) := fun o => get_alloc p1 o
  have FA : ∀ o, Fr (fun _ => False) w (w1.alloc o) := fun o => hF1.alloc o
  have HPA := hid pa
  have HFA := hid FA
  have HP1 := hid p1
  have HF1 := hid hF1
  clear pa FA p1 hF1
  cases ok
  · have c1 := row_cell HP1.out
    have f1 := row_frozen HP1.out
    have HE : Hid (mkErr m false = 1) := rfl
    go_wp2_with fail
    refine bodyPost_ret (v := .tuple #[.agg #[.int .i64 0, .int .i64 0, .slice none 0 0, .slice none 0 0, .slice none 0 0], .int .i64 1]) ?_ rfl ⟨.slice none 0 0, .slice none 0 0, .slice none 0 0, noImg, by rw [HE.out]; rfl, ?_, PlanVal.none _ _, fun h => by rw [HE.out] at h; cases h⟩
    · simp [results, Try.results20, go_sem, c1, hpl]
    · exact (((((HF1.out.setCell (.inr (Nat.le_refl _)) _).setCell (.inr (Nat.le_refl _)) _).setCell (.inr (Nat.le_refl _)) _).setCell (.inr (Nat.le_refl _)) _).setCell (.inr (Nat.le_refl _)) _).alloc _
  · have hkk : ∀ x ∈ m.ws, ∀ r ∈ x.regs, 0 ≤ r.1 ∧ r.1 ≤ 65535 ∧ 0 ≤ r.2.1 ∧ r.2.1 ≤ 65535 ∧ 0 ≤ r.2.2.1 ∧ r.2.2.1 ≤ 65535 := fun x hx r hr => (HM.out.w x hx).2.1 r hr
    have hk3 : ∀ x ∈ m.ws, x.regs.length ≤ 3 := fun x hx => (HM.out.w x hx).1
    have HKK := hid hkk
    have HK3 := hid hk3
    clear hkk hk3
    go_wp2_with fail
    refine (regionsFit_any w1.heap.size w.heap.size _ HA.out HM.out.l HM.out.li HK3.out HKK.out).mono ?_
    rintro e w2 ⟨rfl, hf2⟩
    rw [show ((ownedN m.ws m.ws.length).all (fitB (16 + 16 * m.ws.length + 2 * m.wi.length) m.mem)) = fitsB m from rfl]
    have HA2 := hid (HA.out.fr hf2)
    have HP2 := hid (hf2.get (HPA.out _) id)
    have HF2 := hid ((HFA.out _).step hf2 (fun _ h => .inl h))
    clear hf2
    cases h1 : fitsB m
    · have HE : Hid (mkErr m true = 2) := by simp [Hid, mkErr, h1]
      have c1 := row_cell HP2.out
      have f1 := row_frozen HP2.out
      go_wp2_with fail
      refine bodyPost_ret (v := .tuple #[.agg #[.int .i64 0, .int .i64 0, .slice none 0 0, .slice none 0 0, .slice none 0 0], .int .i64 2]) ?_ rfl ⟨.slice none 0 0, .slice none 0 0, .slice none 0 0, noImg, by rw [HE.out]; rfl, ?_, PlanVal.none _ _, fun h => by rw [HE.out] at h; cases h⟩
      · simp [results, Try.results20, go_sem, c1]
      · exact (((((HF2.out.setCell (.inr (Nat.le_refl _)) _).setCell (.inr (Nat.le_refl _)) _).setCell (.inr (Nat.le_refl _)) _).setCell (.inr (Nat.le_refl _)) _).setCell (.inr (Nat.le_refl _)) _)
    · go_wp2_with fail
      refine (regionsApart_any w1.heap.size w.heap.size _ HA2.out HM.out.l HK3.out HKK.out).mono ?_
      rintro e w3 ⟨rfl, hf3⟩
      rw [show apartN (ownedN m.ws m.ws.length) (ownedN m.ws m.ws.length).length = apartB m from rfl]
      have HA3 := hid (HA2.out.fr hf3)
      have HP3 := hid (hf3.get HP2.out id)
      have HF3 := hid (HF2.out.step hf3 (fun _ h => .inl h))
      clear hf3
      cases h2 : apartB m
      · have HE : Hid (mkErr m true = 2) := by simp [Hid, mkErr, h1, h2]
        have c1 := row_cell HP3.out
        have f1 := row_frozen HP3.out
        go_wp2_with fail
        refine bodyPost_ret (v := .tuple #[.agg #[.int .i64 0, .int .i64 0, .slice none 0 0, .slice none 0 0, .slice none 0 0], .int .i64 2]) ?_ rfl ⟨.slice none 0 0, .slice none 0 0, .slice none 0 0, noImg, by rw [HE.out]; rfl, ?_, PlanVal.none _ _, fun h => by rw [HE.out] at h; cases h⟩
        · simp [results, Try.results20, go_sem, c1]
        · exact (((((HF3.out.setCell (.inr (Nat.le_refl _)) _).setCell (.inr (Nat.le_refl _)) _).setCell (.inr (Nat.le_refl _)) _).setCell (.inr (Nat.le_refl _)) _).setCell (.inr (Nat.le_refl _)) _)
      · go_wp2_with fail
        refine (wiresFit_any w1.heap.size w.heap.size _ HA3.out HM.out.li).mono ?_
        rintro e w4 ⟨rfl, hf4⟩
        rw [show m.wi.all (wireOk m.ws.length) = wiresB m from rfl]
        have HA4 := hid (HA3.out.fr hf4)
        have HP4 := hid (hf4.get HP3.out id)
        have HF4 := hid (HF3.out.step hf4 (fun _ h => .inl h))
        clear hf4
        cases h3 : wiresB m
        · have HE : Hid (mkErr m true = 3) := by simp [Hid, mkErr, h1, h2, h3]
          have c1 := row_cell HP4.out
          have f1 := row_frozen HP4.out
          go_wp2_with fail
          refine bodyPost_ret (v := .tuple #[.agg #[.int .i64 0, .int .i64 0, .slice none 0 0, .slice none 0 0, .slice none 0 0], .int .i64 3]) ?_ rfl ⟨.slice none 0 0, .slice none 0 0, .slice none 0 0, noImg, by rw [HE.out]; rfl, ?_, PlanVal.none _ _, fun h => by rw [HE.out] at h; cases h⟩
          · simp [results, Try.results20, go_sem, c1]
          · exact (((((HF4.out.setCell (.inr (Nat.le_refl _)) _).setCell (.inr (Nat.le_refl _)) _).setCell (.inr (Nat.le_refl _)) _).setCell (.inr (Nat.le_refl _)) _).setCell (.inr (Nat.le_refl _)) _)
        · go_wp2_with fail
          refine (devicesFit_any w1.heap.size w.heap.size _ HA4.out HM.out.lo).mono ?_
          rintro e w5 ⟨rfl, rfl⟩
          rw [show m.ow.all (hasB m.ws.length) = devsB m from rfl]
          have c1 := row_cell HP4.out
          have f1 := row_frozen HP4.out
          cases h4 : devsB m
          · have HE : Hid (mkErr m true = 3) := by simp [Hid, mkErr, h1, h2, h3, h4]
            go_wp2_with fail
            refine bodyPost_ret (v := .tuple #[.agg #[.int .i64 0, .int .i64 0, .slice none 0 0, .slice none 0 0, .slice none 0 0], .int .i64 3]) ?_ rfl ⟨.slice none 0 0, .slice none 0 0, .slice none 0 0, noImg, by rw [HE.out]; rfl, ?_, PlanVal.none _ _, fun h => by rw [HE.out] at h; cases h⟩
            · simp [results, Try.results20, go_sem, c1]
            · exact (((((HF4.out.setCell (.inr (Nat.le_refl _)) _).setCell (.inr (Nat.le_refl _)) _).setCell (.inr (Nat.le_refl _)) _).setCell (.inr (Nat.le_refl _)) _).setCell (.inr (Nat.le_refl _)) _)
          · have HE : Hid (mkErr m true = 0) := by simp [Hid, mkErr, h1, h2, h3, h4]
            have c2 := row_cell HA4.out.g
            go_wp2_with fail
            refine bodyPost_ret (v := .tuple #[.agg #[.int .i64 m.gap, .int .i64 m.mem, .slice a1 m.ws.length q1, .slice a2 m.wi.length q2, .slice a3 m.ow.length q3], .int .i64 0]) ?_ rfl ⟨.slice a1 m.ws.length q1, .slice a2 m.wi.length q2, .slice a3 m.ow.length q3, m, by rw [HE.out], ?_, ?_, fun _ => rfl⟩
            · simp [results, Try.results20, go_sem, c1]
            · exact (((((HF4.out.setCell (.inr (Nat.le_refl _)) _).setCell (.inr (Nat.le_refl _)) _).setCell (.inr (Nat.le_refl _)) _).setCell (.inr (Nat.le_refl _)) _).setCell (.inr (Nat.le_refl _)) _)
            · have hv : PlanVal _ w.heap.size m _ _ _ := ⟨HA4.out.ws, HA4.out.wi, HA4.out.ow⟩
              refine hv.carry (fun e hne => fun ho => ?_)
              exact (fr_five' _ w.heap.size _ _ _ _ _).owns1T HP4.out ho hne

end Go.Proofs.Ythmcheoehcmglaa
