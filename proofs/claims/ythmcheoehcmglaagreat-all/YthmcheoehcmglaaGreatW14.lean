/- plan.Make, walked. -/
import Derived.Test.YthmcheoehcmglaaGreatR0
import Derived.Test.YthmcheoehcmglaaGreatK1
import Derived.Test.YthmcheoehcmglaaGreatP6
import Derived.Laws.CopyOwn
import Derived.Test.YthmcheoehcmglaaGreatC12
namespace Go.Proofs.YthmcheoehcmglaaGreat
open Go.RowKit
set_option linter.unusedVariables false
attribute [local go_sem ↓] Go.wp_at_zero Go.wp_at_succ

def fitsB (m : Img) : Bool := (ownedN m.ws m.ws.length).all (fitB (16 + 16 * m.ws.length + 2 * m.wi.length) m.mem)
def apartB (m : Img) : Bool := apartN (ownedN m.ws m.ws.length) (ownedN m.ws m.ws.length).length
def wiresB (m : Img) : Bool := m.wi.all (wireOk m.ws.length)
def devsB (m : Img) : Bool := m.ow.all (hasB m.ws.length)
def mkErr (m : Img) (ok : Bool) : Int := if ok = false then 1 else if (fitsB m && apartB m) = false then 2 else if (wiresB m && devsB m) = false then 3 else 0
def noImg : Img := ⟨0, 0, [], [], []⟩

theorem PlanVal.none (w : World) (base : Nat) : PlanVal w base noImg (.slice none 0 0) (.slice none 0 0) (.slice none 0 0) := ⟨WardsAt.nil _ _, World.ownsRow_nil _ _ _ _, World.ownsRow_nil _ _ _ _⟩
theorem PlanVal.fr {w w' : World} {base : Nat} {m : Img} {vW vI vO : Value} (h : PlanVal w base m vW vI vO) (hf : Fr (fun _ => False) w w') : PlanVal w' base m vW vI vO :=
  ⟨h.ws.carry (hf.ownsF _) (hf.ownsF _) (hf.ownsF _), hf.ownsF _ h.wi, hf.ownsF _ h.ow⟩
theorem PlanVal.carry {w w' : World} {base : Nat} {m : Img} {vW vI vO : Value} (h : PlanVal w base m vW vI vO) (H : ∀ e, 112 ≠ e → Owns w w' e) : PlanVal w' base m vW vI vO :=
  ⟨h.ws.carry (H _ (by decide)) (H _ (by decide)) (H _ (by decide)), H _ (by decide) h.wi, H _ (by decide) h.ow⟩
theorem WardsAt.base {w : World} {b b' : Nat} {v : Value} {ws : List WardV} (h : WardsAt w b v ws) (hb : b' ≤ b) : WardsAt w b' v ws := by
  obtain ⟨xs, e, ho, hx⟩ := h
  exact ⟨xs, e, owns_base ho hb, fun x hm => ⟨owns_base (hx x hm).1 hb, owns_base (hx x hm).2 hb⟩⟩
theorem PlanVal.base {w : World} {b b' : Nat} {m : Img} {vW vI vO : Value} (h : PlanVal w b m vW vI vO) (hb : b' ≤ b) : PlanVal w b' m vW vI vO := ⟨h.ws.base hb, owns_base h.wi hb, owns_base h.ow hb⟩

theorem fr_five' (wr : World) (b : Nat) (v0 v1 v2 v3 v4 : Value) : Fr (fun i => i = b) wr (((((wr.setCell ⟨b, 0, none⟩ v0).setCell ⟨b, 1, none⟩ v1).setCell ⟨b, 2, none⟩ v2).setCell ⟨b, 3, none⟩ v3).setCell ⟨b, 4, none⟩ v4) :=
  (((((Fr.refl (fun i => i = b) wr).setCell (p := ⟨b, 0, none⟩) (Or.inl rfl) v0).setCell (p := ⟨b, 1, none⟩) (Or.inl rfl) v1).setCell (p := ⟨b, 2, none⟩) (Or.inl rfl) v2).setCell (p := ⟨b, 3, none⟩) (Or.inl rfl) v3).setCell (p := ⟨b, 4, none⟩) (Or.inl rfl) v4

set_option maxRecDepth 100000 in
set_option maxHeartbeats 4000000 in
theorem make_core (s : ByteArray) (hs : s.size ≤ maxLen) (w : World) (m : Img) (ok : Bool) (E : Hid (rimg s.data.toList = (m, ok))) (hm : m.Ok) :
    Calls Tryz.prog 50 #[.string s] w fun e w' =>
      ∃ vW vI vO m', e = .returned (.tuple #[.agg #[.int .i64 m'.gap, .int .i64 m'.mem, vW, vI, vO], .int .i64 (mkErr m ok)]) ∧ Fr (fun _ => False) w w' ∧ PlanVal w' w.heap.size m' vW vI vO ∧ (mkErr m ok = 0 → m' = m) := by
  have HM := hid hm
  clear hm
  go_enter Tryz.func50, Tryz.ntmps50
  go_wp2_with fail
  refine (read_any s hs _).mono ?_
  rw [E.out]
  rintro e w1 ⟨vW, vI, vO, rfl, hf1, hv1⟩
  have hF1 : Fr (fun _ => False) w w1 := ((Fr.refl _ w).alloc _).step hf1 (fun _ h => .inl h)
  have p1 := hf1.get (heap_new w _) id
  have hV1 := hv1.base (b' := w.heap.size) (by simp)
  obtain ⟨a1, q1, rfl⟩ := hV1.ws.shape
  obtain ⟨a2, q2, rfl⟩ := owns_shape hV1.wi
  obtain ⟨a3, q3, rfl⟩ := owns_shape hV1.ow
  have hz1 := hF1.size
  have HV1 := hid hV1
  have hpl := lt_of_get p1
  clear hf1 hv1 hV1
  have HA : Hid (PlanAt (w1.alloc (.cells #[.int .i64 m.gap, .int .i64 m.mem, .slice a1 m.ws.length q1, .slice a2 m.wi.length q2, .slice a3 m.ow.length q3] 112)) w1.heap.size w.heap.size m.gap m.mem m.ws m.wi m.ow (.slice a1 m.ws.length q1) (.slice a2 m.wi.length q2) (.slice a3 m.ow.length q3)) := by
    have hf := (Fr.refl (fun _ => False) w1).alloc (.cells #[.int .i64 m.gap, .int .i64 m.mem, .slice a1 m.ws.length q1, .slice a2 m.wi.length q2, .slice a3 m.ow.length q3] 112)
    exact ⟨heap_new _ _, (HV1.out.fr hf).ws, (HV1.out.fr hf).wi, (HV1.out.fr hf).ow⟩
  have pa : ∀ o, (w1.alloc o).heap[w.heap.size]? = some (.cells #[.int .i64 0, .int .i64 0, .slice none 0 0, .slice none 0 0, .slice none 0 0] 112 (0, 0)) := fun o => get_alloc p1 o
  have FA : ∀ o, Fr (fun _ => False) w (w1.alloc o) := fun o => hF1.alloc o
  have HPA := hid pa
  have HFA := hid FA
  have HP1 := hid p1
  have HF1 := hid hF1
  clear pa FA p1 hF1
  cases ok
  · have c1 := row_cell HP1.out
    have f1 := row_frozen HP1.out
    have HE : Hid (mkErr m false = 1) := rfl
    go_wp2_with fail
    refine bodyPost_ret (v := .tuple #[.agg #[.int .i64 0, .int .i64 0, .slice none 0 0, .slice none 0 0, .slice none 0 0], .int .i64 1]) ?_ rfl ⟨.slice none 0 0, .slice none 0 0, .slice none 0 0, noImg, by rw [HE.out]; rfl, ?_, PlanVal.none _ _, fun h => by rw [HE.out] at h; cases h⟩
    · simp [results, Tryz.results50, go_sem, c1, hpl]
    · exact (((((HF1.out.setCell (.inr (Nat.le_refl _)) _).setCell (.inr (Nat.le_refl _)) _).setCell (.inr (Nat.le_refl _)) _).setCell (.inr (Nat.le_refl _)) _).setCell (.inr (Nat.le_refl _)) _).alloc _
  · have hkk : ∀ x ∈ m.ws, ∀ r ∈ x.regs, 0 ≤ r.1 ∧ r.1 ≤ 65535 ∧ 0 ≤ r.2.1 ∧ r.2.1 ≤ 65535 ∧ 0 ≤ r.2.2.1 ∧ r.2.2.1 ≤ 65535 := fun x hx r hr => (HM.out.w x hx).2.1 r hr
    have hk3 : ∀ x ∈ m.ws, x.regs.length ≤ 3 := fun x hx => (HM.out.w x hx).1
    have HKK := hid hkk
    have HK3 := hid hk3
    clear hkk hk3
    go_wp2_with fail
    refine (regionsFit_any w1.heap.size w.heap.size _ HA.out HM.out.l HM.out.li HK3.out HKK.out).mono ?_
    rintro e w2 ⟨rfl, hf2⟩
    rw [show ((ownedN m.ws m.ws.length).all (fitB (16 + 16 * m.ws.length + 2 * m.wi.length) m.mem)) = fitsB m from rfl]
    have HA2 := hid (HA.out.fr hf2)
    have HP2 := hid (hf2.get (HPA.out _) id)
    have HF2 := hid ((HFA.out _).step hf2 (fun _ h => .inl h))
    clear hf2
    cases h1 : fitsB m
    · have HE : Hid (mkErr m true = 2) := by simp [Hid, mkErr, h1]
      have c1 := row_cell HP2.out
      have f1 := row_frozen HP2.out
      go_wp2_with fail
      refine bodyPost_ret (v := .tuple #[.agg #[.int .i64 0, .int .i64 0, .slice none 0 0, .slice none 0 0, .slice none 0 0], .int .i64 2]) ?_ rfl ⟨.slice none 0 0, .slice none 0 0, .slice none 0 0, noImg, by rw [HE.out]; rfl, ?_, PlanVal.none _ _, fun h => by rw [HE.out] at h; cases h⟩
      · simp [results, Tryz.results50, go_sem, c1]
      · exact (((((HF2.out.setCell (.inr (Nat.le_refl _)) _).setCell (.inr (Nat.le_refl _)) _).setCell (.inr (Nat.le_refl _)) _).setCell (.inr (Nat.le_refl _)) _).setCell (.inr (Nat.le_refl _)) _)
    · go_wp2_with fail
      refine (regionsApart_any w1.heap.size w.heap.size _ HA2.out HM.out.l HK3.out HKK.out).mono ?_
      rintro e w3 ⟨rfl, hf3⟩
      rw [show apartN (ownedN m.ws m.ws.length) (ownedN m.ws m.ws.length).length = apartB m from rfl]
      have HA3 := hid (HA2.out.fr hf3)
      have HP3 := hid (hf3.get HP2.out id)
      have HF3 := hid (HF2.out.step hf3 (fun _ h => .inl h))
      clear hf3
      cases h2 : apartB m
      · have HE : Hid (mkErr m true = 2) := by simp [Hid, mkErr, h1, h2]
        have c1 := row_cell HP3.out
        have f1 := row_frozen HP3.out
        go_wp2_with fail
        refine bodyPost_ret (v := .tuple #[.agg #[.int .i64 0, .int .i64 0, .slice none 0 0, .slice none 0 0, .slice none 0 0], .int .i64 2]) ?_ rfl ⟨.slice none 0 0, .slice none 0 0, .slice none 0 0, noImg, by rw [HE.out]; rfl, ?_, PlanVal.none _ _, fun h => by rw [HE.out] at h; cases h⟩
        · simp [results, Tryz.results50, go_sem, c1]
        · exact (((((HF3.out.setCell (.inr (Nat.le_refl _)) _).setCell (.inr (Nat.le_refl _)) _).setCell (.inr (Nat.le_refl _)) _).setCell (.inr (Nat.le_refl _)) _).setCell (.inr (Nat.le_refl _)) _)
      · go_wp2_with fail
        refine (wiresFit_any w1.heap.size w.heap.size _ HA3.out HM.out.li).mono ?_
        rintro e w4 ⟨rfl, hf4⟩
        rw [show m.wi.all (wireOk m.ws.length) = wiresB m from rfl]
        have HA4 := hid (HA3.out.fr hf4)
        have HP4 := hid (hf4.get HP3.out id)
        have HF4 := hid (HF3.out.step hf4 (fun _ h => .inl h))
        clear hf4
        cases h3 : wiresB m
        · have HE : Hid (mkErr m true = 3) := by simp [Hid, mkErr, h1, h2, h3]
          have c1 := row_cell HP4.out
          have f1 := row_frozen HP4.out
          go_wp2_with fail
          refine bodyPost_ret (v := .tuple #[.agg #[.int .i64 0, .int .i64 0, .slice none 0 0, .slice none 0 0, .slice none 0 0], .int .i64 3]) ?_ rfl ⟨.slice none 0 0, .slice none 0 0, .slice none 0 0, noImg, by rw [HE.out]; rfl, ?_, PlanVal.none _ _, fun h => by rw [HE.out] at h; cases h⟩
          · simp [results, Tryz.results50, go_sem, c1]
          · exact (((((HF4.out.setCell (.inr (Nat.le_refl _)) _).setCell (.inr (Nat.le_refl _)) _).setCell (.inr (Nat.le_refl _)) _).setCell (.inr (Nat.le_refl _)) _).setCell (.inr (Nat.le_refl _)) _)
        · go_wp2_with fail
          refine (devicesFit_any w1.heap.size w.heap.size _ HA4.out HM.out.lo).mono ?_
          rintro e w5 ⟨rfl, rfl⟩
          rw [show m.ow.all (hasB m.ws.length) = devsB m from rfl]
          have c1 := row_cell HP4.out
          have f1 := row_frozen HP4.out
          cases h4 : devsB m
          · have HE : Hid (mkErr m true = 3) := by simp [Hid, mkErr, h1, h2, h3, h4]
            go_wp2_with fail
            refine bodyPost_ret (v := .tuple #[.agg #[.int .i64 0, .int .i64 0, .slice none 0 0, .slice none 0 0, .slice none 0 0], .int .i64 3]) ?_ rfl ⟨.slice none 0 0, .slice none 0 0, .slice none 0 0, noImg, by rw [HE.out]; rfl, ?_, PlanVal.none _ _, fun h => by rw [HE.out] at h; cases h⟩
            · simp [results, Tryz.results50, go_sem, c1]
            · exact (((((HF4.out.setCell (.inr (Nat.le_refl _)) _).setCell (.inr (Nat.le_refl _)) _).setCell (.inr (Nat.le_refl _)) _).setCell (.inr (Nat.le_refl _)) _).setCell (.inr (Nat.le_refl _)) _)
          · have HE : Hid (mkErr m true = 0) := by simp [Hid, mkErr, h1, h2, h3, h4]
            have c2 := row_cell HA4.out.g
            go_wp2_with fail
            refine bodyPost_ret (v := .tuple #[.agg #[.int .i64 m.gap, .int .i64 m.mem, .slice a1 m.ws.length q1, .slice a2 m.wi.length q2, .slice a3 m.ow.length q3], .int .i64 0]) ?_ rfl ⟨.slice a1 m.ws.length q1, .slice a2 m.wi.length q2, .slice a3 m.ow.length q3, m, by rw [HE.out], ?_, ?_, fun _ => rfl⟩
            · simp [results, Tryz.results50, go_sem, c1]
            · exact (((((HF4.out.setCell (.inr (Nat.le_refl _)) _).setCell (.inr (Nat.le_refl _)) _).setCell (.inr (Nat.le_refl _)) _).setCell (.inr (Nat.le_refl _)) _).setCell (.inr (Nat.le_refl _)) _)
            · have hv : PlanVal _ w.heap.size m _ _ _ := ⟨HA4.out.ws, HA4.out.wi, HA4.out.ow⟩
              refine hv.carry (fun e hne => fun ho => ?_)
              exact (fr_five' _ w.heap.size _ _ _ _ _).owns1T HP4.out ho hne

end Go.Proofs.YthmcheoehcmglaaGreat
/- The processor's state in memory: Save, Load. -/
namespace Go.Proofs.YthmcheoehcmglaaGreat
open Go.RowKit
set_option linter.unusedVariables false
attribute [local go_sem ↓] Go.wp_at_zero Go.wp_at_succ

/-- copy, in words of rows: at a plain region's list. -/
theorem wpList_copyF {P : Program} {w : World} {ops : Array Oper} {rest : List Oper} {o : Oper} {a : Act} {Q : Exit → Act → World → Prop} (hgd : o.guard = none) (d s : Operand) (dT sT : TypeId)
    (ho : o.op = .call { callee := .builtin .copy, args := #[d, s], argTypes := #[dT, sT] }) (elem : TypeId) (hu : P.underlying dT = some (.slice elem)) (hsz : (P.info? elem).map (·.size) = some 1)
    (g off dLen dCap : Nat) (ad : Addr) (sLen sCap : Nat) (hd : a.eval d = .slice (some ⟨g, off, none⟩) dLen dCap) (hs : a.eval s = .slice (some ad) sLen sCap)
    (cur : List Value) (t : TypeId) (hg : w.heap[g]? = some (.cells cur.toArray t (0, 0))) (cs : List Value) (hn : cs.length = Nat.min sLen dLen)
    (hsrc : ∀ j v, cs[j]? = some v → w.cell? (ad.add j) = some v) (hfit : off + cs.length ≤ cur.length) (h1 : ∀ v ∈ cs, v.oneCell' = true)
    (h : ∀ w', w'.heap[g]? = some (.cells (splice cur off cs).toArray t (0, 0)) → Fr (fun i => i = g) w w' → wpList P ops Q rest (a.put o.dst (goInt cs.length)) w') : wpList P ops Q (o :: rest) a w := by
  refine wpList_copy_own hgd d s dT sT ho elem hu hsz g off dLen dCap ad sLen sCap hd hs cur.toArray t hg cs hn hsrc (by simpa using hfit) h1 ?_
  refine h _ ?_ ?_
  · simpa [splice] using setRow_heap w g _ _ t _ hg
  · exact (Fr.refl (fun i => i = g) w).setRow (Or.inl rfl) _

theorem run_copyF {P : Program} (w : World) (dT sT ty elem : TypeId) (g off dLen dCap : Nat) (ad : Addr) (sLen sCap : Nat) (cur : List Value) (t : TypeId) (cs : List Value)
    (hu : P.underlying dT = some (.slice elem)) (hsz : (P.info? elem).map (·.size) = some 1) (hg : w.heap[g]? = some (.cells cur.toArray t (0, 0))) (hn : cs.length = Nat.min sLen dLen)
    (hsrc : ∀ j v, cs[j]? = some v → w.cell? (ad.add j) = some v) (hfit : off + cs.length ≤ cur.length) (h1 : ∀ v ∈ cs, v.oneCell' = true) :
    ∃ w', (Builtin.copy_ #[dT, sT] ty #[.slice (some ⟨g, off, none⟩) dLen dCap, .slice (some ad) sLen sCap]).run P w = .ok (goInt cs.length) w' ∧ w'.heap[g]? = some (.cells (splice cur off cs).toArray t (0, 0)) ∧ Fr (fun i => i = g) w w' := by
  refine ⟨_, run_copy_row (P := P) w dT sT ty elem g off dLen dCap ad sLen sCap cur.toArray t cs hu hsz hg hn hsrc (by simpa using hfit) h1, ?_, ?_⟩
  · simpa [splice] using setRow_heap w g _ _ t _ hg
  · exact (Fr.refl (fun i => i = g) w).setRow (Or.inl rfl) _

theorem saved_set (mem : List Int) (off : Nat) (s : StV) (h8 : s.regs.length = 8) (h : off + 16 ≤ mem.length) :
    (((((splice mem off s.regs).set (off + 8) s.place).set (off + 9) s.status).set (off + 10) s.cause).set (off + 11) s.busy).set (off + 12) (yWord s.y) = splice mem off (stWords s) := by
  apply List.ext_getElem?
  intro i
  rw [splice_get mem off (stWords s) (by simp [stWords, h8]; omega)]
  have hl : (splice mem off s.regs).length = mem.length := length_splice _ _ _ (by omega)
  have hw : (stWords s).length = 13 := by simp [stWords, h8]
  rw [hw]
  by_cases h12 : off + 12 = i
  · subst h12; rw [List.getElem?_set_self (by simp only [List.length_set, hl]; omega), if_pos (by omega)]; simp [stWords, h8]
  · rw [List.getElem?_set_ne h12]
    by_cases h11 : off + 11 = i
    · subst h11; rw [List.getElem?_set_self (by simp only [List.length_set, hl]; omega), if_pos (by omega)]; simp [stWords, h8]
    · rw [List.getElem?_set_ne h11]
      by_cases h10 : off + 10 = i
      · subst h10; rw [List.getElem?_set_self (by simp only [List.length_set, hl]; omega), if_pos (by omega)]; simp [stWords, h8]
      · rw [List.getElem?_set_ne h10]
        by_cases h9 : off + 9 = i
        · subst h9; rw [List.getElem?_set_self (by simp only [List.length_set, hl]; omega), if_pos (by omega)]; simp [stWords, h8]
        · rw [List.getElem?_set_ne h9]
          by_cases h88 : off + 8 = i
          · subst h88; rw [List.getElem?_set_self (by simp only [hl]; omega), if_pos (by omega)]; simp [stWords, h8]
          · rw [List.getElem?_set_ne h88, splice_get mem off s.regs (by omega) i, h8]
            by_cases hin : off ≤ i ∧ i < off + 8
            · rw [if_pos hin, if_pos (by omega)]
              unfold stWords
              rw [List.getElem?_append_left (by omega)]
            · rw [if_neg hin, if_neg (by omega)]

theorem set_map (f : Int → Value) (l : List Int) (i : Nat) (v : Int) : (l.map f).toArray.setIfInBounds i (f v) = ((l.set i v).map f).toArray := by simp [List.map_set]

set_option maxRecDepth 100000 in
set_option maxHeartbeats 1000000 in
theorem save_any (b o M off cap : Nat) (s : StV) (mem : List Int) (w : World) (hs : s.Ok) (hbM : b ≠ M) (hc : ∀ j u, (stCells s)[j]? = some u → w.cell? ⟨b, o + j, none⟩ = some u)
    (hM : w.heap[M]? = some (.cells (wordCells mem).toArray 33 (0, 0))) (hoff : off + 16 ≤ mem.length) (hml : mem.length ≤ 1024) (hcap : 16 ≤ cap) :
    Calls Tryz.prog 74 #[.pointer (some ⟨b, o, none⟩), .slice (some ⟨M, off, none⟩) 16 cap] w fun e w' =>
      e = .returned (.tuple #[]) ∧ w'.heap[M]? = some (.cells (wordCells (splice mem off (stWords s))).toArray 33 (0, 0)) ∧ Fr (fun i => i = M) w w' := by
  obtain ⟨h8, s1, s2, s3, s4, s5, s6⟩ := hs
  have cs8 : ∀ j u, (s.regs.map (Value.int .u32))[j]? = some u → w.cell? ((⟨b, o, none⟩ : Addr).add j) = some u := by
    intro j u hu
    rw [show (⟨b, o, none⟩ : Addr).add j = ⟨b, o + j, none⟩ by unfold Addr.add; split <;> simp_all]
    refine hc j u ?_
    unfold stCells
    rw [List.getElem?_append_left]
    · exact hu
    · exact (List.getElem?_eq_some_iff.1 hu).1
  have HC8 := hid cs8
  have HC := hid hc
  have HM := hid hM
  have HS := hid (saved_set mem off s h8 hoff)
  clear cs8 hc hM
  have h8c : (s.regs.map (Value.int .u32)).length = Nat.min 8 16 := by simp [h8]
  have hfit : off + (s.regs.map (Value.int .u32)).length ≤ (wordCells mem).length := by simp [h8, wordCells]; omega
  have hone : ∀ v ∈ s.regs.map (Value.int .u32), v.oneCell' = true := ints_oneCell .u32 s.regs
  go_enter Tryz.func74, Tryz.ntmps74
  go_wp2_with fail
  obtain ⟨w1, hrun, hM1, hf1⟩ := run_copyF (P := Tryz.prog) w 35 35 3 33 M off 16 cap ⟨b, o, none⟩ 8 8 (wordCells mem) 33 (s.regs.map (Value.int .u32)) Tryz.underlying35 (by kernel_rfl) HM.out h8c HC8.out hfit hone
  rw [hrun]
  clear hrun
  have HM1 : Hid (w1.heap[M]? = some (.cells (wordCells (splice mem off s.regs)).toArray 33 (0, 0))) := by
    unfold Hid; rw [hM1]; unfold wordCells; rw [splice_map]
  have hl1 : (splice mem off s.regs).length = mem.length := length_splice _ _ _ (by omega)
  have HF1 := hid hf1
  have hb : ∀ j u, (stCells s)[j]? = some u → w1.cell? ⟨b, o + j, none⟩ = some u := by
    intro j u hu
    have h1 := HC.out j u hu
    rw [← h1]
    exact World.cell?_of_block (hf1.block b (World.block_lt_of_cell? w _ h1) hbM)
  have hst : ∀ j u, [Value.int .u32 s.place, .int .i64 s.status, .int .i64 s.cause, .int .i64 s.busy, .bool s.y][j]? = some u → w1.cell? ⟨b, o + (8 + j), none⟩ = some u := by
    intro j u hu
    refine hb (8 + j) u ?_
    unfold stCells
    rw [List.getElem?_append_right (by simp [h8])]
    simpa [h8] using hu
  have t8 : w1.cell? ⟨b, o + 8, none⟩ = some (.int .u32 s.place) := hst 0 _ rfl
  have t9 : w1.cell? ⟨b, o + 9, none⟩ = some (.int .i64 s.status) := hst 1 _ rfl
  have t10 : w1.cell? ⟨b, o + 10, none⟩ = some (.int .i64 s.cause) := hst 2 _ rfl
  have t11 : w1.cell? ⟨b, o + 11, none⟩ = some (.int .i64 s.busy) := hst 3 _ rfl
  have t12 : w1.cell? ⟨b, o + 12, none⟩ = some (.bool s.y) := hst 4 _ rfl
  have hmc : ∀ j, j < 16 → ∃ v, w1.cell? ⟨M, off + j, none⟩ = some (.int .u32 v) := by
    intro j hj
    rw [row_cell HM1.out]
    simp only [wordCells, List.getElem?_toArray, List.getElem?_map]
    rw [List.getElem?_eq_getElem (by omega)]
    exact ⟨_, rfl⟩
  obtain ⟨v8, m8⟩ := hmc 8 (by omega)
  obtain ⟨v9, m9⟩ := hmc 9 (by omega)
  obtain ⟨v10, m10⟩ := hmc 10 (by omega)
  obtain ⟨v11, m11⟩ := hmc 11 (by omega)
  obtain ⟨v12, m12⟩ := hmc 12 (by omega)
  have fM := row_frozen HM1.out
  clear hM1 hf1 hb hst hmc h8c hfit hone
  cases hy : s.y
  · rw [hy] at t12
    have HY : Hid (yWord s.y = 0) := by simp [Hid, yWord, hy]
    clear hy
    go_wp2_with fail
    go_end0
    refine ⟨rfl, ?_, ?_⟩
    · rw [row_set (row_set (row_set (row_set (row_set HM1.out _ _) _ _) _ _) _ _) _ _]
      unfold wordCells
      rw [set_map, set_map, set_map, set_map, set_map, ← HS.out, HY.out]
    · exact ((((HF1.out.setCell (.inl rfl) _).setCell (.inl rfl) _).setCell (.inl rfl) _).setCell (.inl rfl) _).setCell (.inl rfl) _
  · rw [hy] at t12
    have HY : Hid (yWord s.y = 1) := by simp [Hid, yWord, hy]
    clear hy
    go_wp2_with fail
    go_end0
    refine ⟨rfl, ?_, ?_⟩
    · rw [row_set (row_set (row_set (row_set (row_set (row_set HM1.out _ _) _ _) _ _) _ _) _ _) _ _]
      unfold wordCells
      rw [set_map, set_map, set_map, set_map, set_map, set_map, ← HS.out, HY.out, List.set_set]
    · exact (((((HF1.out.setCell (.inl rfl) _).setCell (.inl rfl) _).setCell (.inl rfl) _).setCell (.inl rfl) _).setCell (.inl rfl) _).setCell (.inl rfl) _

/-- How a save area tells a ward. -/
def loadSt (mem : List Int) (off : Nat) : StV := ⟨(mem.drop off).take 8, mem.getD (off + 8) 0, mem.getD (off + 9) 0, mem.getD (off + 10) 0, mem.getD (off + 11) 0, mem.getD (off + 12) 0 != 0⟩

theorem set_tail (L : List Value) (a b c d e a' b' c' d' e' : Value) (h : L.length = 8) :
    (((((L ++ [a, b, c, d, e]).toArray.setIfInBounds 8 a').setIfInBounds 9 b').setIfInBounds 10 c').setIfInBounds 11 d').setIfInBounds 12 e' = (L ++ [a', b', c', d', e']).toArray := by
  simp [h]

theorem loadSt_regs (mem : List Int) (off : Nat) (h : off + 16 ≤ mem.length) : (loadSt mem off).regs.length = 8 := by simp [loadSt]; omega

theorem mem_cell {w : World} {M : Nat} {mem : List Int} (h : w.heap[M]? = some (.cells (wordCells mem).toArray 33 (0, 0))) (i : Nat) (hi : i < mem.length) : w.cell? ⟨M, i, none⟩ = some (.int .u32 mem[i]) := by
  rw [row_cell h]
  simp [wordCells, hi]

set_option maxRecDepth 100000 in
set_option maxHeartbeats 2000000 in
theorem load_any (b M off cap : Nat) (T : TypeId) (s : StV) (mem : List Int) (w : World) (hs : s.regs.length = 8) (hbM : b ≠ M) (hb : w.heap[b]? = some (.cells (stCells s).toArray T (0, 0)))
    (hM : w.heap[M]? = some (.cells (wordCells mem).toArray 33 (0, 0))) (hmb : ∀ v ∈ mem, 0 ≤ v ∧ v < 4294967296) (hoff : off + 16 ≤ mem.length) (hml : mem.length ≤ 1024) (hcap : 16 ≤ cap) :
    Calls Tryz.prog 66 #[.pointer (some ⟨b, 0, none⟩), .slice (some ⟨M, off, none⟩) 16 cap] w fun e w' =>
      e = .returned (.tuple #[]) ∧ w'.heap[b]? = some (.cells (stCells (loadSt mem off)).toArray T (0, 0)) ∧ Fr (fun i => i = b) w w' := by
  have h8c : (wordCells ((mem.drop off).take 8)).length = Nat.min 16 8 := by simp [wordCells]; omega
  have hsrc : ∀ j v, (wordCells ((mem.drop off).take 8))[j]? = some v → w.cell? ((⟨M, off, none⟩ : Addr).add j) = some v := by
    intro j v hj
    rw [show (⟨M, off, none⟩ : Addr).add j = ⟨M, off + j, none⟩ by unfold Addr.add; split <;> simp_all]
    have hlt := (List.getElem?_eq_some_iff.1 hj).1
    have hj8 : j < 8 := by simp [wordCells] at hlt; omega
    rw [mem_cell hM (off + j) (by omega)]
    rw [← hj]
    unfold wordCells
    rw [List.getElem?_map, List.getElem?_take, if_pos hj8, List.getElem?_drop, List.getElem?_eq_getElem (by omega)]
    rfl
  have hfit : 0 + (wordCells ((mem.drop off).take 8)).length ≤ (stCells s).length := by rw [h8c]; simp [stCells, hs]
  have hone : ∀ v ∈ wordCells ((mem.drop off).take 8), v.oneCell' = true := ints_oneCell .u32 _
  have m8 := mem_cell hM (off + 8) (by omega)
  have m9 := mem_cell hM (off + 9) (by omega)
  have m10 := mem_cell hM (off + 10) (by omega)
  have m11 := mem_cell hM (off + 11) (by omega)
  have m12 := mem_cell hM (off + 12) (by omega)
  have b9 := hmb mem[off + 9] (List.getElem_mem _)
  have b10 := hmb mem[off + 10] (List.getElem_mem _)
  have b11 := hmb mem[off + 11] (List.getElem_mem _)
  have HL : Hid (loadSt mem off = ⟨(mem.drop off).take 8, mem[off + 8], mem[off + 9], mem[off + 10], mem[off + 11], mem[off + 12] != 0⟩) := by
    unfold Hid loadSt
    have e : ∀ j, (hj : off + j < mem.length) → mem.getD (off + j) 0 = mem[off + j] := fun j hj => by simp [hj]
    rw [e 8 (by omega), e 9 (by omega), e 10 (by omega), e 11 (by omega), e 12 (by omega)]
  generalize mem[off + 8] = v8 at *
  generalize mem[off + 9] = v9 at *
  generalize mem[off + 10] = v10 at *
  generalize mem[off + 11] = v11 at *
  generalize mem[off + 12] = v12 at *
  have HB := hid hb
  have HM := hid hM
  have HSRC := hid hsrc
  have q1 := b9.1
  have q2 := b9.2
  have q3 := b10.1
  have q4 := b10.2
  have q5 := b11.1
  have q6 := b11.2
  clear hb hM hmb hsrc b9 b10 b11
  go_enter Tryz.func66, Tryz.ntmps66
  go_wp2_with fail
  obtain ⟨w1, hrun, hb1, hf1⟩ := run_copyF (P := Tryz.prog) w 35 35 3 33 b 0 8 8 ⟨M, off, none⟩ 16 cap (stCells s) T (wordCells ((mem.drop off).take 8)) Tryz.underlying35 (by kernel_rfl) HB.out h8c HSRC.out hfit hone
  rw [hrun]
  clear hrun
  have hsp : splice (stCells s) 0 (wordCells ((mem.drop off).take 8)) = wordCells ((mem.drop off).take 8) ++ [.int .u32 s.place, .int .i64 s.status, .int .i64 s.cause, .int .i64 s.busy, .bool s.y] := by
    unfold splice
    rw [h8c]
    simp [stCells, hs]
  rw [hsp] at hb1
  have hM1 : ∀ j v, w.cell? ⟨M, j, none⟩ = some v → w1.cell? ⟨M, j, none⟩ = some v := fun j v hv => (World.cell?_of_block (hf1.block M (World.block_lt_of_cell? w _ hv) (Ne.symm hbM))).trans hv
  have n8 := hM1 _ _ m8
  have n9 := hM1 _ _ m9
  have n10 := hM1 _ _ m10
  have n11 := hM1 _ _ m11
  have n12 := hM1 _ _ m12
  have hR : ∀ j, w1.cell? ⟨b, 8 + j, none⟩ = [Value.int .u32 s.place, .int .i64 s.status, .int .i64 s.cause, .int .i64 s.busy, .bool s.y][j]? := by
    intro j
    rw [row_cell hb1]
    simp only [List.getElem?_toArray]
    rw [List.getElem?_append_right (by rw [h8c]; simp)]
    rw [h8c]
    simp
  have r8 : w1.cell? ⟨b, 8, none⟩ = some (.int .u32 s.place) := hR 0
  have r9 : w1.cell? ⟨b, 9, none⟩ = some (.int .i64 s.status) := hR 1
  have r10 : w1.cell? ⟨b, 10, none⟩ = some (.int .i64 s.cause) := hR 2
  have r11 : w1.cell? ⟨b, 11, none⟩ = some (.int .i64 s.busy) := hR 3
  have r12 : w1.cell? ⟨b, 12, none⟩ = some (.bool s.y) := hR 4
  have fb := row_frozen hb1
  have HB1 := hid hb1
  have HF1 := hid hf1
  have H8 := hid h8c
  clear hb1 hf1 hsp hM1 hR m8 m9 m10 m11 m12 h8c hfit hone
  go_wp2_with fail
  go_end0
  refine ⟨rfl, ?_, ?_⟩
  · rw [row_set (row_set (row_set (row_set (row_set HB1.out _ _) _ _) _ _) _ _) _ _, set_tail _ _ _ _ _ _ _ _ _ _ _ (by rw [H8.out]; rfl), HL.out]
    rfl
  · exact ((((HF1.out.setCell (.inl rfl) _).setCell (.inl rfl) _).setCell (.inl rfl) _).setCell (.inl rfl) _).setCell (.inl rfl) _

end Go.Proofs.YthmcheoehcmglaaGreat
/- Load, into a state that lies within a block. -/
namespace Go.Proofs.YthmcheoehcmglaaGreat
open Go.RowKit
set_option linter.unusedVariables false
attribute [local go_sem ↓] Go.wp_at_zero Go.wp_at_succ

theorem stCells_len (s : StV) (h : s.regs.length = 8) : (stCells s).length = 13 := by simp [stCells, h]

/-- The registers of a state within a block are written. -/
theorem splice_regs (L : List Value) (o : Nat) (s : StV) (h8 : s.regs.length = 8) (hl : o + 13 ≤ L.length) (hc : stCells s = (L.drop o).take 13) (rs : List Int) (hr : rs.length = 8) : splice L o (wordCells rs) = splice L o (stCells { s with regs := rs }) := by
  have e1 : (wordCells rs).length = 8 := by simp [wordCells, hr]
  have e2 : (stCells { s with regs := rs }).length = 13 := stCells_len _ hr
  apply List.ext_getElem?
  intro i
  rw [splice_get _ _ _ (by omega), splice_get _ _ _ (by omega), e1, e2]
  by_cases h1 : o ≤ i ∧ i < o + 8
  · rw [if_pos h1, if_pos (by omega)]
    unfold stCells
    rw [List.getElem?_append_left (by simp [hr]; omega)]
    rfl
  · rw [if_neg h1]
    by_cases h2 : o ≤ i ∧ i < o + 13
    · rw [if_pos h2]
      have h3 : L[i]? = (stCells s)[i - o]? := by rw [hc, List.getElem?_take, if_pos (by omega), List.getElem?_drop, show o + (i - o) = i by omega]
      rw [h3]
      unfold stCells
      rw [List.getElem?_append_right (by simp [h8]; omega), List.getElem?_append_right (by simp [hr]; omega)]
      simp [h8, hr]
    · rw [if_neg h2]

theorem splice_st (L : List Value) (o : Nat) (s s' : StV) (h : s.regs.length = 8) (h' : s'.regs.length = 8) (hl : o + 13 ≤ L.length) : splice (splice L o (stCells s)) o (stCells s') = splice L o (stCells s') :=
  splice_splice L o _ _ (by rw [stCells_len s h, stCells_len s' h']) (by rw [stCells_len s h]; exact hl)

set_option maxRecDepth 100000 in
set_option maxHeartbeats 2000000 in
theorem load_in (b o M off cap : Nat) (T : TypeId) (L : List Value) (s : StV) (mem : List Int) (w : World) (h8 : s.regs.length = 8) (hbM : b ≠ M) (hA : StAt w b o T L s)
    (hM : w.heap[M]? = some (.cells (wordCells mem).toArray 33 (0, 0))) (hmb : ∀ v ∈ mem, 0 ≤ v ∧ v < 4294967296) (hoff : off + 16 ≤ mem.length) (hml : mem.length ≤ 1024) (hcap : 16 ≤ cap) :
    Calls Tryz.prog 66 #[.pointer (some ⟨b, o, none⟩), .slice (some ⟨M, off, none⟩) 16 cap] w fun e w' =>
      e = .returned (.tuple #[]) ∧ StAt w' b o T (splice L o (stCells (loadSt mem off))) (loadSt mem off) ∧ Fr (fun i => i = b) w w' := by
  have h8c : (wordCells ((mem.drop off).take 8)).length = Nat.min 16 8 := by simp [wordCells]; omega
  have hr8 : ((mem.drop off).take 8).length = 8 := by simp; omega
  have hsrc : ∀ j v, (wordCells ((mem.drop off).take 8))[j]? = some v → w.cell? ((⟨M, off, none⟩ : Addr).add j) = some v := by
    intro j v hj
    rw [show (⟨M, off, none⟩ : Addr).add j = ⟨M, off + j, none⟩ by unfold Addr.add; split <;> simp_all]
    have hlt := (List.getElem?_eq_some_iff.1 hj).1
    have hj8 : j < 8 := by simp [wordCells] at hlt; omega
    rw [mem_cell hM (off + j) (by omega)]
    rw [← hj]
    unfold wordCells
    rw [List.getElem?_map, List.getElem?_take, if_pos hj8, List.getElem?_drop, List.getElem?_eq_getElem (by omega)]
    rfl
  have hLl := hA.l
  have hfit : o + (wordCells ((mem.drop off).take 8)).length ≤ L.length := by rw [h8c]; simp; omega
  have hone : ∀ v ∈ wordCells ((mem.drop off).take 8), v.oneCell' = true := ints_oneCell .u32 _
  have m8 := mem_cell hM (off + 8) (by omega)
  have m9 := mem_cell hM (off + 9) (by omega)
  have m10 := mem_cell hM (off + 10) (by omega)
  have m11 := mem_cell hM (off + 11) (by omega)
  have m12 := mem_cell hM (off + 12) (by omega)
  have b9 := hmb mem[off + 9] (List.getElem_mem _)
  have b10 := hmb mem[off + 10] (List.getElem_mem _)
  have b11 := hmb mem[off + 11] (List.getElem_mem _)
  have HL : Hid (loadSt mem off = ⟨(mem.drop off).take 8, mem[off + 8], mem[off + 9], mem[off + 10], mem[off + 11], mem[off + 12] != 0⟩) := by
    unfold Hid loadSt
    have e : ∀ j, (hj : off + j < mem.length) → mem.getD (off + j) 0 = mem[off + j] := fun j hj => by simp [hj]
    rw [e 8 (by omega), e 9 (by omega), e 10 (by omega), e 11 (by omega), e 12 (by omega)]
  generalize mem[off + 8] = v8 at *
  generalize mem[off + 9] = v9 at *
  generalize mem[off + 10] = v10 at *
  generalize mem[off + 11] = v11 at *
  generalize mem[off + 12] = v12 at *
  have HA := hid hA
  have HM := hid hM
  have HSRC := hid hsrc
  have q1 := b9.1
  have q2 := b9.2
  have q3 := b10.1
  have q4 := b10.2
  have q5 := b11.1
  have q6 := b11.2
  clear hA hM hmb hsrc b9 b10 b11
  go_enter Tryz.func66, Tryz.ntmps66
  go_wp2_with fail
  obtain ⟨w1, hrun, hb1, hf1⟩ := run_copyF (P := Tryz.prog) w 35 35 3 33 b o 8 8 ⟨M, off, none⟩ 16 cap L T (wordCells ((mem.drop off).take 8)) Tryz.underlying35 (by kernel_rfl) HA.out.h h8c HSRC.out hfit hone
  rw [hrun]
  clear hrun
  rw [splice_regs L o s h8 hLl HA.out.c _ hr8] at hb1
  have hS1 : StAt w1 b o T (splice L o (stCells { s with regs := (mem.drop off).take 8 })) { s with regs := (mem.drop off).take 8 } := StAt.put hLl hr8 hb1
  have hM1 : ∀ j v, w.cell? ⟨M, j, none⟩ = some v → w1.cell? ⟨M, j, none⟩ = some v := fun j v hv => (World.cell?_of_block (hf1.block M (World.block_lt_of_cell? w _ hv) (Ne.symm hbM))).trans hv
  have n8 := hM1 _ _ m8
  have n9 := hM1 _ _ m9
  have n10 := hM1 _ _ m10
  have n11 := hM1 _ _ m11
  have n12 := hM1 _ _ m12
  have r8 : w1.cell? ⟨b, o + 8, none⟩ = some (.int .u32 s.place) := hS1.at hr8 0 (by omega)
  have r9 : w1.cell? ⟨b, o + 9, none⟩ = some (.int .i64 s.status) := hS1.at hr8 1 (by omega)
  have r10 : w1.cell? ⟨b, o + 10, none⟩ = some (.int .i64 s.cause) := hS1.at hr8 2 (by omega)
  have r11 : w1.cell? ⟨b, o + 11, none⟩ = some (.int .i64 s.busy) := hS1.at hr8 3 (by omega)
  have r12 : w1.cell? ⟨b, o + 12, none⟩ = some (.bool s.y) := hS1.at hr8 4 (by omega)
  have fb := row_frozen hb1
  have HS1 := hid hS1
  have HF1 := hid hf1
  have HR8 := hid hr8
  clear hb1 hf1 hM1 m8 m9 m10 m11 m12 h8c hfit hone hS1 hr8
  go_wp2_with fail
  go_end0
  refine ⟨rfl, ?_, ?_⟩
  · rw [HL.out]
    obtain ⟨r0, r1, r2, r3, r4, r5, r6, r7, hr⟩ := st13 { s with regs := (mem.drop off).take 8 } HR8.out
    simp only at hr
    have A1 := HS1.out
    rw [hr] at A1 ⊢
    have A2 := A1.set (s' := ⟨[r0, r1, r2, r3, r4, r5, r6, r7], v8, s.status, s.cause, s.busy, s.y⟩) 8 (by omega) (.int .u32 v8) rfl
    rw [splice_st L o _ _ rfl rfl hLl] at A2
    have A3 := A2.set (s' := ⟨[r0, r1, r2, r3, r4, r5, r6, r7], v8, v9, s.cause, s.busy, s.y⟩) 9 (by omega) (.int .i64 v9) rfl
    rw [splice_st L o _ _ rfl rfl hLl] at A3
    have A4 := A3.set (s' := ⟨[r0, r1, r2, r3, r4, r5, r6, r7], v8, v9, v10, s.busy, s.y⟩) 10 (by omega) (.int .i64 v10) rfl
    rw [splice_st L o _ _ rfl rfl hLl] at A4
    have A5 := A4.set (s' := ⟨[r0, r1, r2, r3, r4, r5, r6, r7], v8, v9, v10, v11, s.y⟩) 11 (by omega) (.int .i64 v11) rfl
    rw [splice_st L o _ _ rfl rfl hLl] at A5
    have A6 := A5.set (s' := ⟨[r0, r1, r2, r3, r4, r5, r6, r7], v8, v9, v10, v11, v12 != 0⟩) 12 (by omega) (.bool (v12 != 0)) rfl
    rw [splice_st L o _ _ rfl rfl hLl] at A6
    exact A6
  · exact ((((HF1.out.setCell (.inl rfl) _).setCell (.inl rfl) _).setCell (.inl rfl) _).setCell (.inl rfl) _).setCell (.inl rfl) _

end Go.Proofs.YthmcheoehcmglaaGreat
/- The processor's state in memory: Begin, Save, area. -/
namespace Go.Proofs.YthmcheoehcmglaaGreat
open Go.RowKit
set_option linter.unusedVariables false
attribute [local go_sem ↓] Go.wp_at_zero Go.wp_at_succ

set_option maxRecDepth 100000 in
set_option maxHeartbeats 1000000 in
theorem begin_any (p : Int) (w : World) :
    Calls Tryz.prog 73 #[.int .u32 p] w fun e w' => e = .returned (.agg #[.int .u32 0, .int .u32 0, .int .u32 0, .int .u32 0, .int .u32 0, .int .u32 0, .int .u32 0, .int .u32 0, .int .u32 p, .int .i64 0, .int .i64 0, .int .i64 0, .bool false]) ∧ Fr (fun _ => False) w w' := by
  go_enter Tryz.func73, Tryz.ntmps73
  go_wp2_with fail
  refine bodyPost_ret (v := .agg #[.int .u32 0, .int .u32 0, .int .u32 0, .int .u32 0, .int .u32 0, .int .u32 0, .int .u32 0, .int .u32 0, .int .u32 p, .int .i64 0, .int .i64 0, .int .i64 0, .bool false]) ?_ rfl ⟨rfl, ?_⟩
  · simp [results, Tryz.results73, go_sem]
  · exact (Fr.refl _ _).alloc _

set_option maxRecDepth 100000 in
set_option maxHeartbeats 1000000 in
theorem area_any (X M n k : Nat) (w : World) (c0 : w.cell? ⟨X, 0, none⟩ = some (.slice (some ⟨M, 0, none⟩) n n)) (hn : 32 + 16 * k ≤ n) (hn2 : n ≤ 1024) :
    Calls Tryz.prog 67 #[.pointer (some ⟨X, 0, none⟩), .int .i64 k] w fun e w' => e = .returned (.slice (some ⟨M, 16 + 16 * k, none⟩) 16 (n - (16 + 16 * k))) ∧ w' = w := by
  have hn3 : (32 : Int) + 16 * k ≤ n := by omega
  go_enter Tryz.func67, Tryz.ntmps67
  go_wp2_with (go_at_call 92; refine (area_num _ _ (by omega) (by omega)).mono ?_; rintro e w1 ⟨rfl, rfl⟩)
  go_ret
  exact ⟨by rw [show 16 + 16 * k + 16 - (16 + 16 * k) = 16 from by omega]; rfl, rfl⟩

end Go.Proofs.YthmcheoehcmglaaGreat
