/- The reader's ward by its own spec; what a plan looks like in memory; plan.read. -/
import Derived.Test.YthmcheoehcmglaaGreatW4
namespace Go.Proofs.YthmcheoehcmglaaGreat
open Go.RowKit
set_option linter.unusedVariables false
attribute [local go_sem ↓] Go.wp_at_zero Go.wp_at_succ

theorem wtail_q (q bg : Int) (n : Nat) (l : List UInt8) (bad : Bool) : (wtail q bg n l bad).1.q = q ∧ (wtail q bg n l bad).1.bg = bg := by
  unfold wtail
  split <;> exact ⟨rfl, rfl⟩

theorem wth_ok (lo hi v : Int) (bad : Bool) (h : (wth lo hi v bad).2 = false) : bad = false ∧ lo ≤ v ∧ v ≤ hi ∧ (wth lo hi v bad).1 = v := by
  unfold wth at *
  split at h
  · cases h
  · rename_i hc
    cases bad
    · simp at hc
      refine ⟨rfl, by omega, by omega, ?_⟩
      rw [if_neg (by simp; omega)]
    · simp at hc

theorem ward_any (b : Nat) (l : List UInt8) (bad : Bool) (w : World) (h : Rd w b l bad) :
    Calls Tryz.prog 96 #[.pointer (some ⟨b, 0, none⟩)] w fun e w' =>
      ∃ vr vp, e = .returned (.agg #[.int .i64 (rward l bad).1.q, .int .u32 (rward l bad).1.bg, vr, vp]) ∧ Fr (fun i => i = b) w w' ∧ Rd w' b (rward l bad).2.1 (rward l bad).2.2 ∧
        w'.ownsRow w.heap.size 151 4 vr (rward l bad).1.regs.length ((rward l bad).1.regs.flatMap regCells) ∧
        w'.ownsRow w.heap.size 33 1 vp (rward l bad).1.prog.length ((rward l bad).1.prog.map (Value.int .u32)) := by
  have hb := wth_bd 1 3 (rdn 1 (rdn 1 l bad).2.1 (wth 1 64 (rdn 1 l bad).1 (rdn 1 l bad).2.2).2).1 (rdn 1 (rdn 1 l bad).2.1 (wth 1 64 (rdn 1 l bad).1 (rdn 1 l bad).2.2).2).2.2 (by omega) (by omega)
  have key := ward_core b l bad w h _ _ _ _ _ rfl rfl rfl rfl rfl (wth 1 3 (rdn 1 (rdn 1 l bad).2.1 (wth 1 64 (rdn 1 l bad).1 (rdn 1 l bad).2.2).2).1 (rdn 1 (rdn 1 l bad).2.1 (wth 1 64 (rdn 1 l bad).1 (rdn 1 l bad).2.2).2).2.2).1.toNat (by omega) (by omega) (fun hx => by
    generalize wth 1 64 (rdn 1 l bad).1 (rdn 1 l bad).2.2 = y at *
    generalize rdn 1 (rdn 1 l bad).2.1 y.2 = z at *
    have hz : (wth 1 3 z.1 z.2.2).2 = false := by
      cases hq : (wth 1 3 z.1 z.2.2).2
      · rfl
      · rw [hq, rdn_bad] at hx; cases hx
    have := wth_ok _ _ _ _ hz
    omega)
  refine key.mono ?_
  rintro e w' ⟨vr, vp, rfl, h1, h2, h3, h4⟩
  have hq := wtail_q (whead l bad).1.1 (whead l bad).1.2.2 (whead l bad).1.2.1.toNat (whead l bad).2.1 (whead l bad).2.2
  refine ⟨vr, vp, ?_, h1, h2, h3, h4⟩
  unfold rward
  rw [hq.1, hq.2]
  rfl

theorem Fr.owns1T {b : Nat} {w w' : World} (h : Fr (fun i => i = b) w w') {cs : Array Value} {t : TypeId} {fr : Nat × Nat} (hb : w.heap[b]? = some (.cells cs t fr)) {base e size n : Nat} {v : Value} {xs : List Value} (ho : w.ownsRow base e size v n xs) (hne : t ≠ e) : w'.ownsRow base e size v n xs :=
  h.owns ho (fun k hk (e' : k = b) => owns_ne ho hb hne (by rw [hk, e']))

/-- What the world w owns of element type e, w' owns too. -/
def Owns (w w' : World) (e : TypeId) : Prop := ∀ {base size n : Nat} {v : Value} {xs : List Value}, w.ownsRow base e size v n xs → w'.ownsRow base e size v n xs

def wardCells (x : WardV × Value × Value) : List Value := [.int .i64 x.1.q, .int .u32 x.1.bg, x.2.1, x.2.2]
def wireCells (x : Int × Int) : List Value := [.int .i64 x.1, .int .i64 x.2]

/-- The slice v holds the wards ws, with their regions and programs. -/
def WardsAt (w : World) (base : Nat) (v : Value) (ws : List WardV) : Prop :=
  ∃ xs : List (WardV × Value × Value), xs.map (·.1) = ws ∧ w.ownsRow base 148 4 v xs.length (xs.flatMap wardCells) ∧
    ∀ x ∈ xs, w.ownsRow base 151 4 x.2.1 x.1.regs.length (x.1.regs.flatMap regCells) ∧ w.ownsRow base 33 1 x.2.2 x.1.prog.length (x.1.prog.map (Value.int .u32))

theorem WardsAt.carry {w w' : World} {base : Nat} {v : Value} {ws : List WardV} (h : WardsAt w base v ws) (h1 : Owns w w' 148) (h2 : Owns w w' 151) (h3 : Owns w w' 33) : WardsAt w' base v ws := by
  obtain ⟨xs, e, ho, hx⟩ := h
  exact ⟨xs, e, h1 ho, fun x hm => ⟨h2 (hx x hm).1, h3 (hx x hm).2⟩⟩

theorem WardsAt.nil (w : World) (base : Nat) : WardsAt w base (.slice none 0 0) [] := ⟨[], rfl, World.ownsRow_nil _ _ _ _, by simp⟩

/-- k wards, wires, owners, one behind the other. -/
def wardsN : Nat → List UInt8 → Bool → List WardV × List UInt8 × Bool
  | 0, l, bad => ([], l, bad)
  | k + 1, l, bad => ((wardsN k l bad).1 ++ [(rward (wardsN k l bad).2.1 (wardsN k l bad).2.2).1], (rward (wardsN k l bad).2.1 (wardsN k l bad).2.2).2)
def wiresN : Nat → List UInt8 → Bool → List (Int × Int) × List UInt8 × Bool
  | 0, l, bad => ([], l, bad)
  | k + 1, l, bad => ((wiresN k l bad).1 ++ [(rwire (wiresN k l bad).2.1 (wiresN k l bad).2.2).1], (rwire (wiresN k l bad).2.1 (wiresN k l bad).2.2).2)
def ownersN : Nat → List UInt8 → Bool → List Int × List UInt8 × Bool
  | 0, l, bad => ([], l, bad)
  | k + 1, l, bad => ((ownersN k l bad).1 ++ [(rdn 1 (ownersN k l bad).2.1 (ownersN k l bad).2.2).1], (rdn 1 (ownersN k l bad).2.1 (ownersN k l bad).2.2).2)
theorem wardsN_len (k : Nat) (l : List UInt8) (bad : Bool) : (wardsN k l bad).1.length = k := by
  induction k with
  | zero => rfl
  | succ k ih => simp [wardsN, ih]
theorem wiresN_len (k : Nat) (l : List UInt8) (bad : Bool) : (wiresN k l bad).1.length = k := by
  induction k with
  | zero => rfl
  | succ k ih => simp [wiresN, ih]
theorem ownersN_len (k : Nat) (l : List UInt8) (bad : Bool) : (ownersN k l bad).1.length = k := by
  induction k with
  | zero => rfl
  | succ k ih => simp [ownersN, ih]

/-- A plan that is being read: its own block, the result's, the reader's; its wards, wires, owners. -/
structure PlanIn (w : World) (gap mem : Int) (ws : List WardV) (wi : List (Int × Int)) (ow : List Int) (l : List UInt8) (bad : Bool) (vW vI vO : Value) (wr : World) : Prop where
  g : wr.heap[w.heap.size + 2]? = some (.cells #[.int .i64 gap, .int .i64 mem, vW, vI, vO] 112 (0, 0))
  p : wr.heap[w.heap.size]? = some (.cells #[.int .i64 0, .int .i64 0, .slice none 0 0, .slice none 0 0, .slice none 0 0] 112 (0, 0))
  r : Rd wr (w.heap.size + 1) l bad
  ws : WardsAt wr w.heap.size vW ws
  wi : wr.ownsRow w.heap.size 177 2 vI wi.length (wi.flatMap wireCells)
  ow : wr.ownsRow w.heap.size 3 1 vO ow.length (ow.map (Value.int .i64))
  fr : Fr (fun _ => False) w wr
  sz : w.heap.size + 3 ≤ wr.heap.size

theorem slWard : SlT Tryz.prog 110 148 4 64 := SlT.mk' (z := .agg #[.int .i64 0, .int .u32 0, .slice none 0 0, .slice none 0 0]) Tryz.underlying110 (by kernel_rfl) rfl (by omega)
theorem slWire : SlT Tryz.prog 98 177 2 16 := SlT.mk' (z := .agg #[.int .i64 0, .int .i64 0]) Tryz.underlying98 (by kernel_rfl) rfl (by omega)
theorem slInt : SlT Tryz.prog 22 3 1 8 := SlT.mk' (z := .int .i64 0) Tryz.underlying22 (by kernel_rfl) rfl (by omega)

theorem rd_get {w : World} {b : Nat} {l : List UInt8} {bad : Bool} (h : Rd w b l bad) : w.heap[b]? = some (.cells #[.string h.choose, .bool bad] 175 (0, 0)) := h.choose_spec.2.2

/-- What the reader's call leaves of a plan that is being read. -/
theorem PlanIn.call {w wr w6 : World} {gap mem : Int} {ws : List WardV} {wi : List (Int × Int)} {ow : List Int} {l l' : List UInt8} {bad bad' : Bool} {vW vI vO : Value} (h : PlanIn w gap mem ws wi ow l bad vW vI vO wr)
    (hr : Rd w6 (w.heap.size + 1) l' bad') (hf : Fr (fun i => i = w.heap.size + 1) wr.drew w6) : PlanIn w gap mem ws wi ow l' bad' vW vI vO w6 := by
  obtain ⟨s, _, _, hb⟩ := h.r
  have hf' := hf.undrew
  have H : ∀ e, 175 ≠ e → Owns wr w6 e := fun e hne => fun ho => hf'.owns1T hb ho hne
  exact ⟨hf'.get1 h.g (by omega), hf'.get1 h.p (by omega), hr, h.ws.carry (H _ (by decide)) (H _ (by decide)) (H _ (by decide)), H _ (by decide) h.wi, H _ (by decide) h.ow,
    h.fr.step hf' (fun i hi => .inr (by omega)), Nat.le_trans h.sz hf'.size⟩

/-- What a new block leaves. -/
theorem PlanIn.alloc {w wr : World} {gap mem : Int} {ws : List WardV} {wi : List (Int × Int)} {ow : List Int} {l : List UInt8} {bad : Bool} {vW vI vO : Value} (h : PlanIn w gap mem ws wi ow l bad vW vI vO wr) (o : Obj) :
    PlanIn w gap mem ws wi ow l bad vW vI vO (wr.alloc o) :=
  ⟨get_alloc h.g o, get_alloc h.p o, h.r.alloc o, h.ws.carry (fun h => h.alloc o) (fun h => h.alloc o) (fun h => h.alloc o), h.wi.alloc o, h.ow.alloc o, h.fr.alloc o, le_alloc h.sz o⟩

theorem PlanIn.appW {w wa w7 : World} {gap mem : Int} {ws : List WardV} {wi : List (Int × Int)} {ow : List Int} {l : List UInt8} {bad : Bool} {vW vI vO v' : Value} (h : PlanIn w gap mem ws wi ow l bad vW vI vO wa)
    (xs : List (WardV × Value × Value)) (hxs : xs.map (·.1) = ws) (hown : wa.ownsRow w.heap.size 148 4 vW xs.length (xs.flatMap wardCells))
    (hx : ∀ x ∈ xs, wa.ownsRow w.heap.size 151 4 x.2.1 x.1.regs.length (x.1.regs.flatMap regCells) ∧ wa.ownsRow w.heap.size 33 1 x.2.2 x.1.prog.length (x.1.prog.map (Value.int .u32)))
    (x : WardV × Value × Value) (hx1 : wa.ownsRow w.heap.size 151 4 x.2.1 x.1.regs.length (x.1.regs.flatMap regCells)) (hx2 : wa.ownsRow w.heap.size 33 1 x.2.2 x.1.prog.length (x.1.prog.map (Value.int .u32)))
    (hown7 : w7.ownsRow w.heap.size 148 4 v' (xs.length + 1) (xs.flatMap wardCells ++ (wardCells x).toArray.toList)) (hf7 : Fr (fun i => vW.ownBlock = some i) wa w7) :
    PlanIn w gap mem (ws ++ [x.1]) wi ow l bad v' vI vO (w7.setCell ⟨w.heap.size + 2, 2, none⟩ v') := by
  have g7 := hf7.getT hown h.g (by decide)
  have p7 := hf7.getT hown h.p (by decide)
  have H : ∀ e, e ≠ 148 → Owns wa w7 e := fun e hne => fun ho => hf7.ownsT hown ho hne
  have K : ∀ e, 112 ≠ e → Owns w7 (w7.setCell ⟨w.heap.size + 2, 2, none⟩ v') e := fun e hne => fun ho => owns_setT ho g7 hne _
  have hr7 : Rd w7 (w.heap.size + 1) l bad := by
    obtain ⟨s, h1, h2, hb⟩ := h.r
    exact ⟨s, h1, h2, hf7.getT hown hb (by decide)⟩
  refine ⟨by rw [row_set g7]; simp, set_other p7 (by simp) _, hr7.set (by simp) _, ⟨xs ++ [x], by simp [hxs], ?_, ?_⟩, K _ (by decide) (H _ (by decide) h.wi), K _ (by decide) (H _ (by decide) h.ow), ?_, ?_⟩
  · have := K _ (by decide) hown7
    simpa using this
  · intro y hy
    rcases List.mem_append.1 hy with hy | hy
    · exact ⟨K _ (by decide) (H _ (by decide) (hx y hy).1), K _ (by decide) (H _ (by decide) (hx y hy).2)⟩
    · obtain rfl := List.mem_singleton.1 hy
      exact ⟨K _ (by decide) (H _ (by decide) hx1), K _ (by decide) (H _ (by decide) hx2)⟩
  · exact (h.fr.step hf7 (fun i hi => .inr (hown.lt i hi).1)).setCell (.inr (by simp)) _
  · have := hf7.size
    have := h.sz
    simp [World.setCell]
    omega

theorem PlanIn.appI {w wa w7 : World} {gap mem : Int} {ws : List WardV} {wi : List (Int × Int)} {ow : List Int} {l : List UInt8} {bad : Bool} {vW vI vO v' : Value} (h : PlanIn w gap mem ws wi ow l bad vW vI vO wa)
    (x : Int × Int) (hown7 : w7.ownsRow w.heap.size 177 2 v' (wi.length + 1) (wi.flatMap wireCells ++ (wireCells x).toArray.toList)) (hf7 : Fr (fun i => vI.ownBlock = some i) wa w7) :
    PlanIn w gap mem ws (wi ++ [x]) ow l bad vW v' vO (w7.setCell ⟨w.heap.size + 2, 3, none⟩ v') := by
  have hown := h.wi
  have g7 := hf7.getT hown h.g (by decide)
  have p7 := hf7.getT hown h.p (by decide)
  have H : ∀ e, e ≠ 177 → Owns wa w7 e := fun e hne => fun ho => hf7.ownsT hown ho hne
  have K : ∀ e, 112 ≠ e → Owns w7 (w7.setCell ⟨w.heap.size + 2, 3, none⟩ v') e := fun e hne => fun ho => owns_setT ho g7 hne _
  have hr7 : Rd w7 (w.heap.size + 1) l bad := by
    obtain ⟨s, h1, h2, hb⟩ := h.r
    exact ⟨s, h1, h2, hf7.getT hown hb (by decide)⟩
  refine ⟨by rw [row_set g7]; simp, set_other p7 (by simp) _, hr7.set (by simp) _, (h.ws.carry (H _ (by decide)) (H _ (by decide)) (H _ (by decide))).carry (K _ (by decide)) (K _ (by decide)) (K _ (by decide)), ?_, K _ (by decide) (H _ (by decide) h.ow), ?_, ?_⟩
  · have := K _ (by decide) hown7
    simpa using this
  · exact (h.fr.step hf7 (fun i hi => .inr (hown.lt i hi).1)).setCell (.inr (by simp)) _
  · have := hf7.size
    have := h.sz
    simp [World.setCell]
    omega

theorem PlanIn.appO {w wa w7 : World} {gap mem : Int} {ws : List WardV} {wi : List (Int × Int)} {ow : List Int} {l : List UInt8} {bad : Bool} {vW vI vO v' : Value} (h : PlanIn w gap mem ws wi ow l bad vW vI vO wa)
    (x : Int) (hown7 : w7.ownsRow w.heap.size 3 1 v' (ow.length + 1) (ow.map (Value.int .i64) ++ #[Value.int .i64 x].toList)) (hf7 : Fr (fun i => vO.ownBlock = some i) wa w7) :
    PlanIn w gap mem ws wi (ow ++ [x]) l bad vW vI v' (w7.setCell ⟨w.heap.size + 2, 4, none⟩ v') := by
  have hown := h.ow
  have g7 := hf7.getT hown h.g (by decide)
  have p7 := hf7.getT hown h.p (by decide)
  have H : ∀ e, e ≠ 3 → Owns wa w7 e := fun e hne => fun ho => hf7.ownsT hown ho hne
  have K : ∀ e, 112 ≠ e → Owns w7 (w7.setCell ⟨w.heap.size + 2, 4, none⟩ v') e := fun e hne => fun ho => owns_setT ho g7 hne _
  have hr7 : Rd w7 (w.heap.size + 1) l bad := by
    obtain ⟨s, h1, h2, hb⟩ := h.r
    exact ⟨s, h1, h2, hf7.getT hown hb (by decide)⟩
  refine ⟨by rw [row_set g7]; simp, set_other p7 (by simp) _, hr7.set (by simp) _, (h.ws.carry (H _ (by decide)) (H _ (by decide)) (H _ (by decide))).carry (K _ (by decide)) (K _ (by decide)) (K _ (by decide)), K _ (by decide) (H _ (by decide) h.wi), ?_, ?_, ?_⟩
  · have := K _ (by decide) hown7
    simpa using this
  · exact (h.fr.step hf7 (fun i hi => .inr (hown.lt i hi).1)).setCell (.inr (by simp)) _
  · have := hf7.size
    have := h.sz
    simp [World.setCell]
    omega

/-- A store of a number into the plan's own block. -/
theorem PlanIn.setG {w wr : World} {gap mem : Int} {ws : List WardV} {wi : List (Int × Int)} {ow : List Int} {l : List UInt8} {bad : Bool} {vW vI vO : Value} (h : PlanIn w gap mem ws wi ow l bad vW vI vO wr) (x : Int) :
    PlanIn w x mem ws wi ow l bad vW vI vO (wr.setCell ⟨w.heap.size + 2, 0, none⟩ (.int .i64 x)) ∧ PlanIn w gap x ws wi ow l bad vW vI vO (wr.setCell ⟨w.heap.size + 2, 1, none⟩ (.int .i64 x)) := by
  have K : ∀ j e, 112 ≠ e → Owns wr (wr.setCell ⟨w.heap.size + 2, j, none⟩ (.int .i64 x)) e := fun j e hne => fun ho => owns_setT ho h.g hne _
  constructor
  · exact ⟨by rw [row_set h.g]; simp, set_other h.p (by simp) _, h.r.set (by simp) _, h.ws.carry (K _ _ (by decide)) (K _ _ (by decide)) (K _ _ (by decide)), K _ _ (by decide) h.wi, K _ _ (by decide) h.ow, h.fr.setCell (.inr (by simp)) _, by simpa [World.setCell] using h.sz⟩
  · exact ⟨by rw [row_set h.g]; simp, set_other h.p (by simp) _, h.r.set (by simp) _, h.ws.carry (K _ _ (by decide)) (K _ _ (by decide)) (K _ _ (by decide)), K _ _ (by decide) h.wi, K _ _ (by decide) h.ow, h.fr.setCell (.inr (by simp)) _, by simpa [World.setCell] using h.sz⟩

end Go.Proofs.YthmcheoehcmglaaGreat
