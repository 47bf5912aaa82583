/- plan.Make. -/
import Derived.Test.YthmcheoehcmglaaW11
namespace Go.Proofs.Ythmcheoehcmglaa
open Go.RowKit
set_option linter.unusedVariables false
attribute [local go_sem ↓] Go.wp_at_zero Go.wp_at_succ

/-- What an image says. -/
structure Img where
  gap : Int
  mem : Int
  ws : List WardV
  wi : List (Int × Int)
  ow : List Int

def RegOk (r : Int × Int × Int × Int) : Prop := 0 ≤ r.1 ∧ r.1 ≤ 65535 ∧ 0 ≤ r.2.1 ∧ r.2.1 ≤ 65535 ∧ 0 ≤ r.2.2.1 ∧ r.2.2.1 ≤ 65535
def WardOk (x : WardV) : Prop := x.regs.length ≤ 3 ∧ (∀ r ∈ x.regs, RegOk r) ∧ 0 ≤ x.bg ∧ x.bg ≤ 65535 ∧ (∀ v ∈ x.prog, 0 ≤ v ∧ v < 4294967296) ∧ x.prog.length ≤ 65535
structure Img.Ok (m : Img) : Prop where
  l : m.ws.length ≤ 4
  li : m.wi.length ≤ 8
  lo : m.ow.length ≤ 8
  w : ∀ x ∈ m.ws, WardOk x
  m0 : 0 ≤ m.mem
  m1 : m.mem ≤ 1024

theorem rreg_ok (l : List UInt8) (bad : Bool) : RegOk (rreg l bad).1 := by
  have h1 := rdn_bd 2 (by omega) l bad
  have h2 := rreg_bd l bad
  have h3 := rdn_bd 2 (by omega) (rdn 2 (rdn 2 l bad).2.1 (rdn 2 l bad).2.2).2.1 (wth 1 65535 (rdn 2 (rdn 2 l bad).2.1 (rdn 2 l bad).2.2).1 (rdn 2 (rdn 2 l bad).2.1 (rdn 2 l bad).2.2).2.2).2
  have h1' := h1.2.2.1 (by omega)
  have h3' := h3.2.2.1 (by omega)
  unfold RegOk
  refine ⟨h1.1, ?_, h2.1, h2.2, h3.1, ?_⟩
  · show (rdn 2 l bad).1 ≤ 65535; omega
  · show (rdn 2 (rdn 2 (rdn 2 l bad).2.1 (rdn 2 l bad).2.2).2.1 (wth 1 65535 (rdn 2 (rdn 2 l bad).2.1 (rdn 2 l bad).2.2).1 (rdn 2 (rdn 2 l bad).2.1 (rdn 2 l bad).2.2).2.2).2).1 ≤ 65535; omega
theorem regsN_ok (k : Nat) (l : List UInt8) (bad : Bool) : ∀ r ∈ (regsN k l bad).1, RegOk r := by
  induction k with
  | zero => simp [regsN]
  | succ k ih =>
    intro r hr
    simp only [regsN, List.mem_append, List.mem_singleton] at hr
    rcases hr with hr | rfl
    · exact ih r hr
    · exact rreg_ok _ _
theorem wordsN_ok (k : Nat) (l : List UInt8) (bad : Bool) : ∀ v ∈ (wordsN k l bad).1, 0 ≤ v ∧ v < 4294967296 := by
  induction k with
  | zero => simp [wordsN]
  | succ k ih =>
    intro r hr
    simp only [wordsN, List.mem_append, List.mem_singleton] at hr
    rcases hr with hr | rfl
    · exact ih r hr
    · have := rdn_bd 4 (by omega) (wordsN k l bad).2.1 (wordsN k l bad).2.2
      exact ⟨this.1, this.2.1⟩
theorem rward_ok (l : List UInt8) (bad : Bool) : WardOk (rward l bad).1 := by
  have hq := wtail_q (whead l bad).1.1 (whead l bad).1.2.2 (whead l bad).1.2.1.toNat (whead l bad).2.1 (whead l bad).2.2
  have h3 : (whead l bad).1.2.1.toNat ≤ 3 := by
    have := wth_bd 1 3 (rdn 1 (rdn 1 l bad).2.1 (wth 1 64 (rdn 1 l bad).1 (rdn 1 l bad).2.2).2).1 (rdn 1 (rdn 1 l bad).2.1 (wth 1 64 (rdn 1 l bad).1 (rdn 1 l bad).2.2).2).2.2 (by omega) (by omega)
    show (wth 1 3 (rdn 1 (rdn 1 l bad).2.1 (wth 1 64 (rdn 1 l bad).1 (rdn 1 l bad).2.2).2).1 (rdn 1 (rdn 1 l bad).2.1 (wth 1 64 (rdn 1 l bad).1 (rdn 1 l bad).2.2).2).2.2).1.toNat ≤ 3
    omega
  have hbg : 0 ≤ (whead l bad).1.2.2 ∧ (whead l bad).1.2.2 ≤ 65535 := by
    have := rdn_bd 2 (by omega) (rdn 1 (rdn 1 l bad).2.1 (wth 1 64 (rdn 1 l bad).1 (rdn 1 l bad).2.2).2).2.1 (wth 1 3 (rdn 1 (rdn 1 l bad).2.1 (wth 1 64 (rdn 1 l bad).1 (rdn 1 l bad).2.2).2).1 (rdn 1 (rdn 1 l bad).2.1 (wth 1 64 (rdn 1 l bad).1 (rdn 1 l bad).2.2).2).2.2).2
    have h2 := this.2.2.1 (by omega)
    refine ⟨this.1, ?_⟩
    show (rdn 2 (rdn 1 (rdn 1 l bad).2.1 (wth 1 64 (rdn 1 l bad).1 (rdn 1 l bad).2.2).2).2.1 (wth 1 3 (rdn 1 (rdn 1 l bad).2.1 (wth 1 64 (rdn 1 l bad).1 (rdn 1 l bad).2.2).2).1 (rdn 1 (rdn 1 l bad).2.1 (wth 1 64 (rdn 1 l bad).1 (rdn 1 l bad).2.2).2).2.2).2).1 ≤ 65535
    omega
  unfold WardOk
  rw [show (rward l bad).1.bg = _ from hq.2]
  unfold rward
  generalize (whead l bad).1.2.1.toNat = n at *
  generalize (whead l bad).1.2.2 = bg at *
  generalize (whead l bad).1.1 = q at *
  generalize (whead l bad).2.1 = l2 at *
  generalize (whead l bad).2.2 = b2 at *
  unfold wtail
  split
  · exact ⟨by simp [regsN_len]; omega, regsN_ok _ _ _, hbg.1, hbg.2, by simp, by simp⟩
  · refine ⟨by simp [regsN_len]; omega, regsN_ok _ _ _, hbg.1, hbg.2, wordsN_ok _ _ _, ?_⟩
    have := rreg_words n l2 b2
    have h5 := wth_bd 0 (firstWords (regsN n l2 b2).1) (rdn 2 (regsN n l2 b2).2.1 false).1 (rdn 2 (regsN n l2 b2).2.1 false).2.2 (by omega) this.1
    simp only [wordsN_len]
    omega
theorem wardsN_ok (k : Nat) (l : List UInt8) (bad : Bool) : ∀ x ∈ (wardsN k l bad).1, WardOk x := by
  induction k with
  | zero => simp [wardsN]
  | succ k ih =>
    intro r hr
    simp only [wardsN, List.mem_append, List.mem_singleton] at hr
    rcases hr with hr | rfl
    · exact ih r hr
    · exact rward_ok _ _

/-- What the reader makes of a text: the image, and whether it is one. -/
def rhead (l : List UInt8) : (Int × Int × Int × Int × Int) × List UInt8 × Bool :=
  let x1 := rdn 1 l false
  let x2 := wth 1 4 x1.1 x1.2.2
  let x3 := rdn 1 x1.2.1 x2.2
  let x4 := wth 1 16 x3.1 x3.2.2
  let x5 := rdn 2 x3.2.1 x4.2
  let x6 := wth 64 1024 x5.1 x5.2.2
  let x7 := rdn 1 x5.2.1 x6.2
  let x8 := wth 0 8 x7.1 x7.2.2
  let x9 := rdn 1 x7.2.1 x8.2
  let x10 := wth 0 8 x9.1 x9.2.2
  ((x2.1, x4.1, x6.1, x8.1, x10.1), x9.2.1, x10.2)

def rimg (l : List UInt8) : Img × Bool :=
  let h := rhead l
  let y := wardsN h.1.1.toNat h.2.1 h.2.2
  let z := wiresN h.1.2.2.2.1.toNat y.2.1 y.2.2
  let u := ownersN h.1.2.2.2.2.toNat z.2.1 z.2.2
  (⟨h.1.2.1, h.1.2.2.1, y.1, z.1, u.1⟩, !u.2.2 && u.2.1.isEmpty)

theorem rhead_bd (l : List UInt8) : 0 ≤ (rhead l).1.1 ∧ (rhead l).1.1 ≤ 4 ∧ 0 ≤ (rhead l).1.2.2.2.1 ∧ (rhead l).1.2.2.2.1 ≤ 8 ∧ 0 ≤ (rhead l).1.2.2.2.2 ∧ (rhead l).1.2.2.2.2 ≤ 8 ∧ 0 ≤ (rhead l).1.2.2.1 ∧ (rhead l).1.2.2.1 ≤ 1024 := by
  unfold rhead
  refine ⟨(wth_bd _ _ _ _ (by omega) (by omega)).1, (wth_bd _ _ _ _ (by omega) (by omega)).2, (wth_bd _ _ _ _ (by omega) (by omega)).1, (wth_bd _ _ _ _ (by omega) (by omega)).2, (wth_bd _ _ _ _ (by omega) (by omega)).1, (wth_bd _ _ _ _ (by omega) (by omega)).2, (wth_bd _ _ _ _ (by omega) (by omega)).1, (wth_bd _ _ _ _ (by omega) (by omega)).2⟩

theorem rimg_ok (l : List UInt8) : (rimg l).1.Ok := by
  have h := rhead_bd l
  unfold rimg
  dsimp only
  generalize rhead l = x at *
  exact ⟨by simp [wardsN_len]; omega, by simp [wiresN_len]; omega, by simp [ownersN_len]; omega, wardsN_ok _ _ _, h.2.2.2.2.2.2.1, h.2.2.2.2.2.2.2⟩

/-- The value of a plan. -/
structure PlanVal (w : World) (base : Nat) (m : Img) (vW vI vO : Value) : Prop where
  ws : WardsAt w base vW m.ws
  wi : w.ownsRow base 143 2 vI m.wi.length (m.wi.flatMap wireCells)
  ow : w.ownsRow base 3 1 vO m.ow.length (m.ow.map (Value.int .i64))

theorem read_any (s : ByteArray) (hs : s.size ≤ maxLen) (w : World) :
    Calls Try.prog 35 #[.string s] w fun e w' =>
      ∃ vW vI vO, e = .returned (.tuple #[.agg #[.int .i64 (rimg s.data.toList).1.gap, .int .i64 (rimg s.data.toList).1.mem, vW, vI, vO], .bool (rimg s.data.toList).2]) ∧ Fr (fun _ => False) w w' ∧ PlanVal w' w.heap.size (rimg s.data.toList).1 vW vI vO := by
  have h := rhead_bd s.data.toList
  have key := read_core s hs w _ _ _ _ _ _ _ _ _ _ rfl rfl rfl rfl rfl rfl rfl rfl rfl rfl (rhead s.data.toList).1.1.toNat (rhead s.data.toList).1.2.2.2.1.toNat (rhead s.data.toList).1.2.2.2.2.toNat
    (show (rhead s.data.toList).1.1 = _ by omega) (show (rhead s.data.toList).1.2.2.2.1 = _ by omega) (show (rhead s.data.toList).1.2.2.2.2 = _ by omega) (by omega) (by omega) (by omega) _ _ _ rfl rfl rfl
  refine key.mono ?_
  rintro e w' ⟨vW, vI, vO, rfl, h1, h2, h3, h4⟩
  exact ⟨vW, vI, vO, rfl, h1, h2, h3, h4⟩

end Go.Proofs.Ythmcheoehcmglaa
