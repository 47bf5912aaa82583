/- No two regions share anything. -/
import Derived.Test.YthmcheoehcmglaaGreatW10
import Derived.Test.YthmcheoehcmglaaGreatK2
import Derived.Test.YthmcheoehcmglaaGreatK1
import Derived.Deep.MidRow
namespace Go.Proofs.YthmcheoehcmglaaGreat
open Go.RowKit
set_option linter.unusedVariables false
attribute [local go_sem ↓] Go.wp_at_zero Go.wp_at_succ

theorem owns_cap {w : World} {base e size n g cap : Nat} {xs : List Value} (h : w.ownsRow base e size (.slice (some ⟨g, 0, none⟩) n cap) n xs) : n ≤ cap ∧ cap ≤ 9223372036854775807 := by
  rcases h.2 with ⟨h1, _⟩ | ⟨g', cap', cur, h1, _, _, h2, h3, _⟩
  · simp at h1
  · simp only [Value.slice.injEq] at h1
    unfold maxLen at h3
    omega

set_option maxRecDepth 100000 in
set_option maxHeartbeats 4000000 in
theorem regionsApart_any (G base : Nat) (w : World) {gap mem : Int} {ws : List WardV} {wi : List (Int × Int)} {ow : List Int} {vW vI vO : Value} (h : PlanAt w G base gap mem ws wi ow vW vI vO) (hl : ws.length ≤ 4) (h3 : ∀ x ∈ ws, x.regs.length ≤ 3)
    (hok : ∀ x ∈ ws, ∀ r ∈ x.regs, 0 ≤ r.1 ∧ r.1 ≤ 65535 ∧ 0 ≤ r.2.1 ∧ r.2.1 ≤ 65535 ∧ 0 ≤ r.2.2.1 ∧ r.2.2.1 ≤ 65535) :
    Calls Tryz.prog 70 #[.pointer (some ⟨G, 0, none⟩)] w fun e w' => e = .returned (.bool (apartN (ownedN ws ws.length) (ownedN ws ws.length).length)) ∧ Fr (fun _ => False) w w' := by
  have HOK := hid (ownedN_ok ws hok ws.length)
  have HNL := hid (ownedN_len ws 3 h3 ws.length)
  have HH := hid h
  have H3 := hid h3
  clear h h3 hok
  go_enter Tryz.func70, Tryz.ntmps70
  go_wp2_with fail
  refine (regions_any G base _ HH.out hl H3.out).mono ?_
  rintro e w1 ⟨v, rfl, hown, hF⟩
  have hown' := owns_base hown (Nat.zero_le _)
  clear hown
  obtain ⟨al, cl, rfl⟩ := owns_shape hown'
  have HOWN := hid hown'
  clear hown'
  generalize hL : ownedN ws ws.length = L at *
  have hLl : L.length ≤ 12 := by have := HNL.out; omega
  have HL := hid hL
  clear hL HNL
  go_wp2_with fail
  go_loopw [12] (fun i wr => ∃ k : Nat, k ≤ L.length ∧ i = .int .i64 k ∧ apartN L k = true ∧ Fr (fun _ => False) w1 wr) (fun i _ => L.length - (intOf i).toNat)
  case atStart => exact ⟨0, Nat.zero_le _, rfl, by simp [apartN], Fr.refl _ _⟩
  case round =>
    obtain ⟨k, hk, rfl, hall, hFr⟩ := hrel
    have HA := hid hall
    clear hall
    by_cases hlt : k < L.length
    · have ho := hFr.ownsF _ HOWN.out
      obtain ⟨gv, cp, hv, -, -⟩ := ho.form (by omega)
      simp only [Value.slice.injEq] at hv
      obtain ⟨rfl, -, rfl⟩ := hv
      have hcap := owns_cap ho
      have hcell : ∀ c', c' < 5 → wr.cell? ⟨gv, k * 5 + c', none⟩ = (ownCells L[k])[c']? := by
        intro c' hc'
        rw [ho.cellAt (k * 5 + c') (by omega), flat_get ownCells 5 (fun _ => rfl) L k c' hlt hc']
      have d0 : wr.cell? ⟨gv, k * 5, none⟩ = some (.int .i64 L[k].1.1) := hcell 0 (by omega)
      have d1 : wr.cell? ⟨gv, k * 5 + 1, none⟩ = some (.int .i64 L[k].1.2.1) := hcell 1 (by omega)
      have d2 : wr.cell? ⟨gv, k * 5 + 2, none⟩ = some (.int .i64 L[k].1.2.2.1) := hcell 2 (by omega)
      have d3 : wr.cell? ⟨gv, k * 5 + 3, none⟩ = some (.int .i64 L[k].1.2.2.2) := hcell 3 (by omega)
      have d4 : wr.cell? ⟨gv, k * 5 + 4, none⟩ = some (.int .i64 L[k].2) := hcell 4 (by omega)
      have hcap1 := hcap.1
      have hcap2 := hcap.2
      have hkc : k ≤ cl := by omega
      have hKI : (k : Int) ≤ (cl : Int) := by omega
      have HOA := hid (HOK.out L[k] (List.getElem_mem hlt))
      have HSU := hid (apartN_succ L k hlt)
      have HNO := hid (fun j hj => apartN_false L k j hlt hj)
      generalize hrk : L[k] = rk at *
      clear hcell ho hrk hcap
      go_wp2_with fail
      have HFo : ∀ o, Fr (fun _ => False) w1 (wr.alloc o) := fun o => hFr.alloc o
      have HFo2 := hid HFo
      have HFr := hid hFr
      clear HFo hFr d0 d1 d2 d3 d4
      rename World => wo
      go_loopw [21] (fun i wq => ∃ j : Nat, j ≤ k ∧ i = .int .i64 j ∧ ((L.take j).all fun b => !(shAddr rk b || shWord rk b)) = true ∧ Fr (fun _ => False) (wo.alloc (.cells #[.int .i64 rk.1.1, .int .i64 rk.1.2.1, .int .i64 rk.1.2.2.1, .int .i64 rk.1.2.2.2, .int .i64 rk.2] 183)) wq) (fun i _ => k - (intOf i).toNat)
      case atStart => exact ⟨0, Nat.zero_le _, rfl, by simp, Fr.refl _ _⟩
      case round =>
        obtain ⟨j, hj, rfl, hall, hFq⟩ := hrel
        have HB := hid hall
        clear hall
        have hFw : Fr (fun _ => False) w1 wr := (HFo2.out _).step hFq (fun _ h => .inl h)
        by_cases hjk : j < k
        · have ho := hFw.ownsF _ HOWN.out
          have hjl : j < L.length := by omega
          have hcell : ∀ c', c' < 5 → wr.cell? ⟨gv, j * 5 + c', none⟩ = (ownCells L[j])[c']? := by
            intro c' hc'
            rw [ho.cellAt (j * 5 + c') (by omega), flat_get ownCells 5 (fun _ => rfl) L j c' hjl hc']
          have d0 : wr.cell? ⟨gv, j * 5, none⟩ = some (.int .i64 L[j].1.1) := hcell 0 (by omega)
          have d1 : wr.cell? ⟨gv, j * 5 + 1, none⟩ = some (.int .i64 L[j].1.2.1) := hcell 1 (by omega)
          have d2 : wr.cell? ⟨gv, j * 5 + 2, none⟩ = some (.int .i64 L[j].1.2.2.1) := hcell 2 (by omega)
          have d3 : wr.cell? ⟨gv, j * 5 + 3, none⟩ = some (.int .i64 L[j].1.2.2.2) := hcell 3 (by omega)
          have d4 : wr.cell? ⟨gv, j * 5 + 4, none⟩ = some (.int .i64 L[j].2) := hcell 4 (by omega)
          have HOB := hid (HOK.out L[j] (List.getElem_mem hjl))
          have HAT := hid (all_take (fun b => !(shAddr rk b || shWord rk b)) L j hjl)
          have HNJ := hid (HNO.out j hjk)
          have gA := hFq.get (heap_new wo _) id
          have HGA : ∀ o, ((wr.alloc o).heap[wo.heap.size]?) = _ := fun o => get_alloc gA o
          have cA0 := row_cell (HGA (.cells #[.int .i64 L[j].1.1, .int .i64 L[j].1.2.1, .int .i64 L[j].1.2.2.1, .int .i64 L[j].1.2.2.2, .int .i64 L[j].2] 183))
          generalize hrj : L[j] = rj at *
          clear hcell ho hrj gA
          have HGA2 := hid HGA
          have HFQ := hid hFq
          have HFW := hid hFw
          clear HGA hFq hFw
          go_wp2_with fail
          refine (sharesAddress_any rk rj _ HOA.out HOB.out).mono ?_
          rintro e w2 ⟨rfl, hf2⟩
          have hFw2 := ((HFQ.out.alloc _).step hf2 (fun _ h => .inl h))
          cases h1 : shAddr rk rj
          · have gA2 := hf2.get (HGA2.out _) id
            have gB2 := hf2.get (heap_new wr _) id
            have cA2 := row_cell gA2
            have cB2 := row_cell gB2
            clear gA2 gB2 cA0 d0 d1 d2 d3 d4 hf2
            have HFW2 := hid hFw2
            clear hFw2
            go_wp2_with fail
            refine (sharesWord_any rk rj _ HOA.out HOB.out).mono ?_
            rintro e w3 ⟨rfl, hf3⟩
            have HFW3 := hid (HFW2.out.step hf3 (fun _ h => .inl h))
            clear hf3 cA2 cB2
            cases h2 : shWord rk rj
            · have HE : Hid ((!(shAddr rk rj || shWord rk rj)) = true) := by simp [Hid, h1, h2]
              go_wp2_with fail
              go_roundw
              case rel => exact ⟨j + 1, by omega, by go_num, by rw [HAT.out, HB.out, HE.out]; rfl, HFW3.out⟩
              case measure => simp [intOf]; omega
            · have HE : Hid ((shAddr rk rj || shWord rk rj) = true) := by simp [Hid, h1, h2]
              go_wp2_with fail
              go_ret
              exact ⟨ret_bool (by rw [HL.out]; exact HNJ.out HE.out), hF.step ((HFo2.out _).step HFW3.out (fun _ h => .inl h)) (fun _ h => .inl h)⟩
          · have HE : Hid ((shAddr rk rj || shWord rk rj) = true) := by simp [Hid, h1]
            have HFW2 := hid hFw2
            clear hFw2 hf2 cA0 d0 d1 d2 d3 d4
            go_wp2_with fail
            go_ret
            exact ⟨ret_bool (by rw [HL.out]; exact HNJ.out HE.out), hF.step ((HFo2.out _).step HFW2.out (fun _ h => .inl h)) (fun _ h => .inl h)⟩
        · obtain rfl : j = k := by omega
          have HFW := hid hFw
          clear hFw hFq
          go_wp2_with fail
          go_roundw
          case rel => exact ⟨j + 1, by omega, by go_num, by rw [HSU.out, HA.out, HB.out]; rfl, HFW.out⟩
          case measure => simp [intOf]; omega
    · obtain rfl : k = L.length := by omega
      go_wp2_with fail
      go_ret
      refine ⟨ret_bool ?_, hF.step hFr (fun _ h => .inl h)⟩
      rw [HL.out]
      exact HA.out.symm

end Go.Proofs.YthmcheoehcmglaaGreat
/- plan.Make. -/
namespace Go.Proofs.YthmcheoehcmglaaGreat
open Go.RowKit
set_option linter.unusedVariables false
attribute [local go_sem ↓] Go.wp_at_zero Go.wp_at_succ

/-- What an image says. -/
structure Img where
  gap : Int
  mem : Int
  ws : List WardV
  wi : List (Int × Int)
  ow : List Int

def RegOk (r : Int × Int × Int × Int) : Prop := 0 ≤ r.1 ∧ r.1 ≤ 65535 ∧ 0 ≤ r.2.1 ∧ r.2.1 ≤ 65535 ∧ 0 ≤ r.2.2.1 ∧ r.2.2.1 ≤ 65535
def WardOk (x : WardV) : Prop := x.regs.length ≤ 3 ∧ (∀ r ∈ x.regs, RegOk r) ∧ 0 ≤ x.bg ∧ x.bg ≤ 65535 ∧ (∀ v ∈ x.prog, 0 ≤ v ∧ v < 4294967296) ∧ x.prog.length ≤ 65535
structure Img.Ok (m : Img) : Prop where
  l : m.ws.length ≤ 4
  li : m.wi.length ≤ 8
  lo : m.ow.length ≤ 8
  w : ∀ x ∈ m.ws, WardOk x
  m0 : 0 ≤ m.mem
  m1 : m.mem ≤ 1024

theorem rreg_ok (l : List UInt8) (bad : Bool) : RegOk (rreg l bad).1 := by
  have h1 := rdn_bd 2 (by omega) l bad
  have h2 := rreg_bd l bad
  have h3 := rdn_bd 2 (by omega) (rdn 2 (rdn 2 l bad).2.1 (rdn 2 l bad).2.2).2.1 (wth 1 65535 (rdn 2 (rdn 2 l bad).2.1 (rdn 2 l bad).2.2).1 (rdn 2 (rdn 2 l bad).2.1 (rdn 2 l bad).2.2).2.2).2
  have h1' := h1.2.2.1 (by omega)
  have h3' := h3.2.2.1 (by omega)
  unfold RegOk
  refine ⟨h1.1, ?_, h2.1, h2.2, h3.1, ?_⟩
  · show (rdn 2 l bad).1 ≤ 65535; omega
  · show (rdn 2 (rdn 2 (rdn 2 l bad).2.1 (rdn 2 l bad).2.2).2.1 (wth 1 65535 (rdn 2 (rdn 2 l bad).2.1 (rdn 2 l bad).2.2).1 (rdn 2 (rdn 2 l bad).2.1 (rdn 2 l bad).2.2).2.2).2).1 ≤ 65535; omega
theorem regsN_ok (k : Nat) (l : List UInt8) (bad : Bool) : ∀ r ∈ (regsN k l bad).1, RegOk r := by
  induction k with
  | zero => simp [regsN]
  | succ k ih =>
    intro r hr
    simp only [regsN, List.mem_append, List.mem_singleton] at hr
    rcases hr with hr | rfl
    · exact ih r hr
    · exact rreg_ok _ _
theorem wordsN_ok (k : Nat) (l : List UInt8) (bad : Bool) : ∀ v ∈ (wordsN k l bad).1, 0 ≤ v ∧ v < 4294967296 := by
  induction k with
  | zero => simp [wordsN]
  | succ k ih =>
    intro r hr
    simp only [wordsN, List.mem_append, List.mem_singleton] at hr
    rcases hr with hr | rfl
    · exact ih r hr
    · have := rdn_bd 4 (by omega) (wordsN k l bad).2.1 (wordsN k l bad).2.2
      exact ⟨this.1, this.2.1⟩
theorem rward_ok (l : List UInt8) (bad : Bool) : WardOk (rward l bad).1 := by
  have hq := wtail_q (whead l bad).1.1 (whead l bad).1.2.2 (whead l bad).1.2.1.toNat (whead l bad).2.1 (whead l bad).2.2
  have h3 : (whead l bad).1.2.1.toNat ≤ 3 := by
    have := wth_bd 1 3 (rdn 1 (rdn 1 l bad).2.1 (wth 1 64 (rdn 1 l bad).1 (rdn 1 l bad).2.2).2).1 (rdn 1 (rdn 1 l bad).2.1 (wth 1 64 (rdn 1 l bad).1 (rdn 1 l bad).2.2).2).2.2 (by omega) (by omega)
    show (wth 1 3 (rdn 1 (rdn 1 l bad).2.1 (wth 1 64 (rdn 1 l bad).1 (rdn 1 l bad).2.2).2).1 (rdn 1 (rdn 1 l bad).2.1 (wth 1 64 (rdn 1 l bad).1 (rdn 1 l bad).2.2).2).2.2).1.toNat ≤ 3
    omega
  have hbg : 0 ≤ (whead l bad).1.2.2 ∧ (whead l bad).1.2.2 ≤ 65535 := by
    have := rdn_bd 2 (by omega) (rdn 1 (rdn 1 l bad).2.1 (wth 1 64 (rdn 1 l bad).1 (rdn 1 l bad).2.2).2).2.1 (wth 1 3 (rdn 1 (rdn 1 l bad).2.1 (wth 1 64 (rdn 1 l bad).1 (rdn 1 l bad).2.2).2).1 (rdn 1 (rdn 1 l bad).2.1 (wth 1 64 (rdn 1 l bad).1 (rdn 1 l bad).2.2).2).2.2).2
    have h2 := this.2.2.1 (by omega)
    refine ⟨this.1, ?_⟩
    show (rdn 2 (rdn 1 (rdn 1 l bad).2.1 (wth 1 64 (rdn 1 l bad).1 (rdn 1 l bad).2.2).2).2.1 (wth 1 3 (rdn 1 (rdn 1 l bad).2.1 (wth 1 64 (rdn 1 l bad).1 (rdn 1 l bad).2.2).2).1 (rdn 1 (rdn 1 l bad).2.1 (wth 1 64 (rdn 1 l bad).1 (rdn 1 l bad).2.2).2).2.2).2).1 ≤ 65535
    omega
  unfold WardOk
  rw [show (rward l bad).1.bg = _ from hq.2]
  unfold rward
  generalize (whead l bad).1.2.1.toNat = n at *
  generalize (whead l bad).1.2.2 = bg at *
  generalize (whead l bad).1.1 = q at *
  generalize (whead l bad).2.1 = l2 at *
  generalize (whead l bad).2.2 = b2 at *
  unfold wtail
  split
  · exact ⟨by simp [regsN_len]; omega, regsN_ok _ _ _, hbg.1, hbg.2, by simp, by simp⟩
  · refine ⟨by simp [regsN_len]; omega, regsN_ok _ _ _, hbg.1, hbg.2, wordsN_ok _ _ _, ?_⟩
    have := rreg_words n l2 b2
    have h5 := wth_bd 0 (firstWords (regsN n l2 b2).1) (rdn 2 (regsN n l2 b2).2.1 false).1 (rdn 2 (regsN n l2 b2).2.1 false).2.2 (by omega) this.1
    simp only [wordsN_len]
    omega
theorem wardsN_ok (k : Nat) (l : List UInt8) (bad : Bool) : ∀ x ∈ (wardsN k l bad).1, WardOk x := by
  induction k with
  | zero => simp [wardsN]
  | succ k ih =>
    intro r hr
    simp only [wardsN, List.mem_append, List.mem_singleton] at hr
    rcases hr with hr | rfl
    · exact ih r hr
    · exact rward_ok _ _

/-- What the reader makes of a text: the image, and whether it is one. -/
def rhead (l : List UInt8) : (Int × Int × Int × Int × Int) × List UInt8 × Bool :=
  let x1 := rdn 1 l false
  let x2 := wth 1 4 x1.1 x1.2.2
  let x3 := rdn 1 x1.2.1 x2.2
  let x4 := wth 1 16 x3.1 x3.2.2
  let x5 := rdn 2 x3.2.1 x4.2
  let x6 := wth 64 1024 x5.1 x5.2.2
  let x7 := rdn 1 x5.2.1 x6.2
  let x8 := wth 0 8 x7.1 x7.2.2
  let x9 := rdn 1 x7.2.1 x8.2
  let x10 := wth 0 8 x9.1 x9.2.2
  ((x2.1, x4.1, x6.1, x8.1, x10.1), x9.2.1, x10.2)

def rimg (l : List UInt8) : Img × Bool :=
  let h := rhead l
  let y := wardsN h.1.1.toNat h.2.1 h.2.2
  let z := wiresN h.1.2.2.2.1.toNat y.2.1 y.2.2
  let u := ownersN h.1.2.2.2.2.toNat z.2.1 z.2.2
  (⟨h.1.2.1, h.1.2.2.1, y.1, z.1, u.1⟩, !u.2.2 && u.2.1.isEmpty)

theorem rhead_bd (l : List UInt8) : 0 ≤ (rhead l).1.1 ∧ (rhead l).1.1 ≤ 4 ∧ 0 ≤ (rhead l).1.2.2.2.1 ∧ (rhead l).1.2.2.2.1 ≤ 8 ∧ 0 ≤ (rhead l).1.2.2.2.2 ∧ (rhead l).1.2.2.2.2 ≤ 8 ∧ 0 ≤ (rhead l).1.2.2.1 ∧ (rhead l).1.2.2.1 ≤ 1024 := by
  unfold rhead
  refine ⟨(wth_bd _ _ _ _ (by omega) (by omega)).1, (wth_bd _ _ _ _ (by omega) (by omega)).2, (wth_bd _ _ _ _ (by omega) (by omega)).1, (wth_bd _ _ _ _ (by omega) (by omega)).2, (wth_bd _ _ _ _ (by omega) (by omega)).1, (wth_bd _ _ _ _ (by omega) (by omega)).2, (wth_bd _ _ _ _ (by omega) (by omega)).1, (wth_bd _ _ _ _ (by omega) (by omega)).2⟩

theorem rimg_ok (l : List UInt8) : (rimg l).1.Ok := by
  have h := rhead_bd l
  unfold rimg
  dsimp only
  generalize rhead l = x at *
  exact ⟨by simp [wardsN_len]; omega, by simp [wiresN_len]; omega, by simp [ownersN_len]; omega, wardsN_ok _ _ _, h.2.2.2.2.2.2.1, h.2.2.2.2.2.2.2⟩

/-- The value of a plan. -/
structure PlanVal (w : World) (base : Nat) (m : Img) (vW vI vO : Value) : Prop where
  ws : WardsAt w base vW m.ws
  wi : w.ownsRow base 177 2 vI m.wi.length (m.wi.flatMap wireCells)
  ow : w.ownsRow base 3 1 vO m.ow.length (m.ow.map (Value.int .i64))

theorem read_any (s : ByteArray) (hs : s.size ≤ maxLen) (w : World) :
    Calls Tryz.prog 68 #[.string s] w fun e w' =>
      ∃ vW vI vO, e = .returned (.tuple #[.agg #[.int .i64 (rimg s.data.toList).1.gap, .int .i64 (rimg s.data.toList).1.mem, vW, vI, vO], .bool (rimg s.data.toList).2]) ∧ Fr (fun _ => False) w w' ∧ PlanVal w' w.heap.size (rimg s.data.toList).1 vW vI vO := by
  have h := rhead_bd s.data.toList
  have key := read_core s hs w _ _ _ _ _ _ _ _ _ _ rfl rfl rfl rfl rfl rfl rfl rfl rfl rfl (rhead s.data.toList).1.1.toNat (rhead s.data.toList).1.2.2.2.1.toNat (rhead s.data.toList).1.2.2.2.2.toNat
    (show (rhead s.data.toList).1.1 = _ by omega) (show (rhead s.data.toList).1.2.2.2.1 = _ by omega) (show (rhead s.data.toList).1.2.2.2.2 = _ by omega) (by omega) (by omega) (by omega) _ _ _ rfl rfl rfl
  refine key.mono ?_
  rintro e w' ⟨vW, vI, vO, rfl, h1, h2, h3, h4⟩
  exact ⟨vW, vI, vO, rfl, h1, h2, h3, h4⟩

end Go.Proofs.YthmcheoehcmglaaGreat
/- What the reader makes of the statements' images. -/
namespace Go.Proofs.YthmcheoehcmglaaGreat
open Go.RowKit
set_option linter.unusedVariables false

theorem byteN_nat (v : Int) : ((byteN v).toNat : Int) = v % 256 := by
  unfold byteN
  rw [UInt8.toNat_ofNat']
  omega
theorem be1 (v : Int) : be (lowB v 1) = v % 256 := by
  simp only [lowB, be, List.foldl_cons, List.foldl_nil, byteN_nat]
  simp
theorem be2 (v : Int) : be (lowB v 2) = v % 65536 := by
  simp only [lowB, be, List.foldl_cons, List.foldl_nil, byteN_nat]
  simp
  omega
theorem be4 (v : Int) : be (lowB v 4) = v % 4294967296 := by
  simp only [lowB, be, List.foldl_cons, List.foldl_nil, byteN_nat]
  simp
  omega
theorem rdn_app (n : Nat) (v : Int) (r : List UInt8) : rdn n (lowB v n ++ r) false = (be (lowB v n), r, false) := by
  unfold rdn
  have hl := lowB_len v n
  rw [if_neg (by simp; omega), List.take_append_of_le_length (by omega), List.take_of_length_le (by omega), List.drop_append_of_le_length (by omega), List.drop_of_length_le (by omega), List.nil_append]
theorem rdn1 (v : Int) (r : List UInt8) : rdn 1 (lowB v 1 ++ r) false = (v % 256, r, false) := by rw [rdn_app, be1]
theorem rdn2 (v : Int) (r : List UInt8) : rdn 2 (lowB v 2 ++ r) false = (v % 65536, r, false) := by rw [rdn_app, be2]
theorem rdn4 (v : Int) (r : List UInt8) : rdn 4 (lowB v 4 ++ r) false = (v % 4294967296, r, false) := by rw [rdn_app, be4]
theorem wthY (lo hi v : Int) (h1 : lo ≤ v) (h2 : v ≤ hi) : wth lo hi v false = (v, false) := by
  unfold wth
  rw [if_neg (by simp; omega)]

theorem words_app (W : List Int) (r : List UInt8) : ∀ j, j ≤ W.length → wordsN j (W.flatMap (fun x => lowB x 4) ++ r) false = ((W.take j).map (· % 4294967296), (W.drop j).flatMap (fun x => lowB x 4) ++ r, false) := by
  intro j
  induction j with
  | zero => intro _; simp [wordsN]
  | succ j ih =>
    intro hj
    have h1 := ih (by omega)
    have h2 : W.drop j = W[j] :: W.drop (j + 1) := List.drop_eq_getElem_cons (by omega)
    simp only [wordsN, h1, h2, List.flatMap_cons, List.append_assoc, rdn4]
    rw [List.take_succ_eq_append_getElem (by omega), List.map_append]
    rfl

def wardOf (K : Int) (k : Nat) (q : Int) (ws : List Int) : WardV := ⟨withinM q 1 64, 0, [(0, 64, K + 64 * k, 7)], (ws.take 64).map (· % 4294967296)⟩

theorem rward_app (K : Int) (k : Nat) (q : Int) (ws : List Int) (r : List UInt8) (h0 : 0 ≤ K + 64 * k) (h1 : K + 64 * k < 65536) : rward (wardB K k q ws ++ r) false = (wardOf K k q ws, r, false) := by
  have hq := withinM_bd q 1 64 (by omega)
  have hl : (ws.take 64).length ≤ 64 := by rw [List.length_take]; omega
  have hw : whead (wardB K k q ws ++ r) false = ((withinM q 1 64, 1, 0), lowB 0 2 ++ (lowB 64 2 ++ (lowB (K + 64 * k) 2 ++ (lowB 7 1 ++ (lowB ((ws.take 64).length : Nat) 2 ++ ((ws.take 64).flatMap (fun x => lowB x 4) ++ r))))), false) := by
    unfold whead wardB
    simp only [List.append_assoc, rdn1]
    rw [wthY 1 64 _ (by omega) (by omega)]
    simp only [rdn1]
    rw [wthY 1 3 _ (by omega) (by omega)]
    simp only [rdn2]
    rw [Int.emod_eq_of_lt (by omega) (by omega)]
    rfl
  have hr : rreg (lowB 0 2 ++ (lowB 64 2 ++ (lowB (K + 64 * k) 2 ++ (lowB 7 1 ++ (lowB ((ws.take 64).length : Nat) 2 ++ ((ws.take 64).flatMap (fun x => lowB x 4) ++ r)))))) false = ((0, 64, K + 64 * k, 7), lowB ((ws.take 64).length : Nat) 2 ++ ((ws.take 64).flatMap (fun x => lowB x 4) ++ r), false) := by
    unfold rreg
    simp only [rdn2]
    rw [wthY 1 65535 _ (by omega) (by omega)]
    simp only [rdn2, rdn1]
    rw [wthY 1 7 _ (by omega) (by omega), Int.emod_eq_of_lt h0 h1]
    rfl
  unfold rward
  rw [hw]
  unfold wtail
  have e1 : (1 : Int).toNat = 1 := rfl
  simp only [e1, regsN, List.nil_append, hr]
  rw [if_neg (by simp)]
  simp only [rdn2, firstWords]
  have hlen : (((ws.take 64).length : Nat) : Int) % 65536 = ((ws.take 64).length : Nat) := by omega
  rw [hlen, wthY 0 _ _ (by omega) (by simp only [List.getD_eq_getElem?_getD, List.getElem?_cons_zero, Option.getD_some]; omega)]
  simp only [Int.toNat_natCast]
  rw [words_app _ _ _ (Nat.le_refl _)]
  simp only [List.take_length, List.drop_length, List.flatMap_nil, List.nil_append]
  rfl

theorem wards_app (K : Int) (l : List (Int × List Int)) (n : Nat) (hn : n ≤ 4) (h0 : 0 ≤ K) (h1 : K < 1000) (r : List UInt8) : ∀ j, j ≤ n → wardsN j ((List.range n).flatMap (fun k : Nat => wardB K k (l.getD k (0, [])).1 (l.getD k (0, [])).2) ++ r) false = ((List.range j).map (fun k : Nat => wardOf K k (l.getD k (0, [])).1 (l.getD k (0, [])).2), ((List.range n).drop j).flatMap (fun k : Nat => wardB K k (l.getD k (0, [])).1 (l.getD k (0, [])).2) ++ r, false) := by
  intro j
  induction j with
  | zero => intro _; simp [wardsN]
  | succ j ih =>
    intro hj
    have h2 := ih (by omega)
    have h3 : (List.range n).drop j = j :: (List.range n).drop (j + 1) := by
      rw [List.drop_eq_getElem_cons (by simp; omega)]
      simp
    simp only [wardsN, h2, h3, List.flatMap_cons, List.append_assoc]
    rw [rward_app _ _ _ _ _ (by omega) (by omega), List.range_succ, List.map_append]
    rfl

theorem owners_app (n : Nat) (hn : n ≤ 4) (r : List UInt8) : ∀ j, j ≤ n → ownersN j ((List.range n).flatMap (fun k : Nat => lowB (k : Int) 1) ++ r) false = ((List.range j).map (fun k : Nat => (k : Int)), ((List.range n).drop j).flatMap (fun k : Nat => lowB (k : Int) 1) ++ r, false) := by
  intro j
  induction j with
  | zero => intro _; simp [ownersN]
  | succ j ih =>
    intro hj
    have h2 := ih (by omega)
    have h3 : (List.range n).drop j = j :: (List.range n).drop (j + 1) := by
      rw [List.drop_eq_getElem_cons (by simp; omega)]
      simp
    simp only [ownersN, h2, h3, List.flatMap_cons, List.append_assoc, rdn1]
    rw [List.range_succ, List.map_append, Int.emod_eq_of_lt (by omega) (by omega)]
    rfl

/-- The image that the statements make (without wires). -/
def keepImg (gap : Int) (l : List (Int × List Int)) (n : Nat) : Img := ⟨withinM gap 1 16, 1024, (List.range n).map (fun k : Nat => wardOf (16 + 16 * n) k (l.getD k (0, [])).1 (l.getD k (0, [])).2), [], (List.range n).map (fun k : Nat => (k : Int))⟩

theorem rimg_keep (gap : Int) (l : List (Int × List Int)) (n : Nat) (n1 : 1 ≤ n) (n4 : n ≤ 4) : rimg (headB gap n 0 ++ (List.range n).flatMap (fun k : Nat => wardB (16 + 16 * n) k (l.getD k (0, [])).1 (l.getD k (0, [])).2) ++ (List.range n).flatMap (fun k : Nat => lowB (k : Int) 1)) = (keepImg gap l n, true) := by
  have hg := withinM_bd gap 1 16 (by omega)
  have hh : rhead (headB gap n 0 ++ (List.range n).flatMap (fun k : Nat => wardB (16 + 16 * n) k (l.getD k (0, [])).1 (l.getD k (0, [])).2) ++ (List.range n).flatMap (fun k : Nat => lowB (k : Int) 1)) = (((n : Int), withinM gap 1 16, 1024, 0, (n : Int)), (List.range n).flatMap (fun k : Nat => wardB (16 + 16 * n) k (l.getD k (0, [])).1 (l.getD k (0, [])).2) ++ ((List.range n).flatMap (fun k : Nat => lowB (k : Int) 1) ++ []), false) := by
    unfold rhead headB
    simp only [List.append_assoc, rdn1, List.append_nil]
    rw [wthY 1 4 _ (by omega) (by omega)]
    simp only [rdn1]
    rw [wthY 1 16 _ (by omega) (by omega)]
    simp only [rdn2]
    rw [wthY 64 1024 _ (by omega) (by omega)]
    simp only [rdn1]
    rw [wthY 0 8 _ (by omega) (by omega)]
    simp only [rdn1]
    rw [wthY 0 8 _ (by omega) (by omega)]
    rw [Int.emod_eq_of_lt (a := (n : Int)) (by omega) (by omega), Int.emod_eq_of_lt (a := withinM gap 1 16) (by omega) (by omega)]
    rfl
  unfold rimg
  rw [hh]
  simp only [Int.toNat_natCast, Int.toNat_zero]
  rw [wards_app _ l n n4 (by omega) (by omega) _ n (Nat.le_refl _)]
  simp only [wiresN]
  have hd : (List.range n).drop n = [] := List.drop_of_length_le (by simp)
  rw [hd, List.flatMap_nil, List.nil_append, owners_app n n4 [] n (Nat.le_refl _), hd]
  rfl

end Go.Proofs.YthmcheoehcmglaaGreat
/- Whole structs, loaded and stored as rows. -/
namespace Go.Proofs.YthmcheoehcmglaaGreat
open Go.RowKit

/-- A struct that fills its block is stored. -/
theorem wpList_storeRow {P : Program} {ops : Array Oper} {rest : List Oper} {o : Oper} {a : Act} {w : World} {Q : Exit → Act → World → Prop} (hgd : o.guard = none) (ty : TypeId) (x y : Operand) (ho : o.op = .store ty x y)
    (g : Nat) (t : TypeId) (old cells : Array Value) (hx : a.eval x = .pointer (some ⟨g, 0, none⟩)) (hy : a.eval y = .agg cells) (hg : w.heap[g]? = some (.cells old t (0, 0)))
    (hi : (P.info? ty).map (·.size) = some cells.size) (hol : old.size = cells.size) (h1 : cells.all (·.oneCell') = true)
    (h : ∀ w', w'.heap[g]? = some (.cells cells t (0, 0)) → Fr (fun i => i = g) w w' → wpList P ops Q rest (a.put o.dst undef) w') : wpList P ops Q (o :: rest) a w := by
  refine wpList_plain hgd fun K hK => ?_
  unfold Oper.wp execOp
  simp only [ho, hx, hy, Instr.storeAt, Instr.sureAddr, Sem.run_bind, Sem.run_pure, Result.andThen_ok, run_storeVar_row w g t ty old cells hg hi hol h1]
  refine hK _ _ (h _ ?_ ?_)
  · simpa using setRow_heap w g _ _ t _ hg
  · exact (Fr.refl (fun i => i = g) w).setRow (Or.inl rfl) _

/-- A struct that fills its block is loaded. -/
theorem wpList_loadRow {P : Program} {ops : Array Oper} {rest : List Oper} {o : Oper} {a : Act} {w : World} {Q : Exit → Act → World → Prop} (hgd : o.guard = none) (ty : TypeId) (x : Operand) (ho : o.op = .load ty x)
    (g : Nat) (t : TypeId) (cells : Array Value) {d : TypeDesc} (hx : a.eval x = .pointer (some ⟨g, 0, none⟩)) (hg : w.heap[g]? = some (.cells cells t (0, 0)))
    (hu : P.underlying ty = some d) (hd : (match d with | .struct _ | .array _ _ => true | _ => false) = true) (hi : (P.info? ty).map (·.size) = some cells.size)
    (h : wpList P ops Q rest (a.put o.dst (.agg cells)) w) : wpList P ops Q (o :: rest) a w :=
  wpList_load_row hgd ty x ho g hx t cells (0, 0) d hg hu hd hi h

/-- Two results: a struct that fills its block, and a plain one. -/
theorem results_cell_tmp {P : Program} {fn : Func} {p u : Tmp} {ty : TypeId} (h : fn.results = #[.cell p ty, .tmp u]) (tmps : Array Value) (w : World) (g : Nat) (t : TypeId) (cs : Array Value) (fr : Nat × Nat) {d : TypeDesc}
    (hp : tmps.getD p undef = .pointer (some ⟨g, 0, none⟩)) (hg : w.heap[g]? = some (.cells cs t fr))
    (hu : P.underlying ty = some d) (hd : (match d with | .struct _ | .array _ _ => true | _ => false) = true) (hi : (P.info? ty).map (·.size) = some cs.size) (v : Value) (hv : tmps.getD u undef = v) :
    (results fn tmps).run P w = .ok (.tuple #[.agg cs, v]) w := by
  have hp' : tmps[p]?.getD undef = .pointer (some ⟨g, 0, none⟩) := by simpa using hp
  have hv' : tmps[u]?.getD undef = v := by simpa using hv
  simp [results, h, hp', hv', asAddr, run_loadVar_row w g t ty cs fr d hg hu hd hi]

end Go.Proofs.YthmcheoehcmglaaGreat
