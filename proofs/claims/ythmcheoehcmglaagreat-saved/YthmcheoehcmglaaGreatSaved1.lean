/- wardskeep.Saved, walked. -/
import Derived.Test.YthmcheoehcmglaaGreatK7
namespace Go.Proofs.YthmcheoehcmglaaGreat
open Go.RowKit
set_option linter.unusedVariables false
attribute [local go_sem ↓] Go.wp_at_zero Go.wp_at_succ

def WasY (N : NM) : Prop := ∀ w ∈ N.wn, w.was.y = false
theorem WasY.step {x : KX} {N : NM} (h : WasY N) : WasY (cycleN x N) := by
  have hg : ∀ k, (N.wn.getD k zeroWN).was.y = false := by
    intro k
    rw [List.getD_eq_getElem?_getD]
    cases hk : N.wn[k]? with
    | none => rfl
    | some v => exact h v (List.mem_of_getElem? hk)
  intro w hw
  unfold cycleN actN at hw
  simp only at hw
  split at hw
  · rcases List.mem_or_eq_of_mem_set hw with h1 | h1
    · exact h w h1
    · rw [h1]; exact hg _
  · split at hw
    · rcases List.mem_or_eq_of_mem_set hw with h1 | h1
      · exact h w h1
      · rw [h1]
    · exact h w hw
theorem WasY.iter {x : KX} {N : NM} (h : WasY N) : ∀ n, WasY (iterN x n N)
  | 0 => h
  | n + 1 => (h.iter n).step
theorem bootN_wasY (m : Img) : WasY (bootN m) := by
  intro w hw
  simp only [bootN, List.mem_map] at hw
  obtain ⟨x, _, rfl⟩ := hw
  rfl

/-- The words of a save area tell how its ward was. -/
theorem Sim.saved {x : KX} {s : KM} {N : NM} (h : Sim x s N) (hy : WasY N) (k : Nat) (v : WN) (hv : N.wn[k]? = some v) (i : Nat) (hi : i < 16) : s.mem.getD (16 + 16 * k + i) 0 = savedV v.was i := by
  obtain ⟨h1, h2⟩ := h.ar k v hv
  have hyv := hy v (List.mem_of_getElem? hv)
  unfold savedV
  by_cases h8 : i < 8
  · rw [if_pos h8, ← h1]
    unfold loadSt
    simp only
    rw [List.getD_eq_getElem?_getD, List.getD_eq_getElem?_getD, List.getElem?_take, if_pos h8, List.getElem?_drop]
  · rw [if_neg h8]
    rcases (show i = 8 ∨ i = 9 ∨ i = 10 ∨ i = 11 ∨ i = 12 ∨ 13 ≤ i by omega) with rfl | rfl | rfl | rfl | rfl | h13
    · rw [if_pos rfl, ← h1]; rfl
    · rw [if_neg (by omega), if_pos rfl, ← h1]; rfl
    · rw [if_neg (by omega), if_neg (by omega), if_pos rfl, ← h1]; rfl
    · rw [if_neg (by omega), if_neg (by omega), if_neg (by omega), if_pos rfl, ← h1]; rfl
    · rw [if_neg (by omega), if_neg (by omega), if_neg (by omega), if_neg (by omega)]
      rw [← h1] at hyv
      simp only [loadSt, bne_eq_false_iff_eq] at hyv
      exact hyv
    · rw [if_neg (by omega), if_neg (by omega), if_neg (by omega), if_neg (by omega)]
      exact h2 i h13 hi

theorem Going.savedW {x : KX} {N : NM} {w wr : World} (h : Going x N w wr) (hy : WasY N) (X : Nat) (hX : x.X = X) (k : Nat) (hk : k < x.regs.length) (ht : turnN x N.ck ≠ k) (i : Nat) (hi : i < 16) :
    Calls Tryz.prog 29 #[.pointer (some ⟨X, 0, none⟩), .int .i64 (16 + 16 * (k : Int) + i)] wr fun e w' => e = .returned (.tuple #[.int .u32 (savedV (N.wn.getD k zeroWN).now i), .int .i64 0]) ∧ w' = wr := by
  obtain ⟨s, vL, h1, h2⟩ := h.l
  have hkern := h1.x.kn
  unfold kerK at hkern
  obtain ⟨s', hs', hc⟩ := h.word X hX (16 + 16 * k + i) (by omega)
  have hk2 : k < N.wn.length := by have := hs'.hi.wl; rw [List.length_map] at this; omega
  have hv : N.wn[k]? = some N.wn[k] := List.getElem?_eq_getElem hk2
  rw [hs'.saved hy k _ hv i hi, ← (hs'.st k _ hv).2 ht] at hc
  rw [getD_of hv]
  exact hc

theorem Going.stB {x : KX} {N : NM} {w wr : World} (h : Going x N w wr) (k : Nat) (hk : k < x.regs.length) : StB (N.wn.getD k zeroWN).now := by
  obtain ⟨s, vL, h1, h2⟩ := h.l
  have hk2 : k < N.wn.length := by have := h1.n.hi.wl; rw [List.length_map] at this; omega
  have hv : N.wn[k]? = some N.wn[k] := List.getElem?_eq_getElem hk2
  rw [getD_of hv]
  exact (h1.n.sb _ (List.getElem_mem hk2)).1

/-- A view lies in a block. -/
def ViewAt (w : World) (B : Nat) (row : Array Value) : Prop := w.heap[B]? = some (.cells row 48 (0, 0))

set_option maxRecDepth 100000 in
set_option maxHeartbeats 4000000 in
theorem kSaved_any (w : World) (gap : Int) (hg : I64 gap) (v : Value) (l : List (Int × List Int)) (h : WdsV w v l) (cy : Int) (hcy : I64 cy) :
    Calls Tryz.prog 6 #[.int .i64 gap, v, .int .i64 cy] w fun e w' => e = .returned (.bool true) ∧ Fr (fun _ => False) w w' := by
  have HSO := hid (some_any w v l h)
  have hb := someL_bd l
  have hp := pickM_bd cy 500 (by omega)
  have HPK := hid (fun w1 => pick_any cy 500 w1 hcy (by omega) (by omega))
  generalize someL l = a at *
  generalize pickM cy 500 = pn at *
  obtain ⟨N, rfl⟩ := Int.eq_ofNat_of_zero_le hp.1
  obtain ⟨ao, cc, rfl, -, -, -⟩ := h
  go_enter Tryz.func6, Tryz.ntmps6
  go_wp2_with fail
  refine HSO.out.mono ?_
  rintro e w1 ⟨g, o, c, rfl, hW1, hf1⟩
  have HW1 := hid hW1
  have HF1 := hid hf1
  clear hW1 hf1 HSO
  go_wp2_with fail
  refine (image_nw w1 gap hg g o a.length c a HW1.out hb.1 hb.2).mono ?_
  rintro e w2 ⟨rfl, hf2⟩
  have HF2 := hid hf2
  have HBT := hid (fun w3 => keepBoot w3 gap a a.length hb.1 hb.2)
  clear hf2
  go_wp2_with fail
  refine (HBT.out _).mono ?_
  rintro e w3 ⟨x, vL, rfl, hl3, hx3, hf3, hk3⟩
  have hG0 : Going x (bootN (keepImg gap a a.length)) w2 w3 := ⟨⟨_, vL, hl3, hk3⟩, hf3⟩
  have HG0 := hid hG0
  have HX := hid hx3
  have HXS := hid hl3.x
  have hxn : 64 ≤ x.n := by rw [hx3.n]; simp [keepImg]
  have hrl : x.regs.length = a.length := keep_len _ _ _ x hx3
  obtain ⟨X, hXX⟩ : ∃ X, x.X = X := ⟨_, rfl⟩
  have HXX := hid hXX
  rw [hXX]
  have HW2 := hid (HW1.out.fr HF2.out)
  have HF12 := hid (HF1.out.step HF2.out (fun _ h => .inl h))
  clear hl3 hx3 hf3 hk3 HBT HW1 HF1 HF2 hG0 hXX
  go_wp2_with fail
  refine (lives_any _).mono ?_
  rintro e w4 ⟨rfl, hf4⟩
  have HG4 := hid (HG0.out.fr hf4)
  clear hf4 HG0
  go_wp2_with fail
  refine (HPK.out _).mono ?_
  rintro e w5 ⟨rfl, rfl⟩
  have hrN : runN (N : Int) = N := by unfold runN; rw [if_neg (by omega), if_neg (by omega)]
  have HR := hid (HG4.out.run N 0 (by intro d hd; simp only [bootN, List.mem_replicate] at hd; rw [hd.2]; simp) (by rw [hrN]; omega) (by rw [hrN]; simp only [bootN]; omega) X HXX.out)
  rw [hrN, Int.toNat_natCast] at HR
  clear hrN
  go_wp2_with fail
  refine HR.out.mono ?_
  rintro e w6 ⟨rfl, hG6⟩
  have HG6 := hid hG6
  have hck : (iterN x N (bootN (keepImg gap a a.length))).ck = (N : Int) := by rw [iterN_ck]; simp [bootN]
  have HCK := hid hck
  have HY : Hid (WasY (iterN x N (bootN (keepImg gap a a.length)))) := (bootN_wasY _).iter N
  have HT := hid (kturn_all w6 gap hg g o a.length c a (HW2.out.fr hG6.f) hb.1 hb.2 x HX.out HXS.out N (by omega))
  have hTb := turnN_bd x HXS.out.q HXS.out.ql N (by omega)
  obtain ⟨T, hT⟩ : ∃ T, turnN x (N : Int) = T := ⟨_, rfl⟩
  rw [hT] at HT hTb
  have HTT := hid hT
  generalize iterN x N (bootN (keepImg gap a a.length)) = NN at *
  clear hG6 HR HG4 hck hT
  go_wp2_with fail
  refine HT.out.mono ?_
  rintro e w7 ⟨rfl, rfl⟩
  go_wp2_with fail
  go_loopw [12] (fun i wr => ∃ k : Nat, k ≤ a.length ∧ i = .int .i64 k ∧ Going x NN w2 wr) (fun i _ => a.length - (intOf i).toNat)
  case atStart => exact ⟨0, Nat.zero_le _, rfl, HG6.out⟩
  case round =>
    obtain ⟨k, hk, rfl, hG⟩ := hrel
    clear HG6 HT
    by_cases hlt : k < a.length
    · have hki : (k : Int) < (a.length : Int) := by omega
      have hkr : k < x.regs.length := by omega
      have HV := hid (hG.view X HXX.out k hkr)
      have hB := hG.stB k hkr
      have HSV := hid (fun (w1 : World) (i : Nat) (hi : i < 16) => saved_any w1 _ hB i hi)
      have HSW := hid (fun (w1 : World) (h1 : Going x NN w2 w1) (ht : turnN x NN.ck ≠ k) (i : Nat) (hi : i < 16) => h1.savedW HY.out X HXX.out k hkr ht i hi)
      have HG := hid hG
      obtain ⟨r0, r1, r2, r3, r4, r5, r6, r7, hr, hc⟩ := st_lit _ hB.l
      generalize (NN.wn.getD k zeroWN).now = sk at *
      rw [hc] at HV HSV
      clear hG hB hr hc
      go_wp2_with fail
      refine HV.out.mono ?_
      rintro e w8 ⟨rfl, hf8⟩
      have HG8 := hid ((HG.out.fr hf8).fr ((Fr.refl _ w8).alloc (.cells #[.int .u32 r0, .int .u32 r1, .int .u32 r2, .int .u32 r3, .int .u32 r4, .int .u32 r5, .int .u32 r6, .int .u32 r7, .int .u32 sk.place, .int .i64 sk.status, .int .i64 sk.cause, .int .i64 sk.busy, .bool sk.y] 48)))
      clear hf8 HV HG
      by_cases hat : (k : Int) = T
      · go_wp2_with fail
        go_roundw
        case rel => exact ⟨k + 1, by omega, by go_num, HG8.out⟩
        case measure => simp [intOf]; omega
      · have hatb : ((k : Int) == T) = false := by simpa using hat
        have hne : turnN x NN.ck ≠ k := by rw [HCK.out, HTT.out]; exact fun e => hat e.symm
        have HB8 : Hid ((w8.alloc (.cells #[.int .u32 r0, .int .u32 r1, .int .u32 r2, .int .u32 r3, .int .u32 r4, .int .u32 r5, .int .u32 r6, .int .u32 r7, .int .u32 sk.place, .int .i64 sk.status, .int .i64 sk.cause, .int .i64 sk.busy, .bool sk.y] 48)).heap[w8.heap.size]? = some (.cells #[.int .u32 r0, .int .u32 r1, .int .u32 r2, .int .u32 r3, .int .u32 r4, .int .u32 r5, .int .u32 r6, .int .u32 r7, .int .u32 sk.place, .int .i64 sk.status, .int .i64 sk.cause, .int .i64 sk.busy, .bool sk.y] 48 (0, 0))) := heap_alloc_new w8 _
        go_wp2_with fail
        generalize w8.alloc (.cells #[.int .u32 r0, .int .u32 r1, .int .u32 r2, .int .u32 r3, .int .u32 r4, .int .u32 r5, .int .u32 r6, .int .u32 r7, .int .u32 sk.place, .int .i64 sk.status, .int .i64 sk.cause, .int .i64 sk.busy, .bool sk.y] 48) = w9 at *
        generalize w8.heap.size = B at *
        go_loopw [15] (fun i wr => ∃ j : Nat, j ≤ 16 ∧ i = .int .i64 j ∧ Going x NN w2 wr ∧ ViewAt wr B #[.int .u32 r0, .int .u32 r1, .int .u32 r2, .int .u32 r3, .int .u32 r4, .int .u32 r5, .int .u32 r6, .int .u32 r7, .int .u32 sk.place, .int .i64 sk.status, .int .i64 sk.cause, .int .i64 sk.busy, .bool sk.y]) (fun i _ => 16 - (intOf i).toNat)
        case atStart => exact ⟨0, Nat.zero_le _, rfl, HG8.out, HB8.out⟩
        case round =>
          obtain ⟨j, hj, rfl, hG9, hB9⟩ := hrel
          clear HG8 HB8
          by_cases hjl : j < 16
          · have hji : (j : Int) < 16 := by omega
            have HW := hid (HSW.out wr hG9 hne j hjl)
            have HS := hid (HSV.out wr j hjl)
            have HG9 := hid hG9
            have HB9 := hid hB9
            generalize savedV sk j = sv at *
            have d : ∀ q, wr.cell? ⟨B, q, none⟩ = _ := fun q => row_cell hB9 q
            have d0 := d 0
            have d1 := d 1
            have d2 := d 2
            have d3 := d 3
            have d4 := d 4
            have d5 := d 5
            have d6 := d 6
            have d7 := d 7
            have d8 := d 8
            have d9 := d 9
            have d10 := d 10
            have d11 := d 11
            have d12 := d 12
            clear hG9 hB9 d
            go_wp2_with fail
            refine HW.out.mono ?_
            rintro e w10 ⟨rfl, rfl⟩
            go_wp2_with fail
            refine HS.out.mono ?_
            rintro e w11 ⟨rfl, hf11⟩
            have HG11 := hid (HG9.out.fr hf11)
            have HB11 : Hid (ViewAt w11 B _) := hf11.get HB9.out id
            clear hf11 d0 d1 d2 d3 d4 d5 d6 d7 d8 d9 d10 d11 d12
            go_wp2_with fail
            go_roundw
            case rel => exact ⟨j + 1, by omega, by go_num, HG11.out, HB11.out⟩
            case measure => simp [intOf]; omega
          · obtain rfl : j = 16 := by omega
            have HG9 := hid hG9
            clear hG9 hB9
            go_wp2_with fail
            go_roundw
            case rel => exact ⟨k + 1, by omega, by go_num, HG9.out⟩
            case measure => simp [intOf]; omega
    · obtain rfl : k = a.length := by omega
      have HG := hid hG
      clear hG
      go_wp2_with fail
      go_ret
      exact ⟨rfl, HF12.out.step HG.out.f (fun _ h => .inl h)⟩

end Go.Proofs.YthmcheoehcmglaaGreat
