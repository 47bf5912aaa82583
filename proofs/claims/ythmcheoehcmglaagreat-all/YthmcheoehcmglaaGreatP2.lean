/- The statements' own functions (wardskeep): round, turn. -/
import Derived.Test.YthmcheoehcmglaaGreatK2
import Derived.Test.YthmcheoehcmglaaGreatT1
import Derived.Test.YthmcheoehcmglaaGreatK1
import Derived.Test.YthmcheoehcmglaaGreatR0
namespace Go.Proofs.YthmcheoehcmglaaGreat
open Go.RowKit
set_option linter.unusedVariables false
attribute [local go_sem ↓] Go.wp_at_zero Go.wp_at_succ

def qsOf (l : List (Int × List Int)) : List Int := l.map (fun p => withinM p.1 1 64)
theorem qsOf_len (l : List (Int × List Int)) : (qsOf l).length = l.length := by simp [qsOf]
theorem qsOf_at (l : List (Int × List Int)) (k : Nat) (q : Int) (ws : List Int) (h : l[k]? = some (q, ws)) : (qsOf l).getD k 0 = withinM q 1 64 := by simp [qsOf, h]
theorem qsOf_ok (gap : Int) (l : List (Int × List Int)) (h1 : 1 ≤ l.length) (h4 : l.length ≤ 4) : QsOk (withinM gap 1 16) (qsOf l) := by
  have hg := withinM_bd gap 1 16 (by omega)
  refine ⟨by rw [qsOf_len]; exact h1, by rw [qsOf_len]; exact h4, ?_, hg.1, hg.2⟩
  intro q hq
  simp only [qsOf, List.mem_map] at hq
  obtain ⟨p, _, rfl⟩ := hq
  exact withinM_bd p.1 1 64 (by omega)

set_option maxRecDepth 100000 in
set_option maxHeartbeats 2000000 in
theorem kround_any (w : World) (gap : Int) (hg : I64 gap) (g o n c : Nat) (l : List (Int × List Int)) (h : WdsAt w g o n c l) (n1 : 1 ≤ n) (n4 : n ≤ 4) :
    Calls Tryz.prog 34 #[.int .i64 gap, .slice (some ⟨g, o, none⟩) n c] w fun e w' => e = .returned (.int .i64 (accN (withinM gap 1 16) (qsOf l) n)) ∧ w' = w := by
  have H := hid h
  have HGP := hid hg
  have hln := h.len
  have HQ := hid (qsOf_ok gap l (by omega) (by omega))
  have hgw := withinM_bd gap 1 16 (by omega)
  have HLN := hid hln
  clear h hg hln
  go_enter Tryz.func34, Tryz.ntmps34
  go_wp2_with fail
  go_loop [5, 6] (fun a b => ∃ k : Nat, k ≤ n ∧ b = .int .i64 k ∧ a = .int .i64 (accN (withinM gap 1 16) (qsOf l) k)) (fun _ b => n - (intOf b).toNat)
  case atStart => exact ⟨0, Nat.zero_le _, rfl, rfl⟩
  case round =>
    obtain ⟨k, hk, rfl, rfl⟩ := hrel
    have hbd := accN_bd HQ.out k (by rw [qsOf_len, HLN.out]; exact hk)
    by_cases hlt : k < n
    · have hlti : (k : Int) < (n : Int) := by omega
      obtain ⟨⟨q, ws⟩, hqw⟩ : ∃ p, l[k]? = some p := ⟨_, List.getElem?_eq_getElem (by rw [HLN.out]; exact hlt)⟩
      have cq := (H.out.el k q ws hqw).1
      have HOQ := hid (H.out.ok q ws (List.mem_of_getElem? hqw)).1
      have hqb := withinM_bd q 1 64 (by omega)
      have HA : Hid (accN (withinM gap 1 16) (qsOf l) (k + 1) = accN (withinM gap 1 16) (qsOf l) k + (withinM q 1 64 + withinM gap 1 16)) := by unfold Hid; rw [← qsOf_at l k q ws hqw]; rfl
      clear hqw
      generalize accN (withinM gap 1 16) (qsOf l) k = a at *
      go_wp2_with fail
      refine (kwithin_any _ _ _ _ HOQ.out (by omega) (by omega) (by omega)).mono ?_
      rintro e w1 ⟨rfl, rfl⟩
      generalize withinM q 1 64 = q' at *
      go_wp2_with fail
      refine (kwithin_any _ _ _ _ HGP.out (by omega) (by omega) (by omega)).mono ?_
      rintro e w1 ⟨rfl, rfl⟩
      go_wp2_with fail
      go_round
      case rel => exact ⟨k + 1, by omega, by go_num, by rw [HA.out]; go_num⟩
      case measure => simp [intOf]; omega
    · obtain rfl : k = n := by omega
      have hlti : ¬ ((k : Int) < (k : Int)) := by omega
      go_wp2_with fail
      go_ret
      exact ⟨rfl, rfl⟩

/-- The word 0 behind a cycle that stands r cycles within the k-th turn and gap. -/
def turnV (gap q : Int) (n k : Nat) (r : Int) : Int := if r < q then k else if r < q + gap - 1 then n else ((k + 1) % n : Nat)

set_option maxRecDepth 100000 in
set_option maxHeartbeats 2000000 in
theorem kturn_any (w : World) (gap : Int) (hg : I64 gap) (g o n c : Nat) (l : List (Int × List Int)) (h : WdsAt w g o n c l) (n1 : 1 ≤ n) (n4 : n ≤ 4) (t : Int) (t0 : 0 < t) (t1 : t ≤ 1000000) :
    Calls Tryz.prog 28 #[.int .i64 gap, .slice (some ⟨g, o, none⟩) n c, .int .i64 t] w fun e w' => w' = w ∧ ∃ k, k < n ∧ accN (withinM gap 1 16) (qsOf l) k ≤ (t - 1) % accN (withinM gap 1 16) (qsOf l) n ∧ (t - 1) % accN (withinM gap 1 16) (qsOf l) n < accN (withinM gap 1 16) (qsOf l) (k + 1) ∧
      e = .returned (.int .i64 (turnV (withinM gap 1 16) ((qsOf l).getD k 0) n k ((t - 1) % accN (withinM gap 1 16) (qsOf l) n - accN (withinM gap 1 16) (qsOf l) k))) := by
  have H := hid h
  have HGP := hid hg
  have hln := h.len
  have HQ := hid (qsOf_ok gap l (by omega) (by omega))
  have hgw := withinM_bd gap 1 16 (by omega)
  have HLN := hid hln
  have HKR := hid (kround_any w gap hg g o n c l h n1 n4)
  have hR := accN_bd HQ.out n (by rw [qsOf_len]; omega)
  generalize hG : withinM gap 1 16 = G at *
  have HGE := hid hG
  obtain ⟨R, hRe⟩ : ∃ R, accN G (qsOf l) n = R := ⟨_, rfl⟩
  have HRE := hid hRe
  rw [hRe] at hR HKR ⊢
  have hnz : ¬ R = 0 := by omega
  have htm : (t - 1).tmod R = (t - 1) % R := Int.tmod_eq_emod_of_nonneg (by omega)
  have hu0 : 0 ≤ (t - 1) % R := Int.emod_nonneg _ hnz
  have hu1 : (t - 1) % R < R := Int.emod_lt_of_pos _ (by omega)
  obtain ⟨u, hu⟩ : ∃ u, (t - 1) % R = u := ⟨_, rfl⟩
  rw [hu] at htm hu0 hu1 ⊢
  have hR3 : R ≤ 400 := by omega
  have HU1 := hid hu1
  clear h hg hln hu hRe hG
  go_enter Tryz.func28, Tryz.ntmps28
  go_wp2_with fail
  refine HKR.out.mono ?_
  rintro e w1 ⟨rfl, rfl⟩
  go_wp2_with fail
  go_loop [2, 7] (fun a b => ∃ k : Nat, k < n ∧ b = .int .i64 k ∧ a = .int .i64 (u - accN G (qsOf l) k) ∧ accN G (qsOf l) k ≤ u) (fun _ b => n - (intOf b).toNat)
  case atStart => exact ⟨0, by omega, rfl, by simp [accN], by simpa [accN] using hu0⟩
  case round =>
    obtain ⟨k, hk, rfl, rfl, hle⟩ := hrel
    have hbd := accN_bd HQ.out k (by rw [qsOf_len, HLN.out]; omega)
    have hki : (k : Int) < (n : Int) := by omega
    obtain ⟨⟨q, ws⟩, hqw⟩ : ∃ p, l[k]? = some p := ⟨_, List.getElem?_eq_getElem (by rw [HLN.out]; exact hk)⟩
    have cq := (H.out.el k q ws hqw).1
    have HOQ := hid (H.out.ok q ws (List.mem_of_getElem? hqw)).1
    have hqb := withinM_bd q 1 64 (by omega)
    have HQE := hid (qsOf_at l k q ws hqw)
    have HA : Hid (accN G (qsOf l) (k + 1) = accN G (qsOf l) k + (withinM q 1 64 + G)) := by unfold Hid; rw [← qsOf_at l k q ws hqw]; rfl
    have HK1 : Hid (accN G (qsOf l) (k + 1) ≤ u → k + 1 < n) := by
      intro hh
      by_cases e : k + 1 = n
      · exfalso
        rw [e, HRE.out] at hh
        have := HU1.out
        omega
      · omega
    have HMOD : Hid ((((k + 1) % n : Nat) : Int) = ((k : Int) + 1) % (n : Int)) := by unfold Hid; simp
    have hnz2 : ¬ (n : Int) = 0 := by omega
    have hkn : 0 ≤ ((k : Int) + 1) % (n : Int) := Int.emod_nonneg _ hnz2
    have htm2 : ((k : Int) + 1).tmod (n : Int) = ((k : Int) + 1) % (n : Int) := Int.tmod_eq_emod_of_nonneg (by omega)
    clear hqw
    generalize ha : accN G (qsOf l) k = a at *
    have HAE := hid ha
    clear ha
    have HWG := hid (kwithin_any gap 1 16 w1 HGP.out (by omega) (by omega) (by omega))
    rw [HGE.out] at HWG
    go_wp2_with fail
    refine (kwithin_any _ _ _ _ HOQ.out (by omega) (by omega) (by omega)).mono ?_
    rintro e w2 ⟨rfl, rfl⟩
    generalize withinM q 1 64 = q' at *
    go_wp2_with fail
    refine HWG.out.mono ?_
    rintro e w3 ⟨rfl, rfl⟩
    by_cases h1 : u - a < q'
    · have HRL : Hid (u < accN G (qsOf l) (k + 1)) := by unfold Hid; rw [HA.out]; omega
      have HT : Hid (turnV G q' n k (u - a) = k) := by unfold Hid turnV; rw [if_pos h1]
      go_wp2_with fail
      go_ret
      exact ⟨rfl, k, hk, by rw [HAE.out]; exact hle, HRL.out, by rw [HAE.out, HQE.out, HT.out]; rfl⟩
    · by_cases h2 : u - a < q' + G - 1
      · have HRL : Hid (u < accN G (qsOf l) (k + 1)) := by unfold Hid; rw [HA.out]; omega
        have HT : Hid (turnV G q' n k (u - a) = n) := by unfold Hid turnV; rw [if_neg h1, if_pos h2]
        go_wp2_with fail
        go_ret
        exact ⟨rfl, k, hk, by rw [HAE.out]; exact hle, HRL.out, by rw [HAE.out, HQE.out, HT.out]; rfl⟩
      · by_cases h3 : u - a = q' + G - 1
        · have HRL : Hid (u < accN G (qsOf l) (k + 1)) := by unfold Hid; rw [HA.out]; omega
          have HT : Hid (turnV G q' n k (u - a) = ((k : Int) + 1) % (n : Int)) := by unfold Hid turnV; rw [if_neg h1, if_neg h2, HMOD.out]
          go_wp2_with fail
          go_ret
          exact ⟨rfl, k, hk, by rw [HAE.out]; exact hle, HRL.out, by rw [HAE.out, HQE.out, HT.out]; rfl⟩
        · have hk1 := HK1.out (by rw [HA.out]; omega)
          go_wp2_with fail
          go_round
          case rel => exact ⟨k + 1, hk1, by go_num, by rw [HA.out]; go_num, by rw [HA.out]; omega⟩
          case measure => simp [intOf]; omega

end Go.Proofs.YthmcheoehcmglaaGreat
/- What a ward reaches: Region.Find, findWith. -/
namespace Go.Proofs.YthmcheoehcmglaaGreat
open Go.RowKit
set_option linter.unusedVariables false
attribute [local go_sem ↓] Go.wp_at_zero Go.wp_at_succ

theorem i64_and (a b : Int) (h1 : 0 ≤ a) (h2 : a < 4294967296) (h3 : 0 ≤ b) (h4 : b < 4294967296) : bits .and .i64 a b = ((a.toNat &&& b.toNat : Nat) : Int) := by
  obtain ⟨A, rfl⟩ := Int.eq_ofNat_of_zero_le h1
  obtain ⟨B, rfl⟩ := Int.eq_ofNat_of_zero_le h3
  have hx : A &&& B < 2 ^ 32 := Nat.and_lt_two_pow A (by omega)
  show IntKind.i64.wrap ((BitVec.ofInt 64 (A : Int) &&& BitVec.ofInt 64 (B : Int)).toNat : Int) = _
  rw [BitVec.toNat_and, ofInt_u64 A (by omega), ofInt_u64 B (by omega), IntKind.wrap_i64]
  simp only [Int.toNat_natCast]
  omega

abbrev Reg := Int × Int × Int × Int
/-- An address stands in a region. -/
def inR (r : Reg) (a : Int) : Bool := decide (r.1 ≤ a) && decide (a < r.1 + r.2.1)
def hasR (r : Reg) (rights : Int) : Bool := ((r.2.2.2.toNat &&& rights.toNat : Nat) : Int) == rights
/-- Which word an address is, of the first region that has these rights. -/
def findR (rights a : Int) : List Reg → Option Int
  | [] => none
  | r :: rs => if (inR r a && hasR r rights) = true then some (r.2.2.1 + (a - r.1)) else findR rights a rs
structure RegB (r : Reg) : Prop where
  f0 : 0 ≤ r.1
  f1 : r.1 ≤ 65535
  s0 : 0 ≤ r.2.1
  s1 : r.2.1 ≤ 65535
  b0 : 0 ≤ r.2.2.1
  b1 : r.2.2.1 ≤ 65535
  r0 : 0 ≤ r.2.2.2
  r1 : r.2.2.2 ≤ 255

set_option maxRecDepth 100000 in
set_option maxHeartbeats 1000000 in
theorem rfind_any (w : World) (r : Reg) (hr : RegB r) (a : Int) (a0 : 0 ≤ a) (a1 : a < 4294967296) :
    Calls Tryz.prog 91 #[.agg #[.int .i64 r.1, .int .i64 r.2.1, .int .i64 r.2.2.1, .int .i64 r.2.2.2], .int .u32 a] w fun e w' => e = .returned (.tuple #[.int .i64 (if inR r a then r.2.2.1 + (a - r.1) else 0), .bool (inR r a)]) ∧ Fr (fun _ => False) w w' := by
  obtain ⟨f, s, b, t⟩ := r
  obtain ⟨h1, h2, h3, h4, h5, h6, h7, h8⟩ := hr
  simp only at *
  by_cases hlo : f ≤ a
  · by_cases hhi : a < f + s
    · have HI : Hid (inR (f, s, b, t) a = true) := by unfold Hid inR; simp [hlo, hhi]
      have hsub : a - f < s := by omega
      rw [HI.out]
      go_enter Tryz.func91, Tryz.ntmps91
      go_wp2_with fail
      go_ret2
      exact ⟨rfl, (Fr.refl _ w).alloc _⟩
    · have HI : Hid (inR (f, s, b, t) a = false) := by unfold Hid inR; simp; omega
      rw [HI.out]
      go_enter Tryz.func91, Tryz.ntmps91
      go_wp2_with fail
      go_ret2
      exact ⟨rfl, (Fr.refl _ w).alloc _⟩
  · have HI : Hid (inR (f, s, b, t) a = false) := by unfold Hid inR; simp; omega
    rw [HI.out]
    go_enter Tryz.func91, Tryz.ntmps91
    go_wp2_with fail
    go_ret2
    exact ⟨rfl, (Fr.refl _ w).alloc _⟩

def FindUp (rights a : Int) (regs : List Reg) (k : Nat) : Prop := findR rights a regs = findR rights a (regs.drop k)

set_option maxRecDepth 100000 in
set_option maxHeartbeats 2000000 in
theorem findWith_any (w : World) (b off : Nat) (regs : List Reg) (vR : Value) (hc : w.cell? ⟨b, off + 13, none⟩ = some vR) (ho : w.ownsRow 0 151 4 vR regs.length (regs.flatMap regCells)) (hr : ∀ r ∈ regs, RegB r) (hl : regs.length ≤ 3) (rights a : Int) (t0 : 0 ≤ rights) (t1 : rights ≤ 7) (a0 : 0 ≤ a) (a1 : a < 4294967296) :
    Calls Tryz.prog 64 #[.pointer (some ⟨b, off, none⟩), .int .i64 rights, .int .u32 a] w fun e w' => e = .returned (.tuple #[.int .i64 ((findR rights a regs).getD 0), .bool (findR rights a regs).isSome]) ∧ Fr (fun _ => False) w w' := by
  obtain ⟨ar, cr, hv⟩ := owns_shape ho
  subst hv
  have HO := hid ho
  have HR := hid hr
  obtain ⟨q, hq⟩ : ∃ q, findR rights a regs = q := ⟨_, rfl⟩
  have HQ := hid hq
  rw [hq]
  clear ho hr hq
  go_enter Tryz.func64, Tryz.ntmps64
  go_wp2_with fail
  go_loopw [17] (fun i wr => ∃ k : Nat, k ≤ regs.length ∧ i = .int .i64 k ∧ FindUp rights a regs k ∧ Fr (fun _ => False) w wr) (fun i _ => regs.length - (intOf i).toNat)
  case atStart => exact ⟨0, Nat.zero_le _, rfl, rfl, Fr.refl _ _⟩
  case round =>
    obtain ⟨k, hk, rfl, hup, hf⟩ := hrel
    have HUP := hid hup
    have HF := hid hf
    clear hup hf
    by_cases hlt : k < regs.length
    · have hlti : (k : Int) < (regs.length : Int) := by omega
      have hob := HF.out.owns HO.out (fun _ _ h => h)
      obtain ⟨gr, cr', hvr, -, -⟩ := hob.form (by omega)
      simp only [Value.slice.injEq] at hvr
      obtain ⟨rfl, -, rfl⟩ := hvr
      have hcell : ∀ j, j < 4 → wr.cell? ⟨gr, k * 4 + j, none⟩ = (regCells regs[k])[j]? := by
        intro j hj
        rw [hob.cellAt (k * 4 + j) (by omega), flat_get regCells 4 (fun _ => rfl) regs k j hlt hj]
      have hrb := HR.out regs[k] (List.getElem_mem hlt)
      have hd : regs.drop k = regs[k] :: regs.drop (k + 1) := List.drop_eq_getElem_cons hlt
      have HE : Hid (findR rights a (regs.drop k) = if (inR regs[k] a && hasR regs[k] rights) = true then some (regs[k].2.2.1 + (a - regs[k].1)) else findR rights a (regs.drop (k + 1))) := by unfold Hid; rw [hd]; rfl
      generalize regs[k] = r at *
      have HFD := hid (fun w1 => rfind_any w1 r hrb a a0 a1)
      obtain ⟨f, s, bs, t⟩ := r
      have d0 : wr.cell? ⟨gr, k * 4, none⟩ = some (.int .i64 f) := hcell 0 (by omega)
      have d1 : wr.cell? ⟨gr, k * 4 + 1, none⟩ = some (.int .i64 s) := hcell 1 (by omega)
      have d2 : wr.cell? ⟨gr, k * 4 + 2, none⟩ = some (.int .i64 bs) := hcell 2 (by omega)
      have d3 : wr.cell? ⟨gr, k * 4 + 3, none⟩ = some (.int .i64 t) := hcell 3 (by omega)
      have hand : bits .and .i64 t rights = ((t.toNat &&& rights.toNat : Nat) : Int) := i64_and t rights hrb.r0 (by have := hrb.r1; simp only at this; omega) t0 (by omega)
      clear hcell hd hob hrb
      simp only at HFD
      cases hin : inR (f, s, bs, t) a with
      | false =>
        rw [hin] at HFD
        have HE2 : Hid (FindUp rights a regs (k + 1)) := by unfold Hid FindUp; rw [HUP.out, HE.out, hin]; rfl
        clear HE hin
        go_wp2_with fail
        refine (HFD.out _).mono ?_
        rintro e w1 ⟨rfl, hf1⟩
        have HF1 := hid (HF.out.alloc _ |>.step hf1 (fun _ h => .inl h))
        clear hf1
        go_wp2_with fail
        go_roundw
        case rel => exact ⟨k + 1, by omega, by go_num, HE2.out, HF1.out⟩
        case measure => simp [intOf]; omega
      | true =>
        rw [hin] at HFD
        cases hhs : hasR (f, s, bs, t) rights with
        | false =>
          have HE2 : Hid (FindUp rights a regs (k + 1)) := by unfold Hid FindUp; rw [HUP.out, HE.out, hin, hhs]; rfl
          have hne : (((t.toNat &&& rights.toNat : Nat) : Int) == rights) = false := hhs
          clear HE hin hhs
          go_wp2_with fail
          refine (HFD.out _).mono ?_
          rintro e w1 ⟨rfl, hf1⟩
          have HF1 := hid (HF.out.alloc _ |>.step hf1 (fun _ h => .inl h))
          have e3 : w1.cell? ⟨wr.heap.size, 3, none⟩ = some (.int .i64 t) := row_cell (hf1.get (heap_alloc_new wr _) id) 3
          clear hf1
          go_wp2_with fail
          go_roundw
          case rel => exact ⟨k + 1, by omega, by go_num, HE2.out, HF1.out⟩
          case measure => simp [intOf]; omega
        | true =>
          have HE2 : Hid (q = some (bs + (a - f))) := by unfold Hid; rw [← HQ.out, HUP.out, HE.out, hin, hhs]; rfl
          have hne : (((t.toNat &&& rights.toNat : Nat) : Int) == rights) = true := hhs
          clear HE hin hhs
          go_wp2_with fail
          refine (HFD.out _).mono ?_
          rintro e w1 ⟨rfl, hf1⟩
          have HF1 := hid (HF.out.alloc _ |>.step hf1 (fun _ h => .inl h))
          have e3 : w1.cell? ⟨wr.heap.size, 3, none⟩ = some (.int .i64 t) := row_cell (hf1.get (heap_alloc_new wr _) id) 3
          clear hf1
          go_wp2_with fail
          go_ret2
          exact ⟨by rw [HE2.out]; rfl, HF1.out⟩
    · obtain rfl : k = regs.length := by omega
      have hlti : ¬ ((regs.length : Int) < (regs.length : Int)) := by omega
      have HE2 : Hid (q = none) := by
        unfold Hid
        rw [← HQ.out, HUP.out, List.drop_length]
        rfl
      go_wp2_with fail
      go_ret2
      exact ⟨by rw [HE2.out]; rfl, HF.out⟩

end Go.Proofs.YthmcheoehcmglaaGreat
/- The processor: what the codes do. -/
namespace Go.Proofs.YthmcheoehcmglaaGreat
open Go.RowKit
set_option linter.unusedVariables false
attribute [local go_sem ↓] Go.wp_at_zero Go.wp_at_succ

theorem WorkAt.setPlace {w : World} {B : Nat} {s : StV} {c a b n : Int} {o : Value} (h : WorkAt w B s c a b n o) (h8 : s.regs.length = 8) (v : Int) : WorkAt (w.setCell ⟨B, 8, none⟩ (.int .u32 v)) B { s with place := v } c a b n o := by
  unfold WorkAt at h ⊢
  obtain ⟨r0, r1, r2, r3, r4, r5, r6, r7, hr, hc⟩ := work_lit s h8 c a b n o
  have hc2 : workCells { s with place := v } c a b n o = [.int .u32 r0, .int .u32 r1, .int .u32 r2, .int .u32 r3, .int .u32 r4, .int .u32 r5, .int .u32 r6, .int .u32 r7, .int .u32 v, .int .i64 s.status, .int .i64 s.cause, .int .i64 s.busy, .bool s.y, .int .i64 c, .int .i64 a, .int .i64 b, .int .u32 n, o] := by unfold workCells stCells; simp only [hr]; rfl
  rw [row_set h, hc, hc2]
  rfl
/-- Where the place goes. -/
def jmp (t : Bool) (n p : Int) : Int := if t then n else p
theorem Fr.ofDrewN {S : Nat → Prop} {w w' : World} {m : Nat} (h : Fr S (w.drewN m) w') : Fr S w w' := ⟨h.os, h.tape, h.output, h.size, h.block⟩

set_option maxRecDepth 100000 in
set_option maxHeartbeats 1000000 in
theorem add_any (w : World) (B : Nat) (s : StV) (c n : Int) (a b : Nat) (o : Value) (h : WorkAt w B s c a b n o) (h8 : s.regs.length = 8) (ha : a < 8) (x y : Int) (hx : s.regs[a]? = some x) (hy : s.regs[b]? = some y) (x0 : 0 ≤ x) (x1 : x < 4294967296) (y0 : 0 ≤ y) (y1 : y < 4294967296) :
    Calls Tryz.prog 129 #[.pointer (some ⟨B, 0, none⟩)] w fun e w' => e = .returned (.int .i64 0) ∧ WorkAt w' B { s with regs := s.regs.set a ((x + y) % 4294967296) } c a b n o ∧ Fr (fun i => i = B) w w' := by
  have H := hid h
  have HX := hid hx
  have HY := hid hy
  clear h hx hy
  go_enter Tryz.func129, Tryz.ntmps129
  go_wp2_with fail
  refine (first_any _ B s c b n a o ?_ h8 x HX.out).mono ?_
  exact H.out
  rintro e w1 ⟨rfl, m1, rfl⟩
  go_wp2_with fail
  refine (second_any _ B s c a n b o ?_ h8 y HY.out).mono ?_
  exact H.out
  rintro e w1 ⟨rfl, m2, rfl⟩
  go_wp2_with fail
  refine (become_any _ B s c b n a o ?_ h8 ha _).mono ?_
  exact H.out
  rintro e w2 ⟨rfl, hw2, hf2⟩
  have HW2 := hid hw2
  have HF2 := hid hf2
  clear hw2 hf2
  go_wp2_with fail
  go_ret
  exact ⟨rfl, HW2.out, HF2.out.ofDrewN⟩

set_option maxRecDepth 100000 in
set_option maxHeartbeats 1000000 in
theorem sub_any (w : World) (B : Nat) (s : StV) (c n : Int) (a b : Nat) (o : Value) (h : WorkAt w B s c a b n o) (h8 : s.regs.length = 8) (ha : a < 8) (x y : Int) (hx : s.regs[a]? = some x) (hy : s.regs[b]? = some y) (x0 : 0 ≤ x) (x1 : x < 4294967296) (y0 : 0 ≤ y) (y1 : y < 4294967296) :
    Calls Tryz.prog 130 #[.pointer (some ⟨B, 0, none⟩)] w fun e w' => e = .returned (.int .i64 0) ∧ WorkAt w' B { s with regs := s.regs.set a ((x - y) % 4294967296) } c a b n o ∧ Fr (fun i => i = B) w w' := by
  have H := hid h
  have HX := hid hx
  have HY := hid hy
  clear h hx hy
  go_enter Tryz.func130, Tryz.ntmps130
  go_wp2_with fail
  refine (first_any _ B s c b n a o ?_ h8 x HX.out).mono ?_
  exact H.out
  rintro e w1 ⟨rfl, m1, rfl⟩
  go_wp2_with fail
  refine (second_any _ B s c a n b o ?_ h8 y HY.out).mono ?_
  exact H.out
  rintro e w1 ⟨rfl, m2, rfl⟩
  go_wp2_with fail
  refine (become_any _ B s c b n a o ?_ h8 ha _).mono ?_
  exact H.out
  rintro e w2 ⟨rfl, hw2, hf2⟩
  have HW2 := hid hw2
  have HF2 := hid hf2
  clear hw2 hf2
  go_wp2_with fail
  go_ret
  exact ⟨rfl, HW2.out, HF2.out.ofDrewN⟩

set_option maxRecDepth 100000 in
set_option maxHeartbeats 1000000 in
theorem mul_any (w : World) (B : Nat) (s : StV) (c n : Int) (a b : Nat) (o : Value) (h : WorkAt w B s c a b n o) (h8 : s.regs.length = 8) (ha : a < 8) (x y : Int) (hx : s.regs[a]? = some x) (hy : s.regs[b]? = some y) (x0 : 0 ≤ x) (x1 : x < 4294967296) (y0 : 0 ≤ y) (y1 : y < 4294967296) :
    Calls Tryz.prog 131 #[.pointer (some ⟨B, 0, none⟩)] w fun e w' => e = .returned (.int .i64 0) ∧ WorkAt w' B { s with regs := s.regs.set a (x * y % 4294967296) } c a b n o ∧ Fr (fun i => i = B) w w' := by
  have H := hid h
  have HX := hid hx
  have HY := hid hy
  clear h hx hy
  go_enter Tryz.func131, Tryz.ntmps131
  go_wp2_with fail
  refine (first_any _ B s c b n a o ?_ h8 x HX.out).mono ?_
  exact H.out
  rintro e w1 ⟨rfl, m1, rfl⟩
  go_wp2_with fail
  refine (second_any _ B s c a n b o ?_ h8 y HY.out).mono ?_
  exact H.out
  rintro e w1 ⟨rfl, m2, rfl⟩
  go_wp2_with fail
  refine (become_any _ B s c b n a o ?_ h8 ha _).mono ?_
  exact H.out
  rintro e w2 ⟨rfl, hw2, hf2⟩
  have HW2 := hid hw2
  have HF2 := hid hf2
  clear hw2 hf2
  go_wp2_with fail
  go_ret
  exact ⟨rfl, HW2.out, HF2.out.ofDrewN⟩

set_option maxRecDepth 100000 in
set_option maxHeartbeats 1000000 in
theorem and_any (w : World) (B : Nat) (s : StV) (c n : Int) (a b : Nat) (o : Value) (h : WorkAt w B s c a b n o) (h8 : s.regs.length = 8) (ha : a < 8) (x y : Int) (hx : s.regs[a]? = some x) (hy : s.regs[b]? = some y) (x0 : 0 ≤ x) (x1 : x < 4294967296) (y0 : 0 ≤ y) (y1 : y < 4294967296) :
    Calls Tryz.prog 133 #[.pointer (some ⟨B, 0, none⟩)] w fun e w' => e = .returned (.int .i64 0) ∧ WorkAt w' B { s with regs := s.regs.set a (((x.toNat &&& y.toNat : Nat) : Int)) } c a b n o ∧ Fr (fun i => i = B) w w' := by
  have H := hid h
  have HX := hid hx
  have HY := hid hy
  have hb := u32_and x y x0 x1 y0 y1
  clear h hx hy
  go_enter Tryz.func133, Tryz.ntmps133
  go_wp2_with fail
  refine (first_any _ B s c b n a o ?_ h8 x HX.out).mono ?_
  exact H.out
  rintro e w1 ⟨rfl, m1, rfl⟩
  go_wp2_with fail
  refine (second_any _ B s c a n b o ?_ h8 y HY.out).mono ?_
  exact H.out
  rintro e w1 ⟨rfl, m2, rfl⟩
  go_wp2_with fail
  refine (become_any _ B s c b n a o ?_ h8 ha _).mono ?_
  exact H.out
  rintro e w2 ⟨rfl, hw2, hf2⟩
  have HW2 := hid hw2
  have HF2 := hid hf2
  clear hw2 hf2
  go_wp2_with fail
  go_ret
  exact ⟨rfl, HW2.out, HF2.out.ofDrewN⟩

set_option maxRecDepth 100000 in
set_option maxHeartbeats 1000000 in
theorem or_any (w : World) (B : Nat) (s : StV) (c n : Int) (a b : Nat) (o : Value) (h : WorkAt w B s c a b n o) (h8 : s.regs.length = 8) (ha : a < 8) (x y : Int) (hx : s.regs[a]? = some x) (hy : s.regs[b]? = some y) (x0 : 0 ≤ x) (x1 : x < 4294967296) (y0 : 0 ≤ y) (y1 : y < 4294967296) :
    Calls Tryz.prog 134 #[.pointer (some ⟨B, 0, none⟩)] w fun e w' => e = .returned (.int .i64 0) ∧ WorkAt w' B { s with regs := s.regs.set a (((x.toNat ||| y.toNat : Nat) : Int)) } c a b n o ∧ Fr (fun i => i = B) w w' := by
  have H := hid h
  have HX := hid hx
  have HY := hid hy
  have hb := u32_or x y x0 x1 y0 y1
  clear h hx hy
  go_enter Tryz.func134, Tryz.ntmps134
  go_wp2_with fail
  refine (first_any _ B s c b n a o ?_ h8 x HX.out).mono ?_
  exact H.out
  rintro e w1 ⟨rfl, m1, rfl⟩
  go_wp2_with fail
  refine (second_any _ B s c a n b o ?_ h8 y HY.out).mono ?_
  exact H.out
  rintro e w1 ⟨rfl, m2, rfl⟩
  go_wp2_with fail
  refine (become_any _ B s c b n a o ?_ h8 ha _).mono ?_
  exact H.out
  rintro e w2 ⟨rfl, hw2, hf2⟩
  have HW2 := hid hw2
  have HF2 := hid hf2
  clear hw2 hf2
  go_wp2_with fail
  go_ret
  exact ⟨rfl, HW2.out, HF2.out.ofDrewN⟩

set_option maxRecDepth 100000 in
set_option maxHeartbeats 1000000 in
theorem xor_any (w : World) (B : Nat) (s : StV) (c n : Int) (a b : Nat) (o : Value) (h : WorkAt w B s c a b n o) (h8 : s.regs.length = 8) (ha : a < 8) (x y : Int) (hx : s.regs[a]? = some x) (hy : s.regs[b]? = some y) (x0 : 0 ≤ x) (x1 : x < 4294967296) (y0 : 0 ≤ y) (y1 : y < 4294967296) :
    Calls Tryz.prog 135 #[.pointer (some ⟨B, 0, none⟩)] w fun e w' => e = .returned (.int .i64 0) ∧ WorkAt w' B { s with regs := s.regs.set a (((x.toNat ^^^ y.toNat : Nat) : Int)) } c a b n o ∧ Fr (fun i => i = B) w w' := by
  have H := hid h
  have HX := hid hx
  have HY := hid hy
  have hb := u32_xor x y x0 x1 y0 y1
  clear h hx hy
  go_enter Tryz.func135, Tryz.ntmps135
  go_wp2_with fail
  refine (first_any _ B s c b n a o ?_ h8 x HX.out).mono ?_
  exact H.out
  rintro e w1 ⟨rfl, m1, rfl⟩
  go_wp2_with fail
  refine (second_any _ B s c a n b o ?_ h8 y HY.out).mono ?_
  exact H.out
  rintro e w1 ⟨rfl, m2, rfl⟩
  go_wp2_with fail
  refine (become_any _ B s c b n a o ?_ h8 ha _).mono ?_
  exact H.out
  rintro e w2 ⟨rfl, hw2, hf2⟩
  have HW2 := hid hw2
  have HF2 := hid hf2
  clear hw2 hf2
  go_wp2_with fail
  go_ret
  exact ⟨rfl, HW2.out, HF2.out.ofDrewN⟩

set_option maxRecDepth 100000 in
set_option maxHeartbeats 1000000 in
theorem left_any (w : World) (B : Nat) (s : StV) (c n : Int) (a b : Nat) (o : Value) (h : WorkAt w B s c a b n o) (h8 : s.regs.length = 8) (ha : a < 8) (x y : Int) (hx : s.regs[a]? = some x) (hy : s.regs[b]? = some y) (x0 : 0 ≤ x) (x1 : x < 4294967296) (y0 : 0 ≤ y) (y1 : y < 4294967296) :
    Calls Tryz.prog 136 #[.pointer (some ⟨B, 0, none⟩)] w fun e w' => e = .returned (.int .i64 0) ∧ WorkAt w' B { s with regs := s.regs.set a (x * 2 ^ (y % 32).toNat % 4294967296) } c a b n o ∧ Fr (fun i => i = B) w w' := by
  have H := hid h
  have HX := hid hx
  have HY := hid hy
  clear h hx hy
  go_enter Tryz.func136, Tryz.ntmps136
  go_wp2_with fail
  refine (first_any _ B s c b n a o ?_ h8 x HX.out).mono ?_
  exact H.out
  rintro e w1 ⟨rfl, m1, rfl⟩
  go_wp2_with fail
  refine (second_any _ B s c a n b o ?_ h8 y HY.out).mono ?_
  exact H.out
  rintro e w1 ⟨rfl, m2, rfl⟩
  go_wp2_with fail
  refine (become_any _ B s c b n a o ?_ h8 ha _).mono ?_
  exact H.out
  rintro e w2 ⟨rfl, hw2, hf2⟩
  have HW2 := hid hw2
  have HF2 := hid hf2
  clear hw2 hf2
  go_wp2_with fail
  go_ret
  exact ⟨rfl, HW2.out, HF2.out.ofDrewN⟩

set_option maxRecDepth 100000 in
set_option maxHeartbeats 1000000 in
theorem right_any (w : World) (B : Nat) (s : StV) (c n : Int) (a b : Nat) (o : Value) (h : WorkAt w B s c a b n o) (h8 : s.regs.length = 8) (ha : a < 8) (x y : Int) (hx : s.regs[a]? = some x) (hy : s.regs[b]? = some y) (x0 : 0 ≤ x) (x1 : x < 4294967296) (y0 : 0 ≤ y) (y1 : y < 4294967296) :
    Calls Tryz.prog 137 #[.pointer (some ⟨B, 0, none⟩)] w fun e w' => e = .returned (.int .i64 0) ∧ WorkAt w' B { s with regs := s.regs.set a (x / 2 ^ (y % 32).toNat) } c a b n o ∧ Fr (fun i => i = B) w w' := by
  have H := hid h
  have HX := hid hx
  have HY := hid hy
  clear h hx hy
  go_enter Tryz.func137, Tryz.ntmps137
  go_wp2_with fail
  refine (first_any _ B s c b n a o ?_ h8 x HX.out).mono ?_
  exact H.out
  rintro e w1 ⟨rfl, m1, rfl⟩
  go_wp2_with fail
  refine (second_any _ B s c a n b o ?_ h8 y HY.out).mono ?_
  exact H.out
  rintro e w1 ⟨rfl, m2, rfl⟩
  go_wp2_with fail
  refine (become_any _ B s c b n a o ?_ h8 ha _).mono ?_
  exact H.out
  rintro e w2 ⟨rfl, hw2, hf2⟩
  have HW2 := hid hw2
  have HF2 := hid hf2
  clear hw2 hf2
  go_wp2_with fail
  go_ret
  exact ⟨rfl, HW2.out, HF2.out.ofDrewN⟩

set_option maxRecDepth 100000 in
set_option maxHeartbeats 1000000 in
theorem move_any (w : World) (B : Nat) (s : StV) (c n : Int) (a b : Nat) (o : Value) (h : WorkAt w B s c a b n o) (h8 : s.regs.length = 8) (ha : a < 8) (x y : Int) (hx : s.regs[a]? = some x) (hy : s.regs[b]? = some y) (x0 : 0 ≤ x) (x1 : x < 4294967296) (y0 : 0 ≤ y) (y1 : y < 4294967296) :
    Calls Tryz.prog 128 #[.pointer (some ⟨B, 0, none⟩)] w fun e w' => e = .returned (.int .i64 0) ∧ WorkAt w' B { s with regs := s.regs.set a (y) } c a b n o ∧ Fr (fun i => i = B) w w' := by
  have H := hid h
  have HX := hid hx
  have HY := hid hy
  clear h hx hy
  go_enter Tryz.func128, Tryz.ntmps128
  go_wp2_with fail
  refine (second_any _ B s c a n b o ?_ h8 y HY.out).mono ?_
  exact H.out
  rintro e w1 ⟨rfl, m2, rfl⟩
  go_wp2_with fail
  refine (become_any _ B s c b n a o ?_ h8 ha _).mono ?_
  exact H.out
  rintro e w2 ⟨rfl, hw2, hf2⟩
  have HW2 := hid hw2
  have HF2 := hid hf2
  clear hw2 hf2
  go_wp2_with fail
  go_ret
  exact ⟨rfl, HW2.out, HF2.out.ofDrewN⟩

set_option maxRecDepth 100000 in
set_option maxHeartbeats 1000000 in
theorem wload_any (w : World) (B : Nat) (s : StV) (c n : Int) (a b : Nat) (o : Value) (h : WorkAt w B s c a b n o) (h8 : s.regs.length = 8) (ha : a < 8) (x y : Int) (hx : s.regs[a]? = some x) (hy : s.regs[b]? = some y) (x0 : 0 ≤ x) (x1 : x < 4294967296) (y0 : 0 ≤ y) (y1 : y < 4294967296) :
    Calls Tryz.prog 126 #[.pointer (some ⟨B, 0, none⟩)] w fun e w' => e = .returned (.int .i64 0) ∧ WorkAt w' B { s with regs := s.regs.set a (n) } c a b n o ∧ Fr (fun i => i = B) w w' := by
  have H := hid h
  have HX := hid hx
  have HY := hid hy
  have cn : w.cell? ⟨B, 16, none⟩ = some (.int .u32 n) := h.at h8 8
  clear h hx hy
  go_enter Tryz.func126, Tryz.ntmps126
  go_wp2_with fail
  refine (become_any _ B s c b n a o ?_ h8 ha _).mono ?_
  exact H.out
  rintro e w2 ⟨rfl, hw2, hf2⟩
  have HW2 := hid hw2
  have HF2 := hid hf2
  clear hw2 hf2
  go_wp2_with fail
  go_ret
  exact ⟨rfl, HW2.out, HF2.out⟩

set_option maxRecDepth 100000 in
set_option maxHeartbeats 1000000 in
theorem div_any (w : World) (B : Nat) (s : StV) (c n : Int) (a b : Nat) (o : Value) (h : WorkAt w B s c a b n o) (h8 : s.regs.length = 8) (ha : a < 8) (x y : Int) (hx : s.regs[a]? = some x) (hy : s.regs[b]? = some y) (x0 : 0 ≤ x) (x1 : x < 4294967296) (y0 : 0 ≤ y) (y1 : y < 4294967296) (hnz : ¬ y = 0) :
    Calls Tryz.prog 132 #[.pointer (some ⟨B, 0, none⟩)] w fun e w' => e = .returned (.int .i64 0) ∧ WorkAt w' B { s with regs := s.regs.set a (x / y) } c a b n o ∧ Fr (fun i => i = B) w w' := by
  have H := hid h
  have HX := hid hx
  have HY := hid hy
  have hd : x.tdiv y = x / y := Int.tdiv_eq_ediv_of_nonneg x0
  have hdm : x / y % 4294967296 = x / y := Int.emod_eq_of_lt (Int.ediv_nonneg x0 y0) (Int.lt_of_le_of_lt (Int.ediv_le_self y x0) x1)
  clear h hx hy
  go_enter Tryz.func132, Tryz.ntmps132
  go_wp2_with fail
  refine (second_any _ B s c a n b o ?_ h8 y HY.out).mono ?_
  exact H.out
  rintro e w1 ⟨rfl, m2, rfl⟩
  go_wp2_with fail
  refine (first_any _ B s c b n a o ?_ h8 x HX.out).mono ?_
  exact H.out
  rintro e w1 ⟨rfl, m1, rfl⟩
  go_wp2_with fail
  refine (second_any _ B s c a n b o ?_ h8 y HY.out).mono ?_
  exact H.out
  rintro e w1 ⟨rfl, m3, rfl⟩
  go_wp2_with fail
  refine (become_any _ B s c b n a o ?_ h8 ha _).mono ?_
  exact H.out
  rintro e w2 ⟨rfl, hw2, hf2⟩
  have HW2 := hid hw2
  have HF2 := hid hf2
  clear hw2 hf2
  go_wp2_with fail
  go_ret
  exact ⟨rfl, HW2.out, HF2.out.ofDrewN⟩

set_option maxRecDepth 100000 in
set_option maxHeartbeats 1000000 in
theorem jumpIf_any (w : World) (B : Nat) (s : StV) (c a b n : Int) (o : Value) (h : WorkAt w B s c a b n o) (h8 : s.regs.length = 8) (t : Bool) :
    Calls Tryz.prog 148 #[.pointer (some ⟨B, 0, none⟩), .bool t] w fun e w' => e = .returned (.int .i64 0) ∧ WorkAt w' B { s with place := jmp t n s.place } c a b n o ∧ Fr (fun i => i = B) w w' := by
  have H := hid h
  have cn : w.cell? ⟨B, 16, none⟩ = some (.int .u32 n) := h.at h8 8
  have cp : w.cell? ⟨B, 8, none⟩ = some (.int .u32 s.place) := h.at h8 0
  have fp : w.frozen? ⟨B, 8, none⟩ = false := row_frozen h 8
  clear h
  cases t with
  | false =>
    go_enter Tryz.func148, Tryz.ntmps148
    go_wp2_with fail
    go_ret
    exact ⟨rfl, H.out, Fr.refl _ _⟩
  | true =>
    go_enter Tryz.func148, Tryz.ntmps148
    have HW2 := hid (H.out.setPlace h8 n)
    go_wp2_with fail
    go_ret
    exact ⟨rfl, HW2.out, Fr.one w B 8 _⟩

set_option maxRecDepth 100000 in
set_option maxHeartbeats 1000000 in
theorem jump_any (w : World) (B : Nat) (s : StV) (c n : Int) (a b : Nat) (o : Value) (h : WorkAt w B s c a b n o) (h8 : s.regs.length = 8) (x : Int) (hx : s.regs[a]? = some x) (x0 : 0 ≤ x) (x1 : x < 4294967296) :
    Calls Tryz.prog 140 #[.pointer (some ⟨B, 0, none⟩)] w fun e w' => e = .returned (.int .i64 0) ∧ WorkAt w' B { s with place := jmp true n s.place } c a b n o ∧ Fr (fun i => i = B) w w' := by
  have H := hid h
  have HX := hid hx
  clear h hx
  go_enter Tryz.func140, Tryz.ntmps140
  go_wp2_with fail
  refine (jumpIf_any _ B s c a b n o ?_ h8 true).mono ?_
  exact H.out
  rintro e w2 ⟨rfl, hw2, hf2⟩
  have HW2 := hid hw2
  have HF2 := hid hf2
  clear hw2 hf2
  go_wp2_with fail
  go_ret
  exact ⟨rfl, HW2.out, HF2.out⟩

set_option maxRecDepth 100000 in
set_option maxHeartbeats 1000000 in
theorem zero_any (w : World) (B : Nat) (s : StV) (c n : Int) (a b : Nat) (o : Value) (h : WorkAt w B s c a b n o) (h8 : s.regs.length = 8) (x : Int) (hx : s.regs[a]? = some x) (x0 : 0 ≤ x) (x1 : x < 4294967296) :
    Calls Tryz.prog 141 #[.pointer (some ⟨B, 0, none⟩)] w fun e w' => e = .returned (.int .i64 0) ∧ WorkAt w' B { s with place := jmp (x == 0) n s.place } c a b n o ∧ Fr (fun i => i = B) w w' := by
  have H := hid h
  have HX := hid hx
  clear h hx
  go_enter Tryz.func141, Tryz.ntmps141
  go_wp2_with fail
  refine (first_any _ B s c b n a o ?_ h8 x HX.out).mono ?_
  exact H.out
  rintro e w1 ⟨rfl, m1, rfl⟩
  go_wp2_with fail
  refine (jumpIf_any _ B s c a b n o ?_ h8 _).mono ?_
  exact H.out
  rintro e w2 ⟨rfl, hw2, hf2⟩
  have HW2 := hid hw2
  have HF2 := hid hf2
  clear hw2 hf2
  go_wp2_with fail
  go_ret
  exact ⟨rfl, HW2.out, HF2.out.ofDrewN⟩

set_option maxRecDepth 100000 in
set_option maxHeartbeats 1000000 in
theorem minus_any (w : World) (B : Nat) (s : StV) (c n : Int) (a b : Nat) (o : Value) (h : WorkAt w B s c a b n o) (h8 : s.regs.length = 8) (x : Int) (hx : s.regs[a]? = some x) (x0 : 0 ≤ x) (x1 : x < 4294967296) :
    Calls Tryz.prog 142 #[.pointer (some ⟨B, 0, none⟩)] w fun e w' => e = .returned (.int .i64 0) ∧ WorkAt w' B { s with place := jmp (x / 2147483648 == 1) n s.place } c a b n o ∧ Fr (fun i => i = B) w w' := by
  have H := hid h
  have HX := hid hx
  clear h hx
  go_enter Tryz.func142, Tryz.ntmps142
  go_wp2_with fail
  refine (first_any _ B s c b n a o ?_ h8 x HX.out).mono ?_
  exact H.out
  rintro e w1 ⟨rfl, m1, rfl⟩
  go_wp2_with fail
  refine (jumpIf_any _ B s c a b n o ?_ h8 _).mono ?_
  exact H.out
  rintro e w2 ⟨rfl, hw2, hf2⟩
  have HW2 := hid hw2
  have HF2 := hid hf2
  clear hw2 hf2
  go_wp2_with fail
  go_ret
  exact ⟨rfl, HW2.out, HF2.out.ofDrewN⟩

set_option maxRecDepth 100000 in
set_option maxHeartbeats 1000000 in
theorem div_no (w : World) (B : Nat) (s : StV) (c n : Int) (a b : Nat) (o : Value) (h : WorkAt w B s c a b n o) (h8 : s.regs.length = 8) (hy : s.regs[b]? = some 0) :
    Calls Tryz.prog 132 #[.pointer (some ⟨B, 0, none⟩)] w fun e w' => e = .returned (.int .i64 2) ∧ Fr (fun _ => False) w w' := by
  have H := hid h
  have HY := hid hy
  clear h hy
  go_enter Tryz.func132, Tryz.ntmps132
  go_wp2_with fail
  refine (second_any _ B s c a n b o ?_ h8 0 HY.out).mono ?_
  exact H.out
  rintro e w1 ⟨rfl, m2, rfl⟩
  go_wp2_with fail
  go_ret
  exact ⟨rfl, (Fr.refl _ w).drewN _⟩

set_option maxRecDepth 100000 in
set_option maxHeartbeats 1000000 in
theorem address_any (w : World) (B : Nat) (s : StV) (c a n : Int) (b : Nat) (o : Value) (h : WorkAt w B s c a b n o) (h8 : s.regs.length = 8) (y : Int) (hy : s.regs[b]? = some y) :
    Calls Tryz.prog 147 #[.pointer (some ⟨B, 0, none⟩)] w fun e w' => e = .returned (.int .u32 ((y + n) % 4294967296)) ∧ ∃ m, w' = w.drewN m := by
  have H := hid h
  have HY := hid hy
  have cn : w.cell? ⟨B, 16, none⟩ = some (.int .u32 n) := h.at h8 8
  clear h hy
  go_enter Tryz.func147, Tryz.ntmps147
  go_wp2_with fail
  go_quiet ((go_at_call 146; exact Calls.quiet_of (second_any _ B s c a n b o (H.out.drewN _) h8 y HY.out)))
  go_wp2_with fail
  go_ret
  exact ⟨rfl, _, rfl⟩

set_option maxRecDepth 100000 in
set_option maxHeartbeats 1000000 in
theorem high_any (w : World) (B : Nat) (s : StV) (c n : Int) (a b : Nat) (o : Value) (h : WorkAt w B s c a b n o) (h8 : s.regs.length = 8) (ha : a < 8) (x : Int) (hx : s.regs[a]? = some x) (x0 : 0 ≤ x) (x1 : x < 4294967296) :
    Calls Tryz.prog 127 #[.pointer (some ⟨B, 0, none⟩)] w fun e w' => e = .returned (.int .i64 0) ∧ WorkAt w' B { s with regs := s.regs.set a ((x * 65536 + n) % 4294967296) } c a b n o ∧ Fr (fun i => i = B) w w' := by
  have H := hid h
  have HX := hid hx
  have cn : w.drew.cell? ⟨B, 16, none⟩ = some (.int .u32 n) := h.at h8 8
  have hw1 : IntKind.u32.wrap (x * 65536) = x * 65536 % 4294967296 := by rw [IntKind.wrap_u32]
  have hw2 : IntKind.u32.wrap (x * 65536 % 4294967296 + n) = (x * 65536 + n) % 4294967296 := by rw [IntKind.wrap_u32]; omega
  have cn2 : ∀ m, (w.drewN m).cell? ⟨B, 16, none⟩ = some (.int .u32 n) := fun m => h.at h8 8
  clear h hx
  go_enter Tryz.func127, Tryz.ntmps127
  go_wp2_with fail
  go_region_law
    (first
      | (refine step_call Tryz.func145 (by kernel_rfl) (by kernel_rfl) (by rfl) (by rfl) [.pointer (some ⟨B, 0, none⟩)] (by rfl) ((first_any _ B s c b n a o ?_ h8 x HX.out).mono ?_); exact H.out; rintro e w1 ⟨rfl, m1, rfl⟩; refine ⟨_, rfl, ?_⟩)
      | (refine step_call Tryz.func144 (by kernel_rfl) (by kernel_rfl) (by rfl) (by rfl) [.pointer (some ⟨B, 0, none⟩), .int .u32 ((x * 65536 + n) % 4294967296)] (by rfl) ((become_any _ B s c b n a o ?_ h8 ha _).mono ?_); exact H.out; rintro e w2 ⟨rfl, hw3, hf3⟩; refine ⟨_, rfl, ?_⟩))
  all_goals
    have HW := hid hw3
    have HF := hid hf3
    clear hw3 hf3 cn cn2 hw1 hw2
    go_wp2_with fail
    go_ret
    exact ⟨rfl, HW.out, HF.out.ofDrewN⟩

end Go.Proofs.YthmcheoehcmglaaGreat
