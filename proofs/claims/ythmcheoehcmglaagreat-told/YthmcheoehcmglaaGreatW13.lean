/- The processor: Cycle. -/
import Derived.Test.YthmcheoehcmglaaGreatP8
import Derived.Test.YthmcheoehcmglaaGreatR0
namespace Go.Proofs.YthmcheoehcmglaaGreat
open Go.RowKit
set_option linter.unusedVariables false
attribute [local go_sem ↓] Go.wp_at_zero Go.wp_at_succ

set_option maxRecDepth 100000 in
set_option maxHeartbeats 4000000 in
theorem cycle_st {σ : Type} {O : Ops σ} {rv : Value} {S W : Nat → Prop} {R Q : σ → World → Prop} (ok : OutOk O rv S W R Q) (w : World) (m : σ) (hR : R m w) (b off : Nat) (T : TypeId) (L : List Value) (s : StV) (h : StAt w b off T L s) (hb : ¬ W b) (hs : StB s) :
    Calls Tryz.prog 63 #[.pointer (some ⟨b, off, none⟩), .iface 139 rv] w fun e w' => CycPost Q W b off T L (cycleM O s m) w e w' := by
  have H := hid h
  have HOK := hid ok
  have HR := hid hR
  have HS := hid hs
  have h8 := hs.l
  have b0 := hs.b0
  have b1 := hs.b1
  have HGO := hid (goesOn_any w b off s (h.at h8 1 (by omega)) (h.at h8 4 (by omega)))
  have HST := hid (step_any ok w m hR b off T L s h hb hs)
  have HCM : Hid (cycleM O s m = if goes s = false then (s, m) else if 0 < s.busy then ({ s with busy := s.busy - 1 }, m) else stepM O s m) := rfl
  generalize stepM O s m = q at *
  generalize cycleM O s m = cq at *
  have cB : w.cell? ⟨b, off + 11, none⟩ = some (.int .i64 s.busy) := h.at h8 3 (by omega)
  have fB : w.frozen? ⟨b, off + 11, none⟩ = false := row_frozen h.h _
  clear h ok hR hs
  cases hg : goes s with
  | false =>
    rw [hg] at HGO HCM
    go_enter Tryz.func63, Tryz.ntmps63
    go_wp2_with fail
    refine HGO.out.mono ?_
    rintro e w1 ⟨rfl, rfl⟩
    go_wp2_with fail
    go_end0
    rw [show cq = (s, m) from HCM.out]
    refine ⟨rfl, w1, HOK.out.toQ _ _ HR.out, Fr.refl _ _, Fr.refl _ _, ?_⟩
    rw [splice_self H.out.l H.out.c]
    exact H.out
  | true =>
    rw [hg] at HGO HCM
    by_cases hbz : 0 < s.busy
    · have HCM2 : Hid (cq = ({ s with busy := s.busy - 1 }, m)) := by unfold Hid; rw [HCM.out, if_neg (by simp), if_pos hbz]
      have HA := hid (H.out.set (s' := { s with busy := s.busy - 1 }) 11 (by omega) (.int .i64 (s.busy - 1)) (by obtain ⟨r0, r1, r2, r3, r4, r5, r6, r7, hr⟩ := st13 _ h8; unfold stCells; simp only [hr]; rfl))
      clear HCM
      go_enter Tryz.func63, Tryz.ntmps63
      go_wp2_with fail
      refine HGO.out.mono ?_
      rintro e w1 ⟨rfl, rfl⟩
      go_wp2_with fail
      go_end0
      rw [HCM2.out]
      exact ⟨rfl, w1, HOK.out.toQ _ _ HR.out, Fr.refl _ _, Fr.one w1 b (off + 11) _, HA.out⟩
    · have HCM2 : Hid (cq = q) := by unfold Hid; rw [HCM.out, if_neg (by simp), if_neg hbz]
      clear HCM
      go_enter Tryz.func63, Tryz.ntmps63
      go_wp2_with fail
      refine HGO.out.mono ?_
      rintro e w1 ⟨rfl, rfl⟩
      go_wp2_with fail
      refine HST.out.mono ?_
      rintro e w2 ⟨rfl, hp⟩
      have HP := hid hp
      clear hp
      go_wp2_with fail
      go_end0
      rw [HCM2.out]
      exact ⟨rfl, HP.out⟩

end Go.Proofs.YthmcheoehcmglaaGreat
/- What a ward reaches in its turn: Get and Put, with devices; the whole outside. -/
namespace Go.Proofs.YthmcheoehcmglaaGreat
open Go.RowKit
set_option linter.unusedVariables false
attribute [local go_sem ↓] Go.wp_at_zero Go.wp_at_succ

/-- What a ward reads and writes: the memory, the devices. -/
abbrev MemD := List Int × List DevV

def getM (x : KX) (k : Nat) (m : MemD) (a : Int) : Option Int :=
  match findDev (x.dvs.getD k []) 0 a with
  | some d => some (m.2.getD d.toNat (0, [])).1
  | none => readM (x.regs.getD k []) 1 m.1 a
def putD (devs : List DevV) (i : Nat) (v : Int) : List DevV := devs.set i ((devs.getD i (0, [])).1, (devs.getD i (0, [])).2 ++ [v])
def putM (x : KX) (k : Nat) (m : MemD) (a v : Int) : Option MemD :=
  match findDev (x.dvs.getD k []) 1 a with
  | some d => some (m.1, putD m.2 d.toNat v)
  | none => (findR 2 a (x.regs.getD k [])).map (fun i => (m.1.set i.toNat v, m.2))
def opsK (x : KX) (k : Nat) (ck : Int) : Ops MemD where
  fetch m a := readM (x.regs.getD k []) 4 m.1 a
  get m a := getM x k m a
  put m a v := putM x k m a v
  call m s n := ((callM x k ck s m.1 n.toNat).1, (callM x k ck s m.1 n.toNat).2.1, ((callM x k ck s m.1 n.toNat).2.2, m.2))

theorem findDev_bd {ds : List Int} {part a d : Int} {n : Nat} (hb : ∀ d ∈ ds, 0 ≤ d ∧ d < n) (h : findDev ds part a = some d) : 0 ≤ d ∧ d < n := by
  unfold findDev at h
  split at h
  · cases h
    rename_i hh
    have hi : ((a - 32768) / 2).toNat < ds.length := by omega
    rw [List.getD_eq_getElem?_getD, List.getElem?_eq_getElem hi]
    exact hb _ (List.getElem_mem hi)
  · cases h

theorem getD_of {α : Type} {l : List α} {i : Nat} {x d : α} (h : l[i]? = some x) : l.getD i d = x := by rw [List.getD_eq_getElem?_getD, h]; rfl

set_option maxRecDepth 100000 in
set_option maxHeartbeats 2000000 in
theorem tget_any (x : KX) (ck : Int) (m : MemD) (vL : List Value) (w : World) (h : KerR x ck m.1 w) (hD : DevR x.gD x.dn m.2 vL w) (k : Nat) (hk : k < x.regs.length) (a : Int) (a0 : 0 ≤ a) (a1 : a < 4294967296) :
    Calls Tryz.prog 166 #[turnVal x k, .int .u32 a] w fun e w' => e = .returned (.tuple #[.int .u32 ((getM x k m a).getD 0), .bool (getM x k m a).isSome]) ∧ Fr (fun _ => False) w w' := by
  have hk2 : k < x.dvs.length := by rw [h.dl]; exact hk
  obtain ⟨rs, hrs⟩ : ∃ rs, x.regs[k]? = some rs := ⟨_, List.getElem?_eq_getElem hk⟩
  obtain ⟨ds, hds⟩ : ∃ ds, x.dvs[k]? = some ds := ⟨_, List.getElem?_eq_getElem hk2⟩
  have HQ : Hid (getM x k m a = match findDev ds 0 a with | some d => some (m.2.getD d.toNat (0, [])).1 | none => readM rs 1 m.1 a) := by unfold Hid getM; rw [getD_of hds, getD_of hrs]
  have HDV := hid (fun (w1 : World) (hf : Fr (fun _ => False) w w1) => tdevice_any x ck m.1 w1 (h.frF hf) k ds hds 0 a (by omega) (by omega) a0 a1)
  have HRD := hid (fun (w1 : World) (hf : Fr (fun _ => False) w w1) => tread_any x ck m.1 w1 (h.frF hf) k rs hrs 1 a (by omega) (by omega) a0 a1)
  have HBD : Hid (∀ d, findDev ds 0 a = some d → 0 ≤ d ∧ d < x.dn) := fun d hd => findDev_bd (h.db ds (List.mem_of_getElem? hds)).2 hd
  have HDD := hid hD
  generalize readM rs 1 m.1 a = q at *
  generalize findDev ds 0 a = fd at *
  generalize getM x k m a = r at *
  unfold turnVal
  clear h hD hrs hds
  cases fd with
  | none =>
    replace HQ : Hid (r = q) := HQ
    go_enter Tryz.func166, Tryz.ntmps166
    go_wp2_with fail
    refine (HDV.out _ ((Fr.refl _ w).alloc _)).mono ?_
    rintro e w1 ⟨rfl, hf1⟩
    have HF1 := hid (((Fr.refl _ w).alloc _).step hf1 (fun _ h => .inl h))
    have HB := hid (hf1.get (heap_alloc_new w _) id)
    have b0 : w1.cell? ⟨w.heap.size, 0, none⟩ = some (.pointer (some ⟨x.X, 0, none⟩)) := row_cell HB.out 0
    have b1 : w1.cell? ⟨w.heap.size, 1, none⟩ = some (.int .i64 k) := row_cell HB.out 1
    clear hf1
    go_wp2_with fail
    refine (HRD.out _ HF1.out).mono ?_
    rintro e w2 ⟨rfl, hf2⟩
    have HF2 := hid (HF1.out.step hf2 (fun _ h => .inl h))
    clear hf2
    go_wp2_with fail
    go_ret2
    rw [HQ.out]
    exact ⟨rfl, HF2.out⟩
  | some d =>
    have hd := HBD.out d rfl
    obtain ⟨j, rfl⟩ := Int.eq_ofNat_of_zero_le hd.1
    have hj : j < x.dn := by omega
    have hj1 : j < m.2.length := by rw [HDD.out.n1]; exact hj
    have hj2 : j < vL.length := by rw [HDD.out.n2]; exact hj
    obtain ⟨dv, hdv⟩ : ∃ dv, m.2[j]? = some dv := ⟨_, List.getElem?_eq_getElem hj1⟩
    have hc := (dev_get m.2 vL j dv _ hdv (List.getElem?_eq_getElem hj2)).1
    replace HQ : Hid (r = some dv.1) := by
      have h1 := HQ.out
      simp only [Int.toNat_natCast, getD_of hdv] at h1
      exact h1
    have HC : Hid (∀ w1, Fr (fun _ => False) w w1 → w1.cell? ⟨x.gD, j * 2, none⟩ = some (.int .u32 dv.1)) := fun w1 hf => (row_cell (HDD.out.frF hf).hd _).trans (by rw [List.getElem?_toArray]; exact hc)
    simp only [Option.map_some, Int.toNat_natCast, Option.isSome_some] at HDV
    clear hd hc hdv
    go_enter Tryz.func166, Tryz.ntmps166
    go_wp2_with fail
    refine (HDV.out _ ((Fr.refl _ w).alloc _)).mono ?_
    rintro e w1 ⟨rfl, hf1⟩
    have HF1 := hid (((Fr.refl _ w).alloc _).step hf1 (fun _ h => .inl h))
    have c1 := HC.out w1 HF1.out
    clear hf1
    go_wp2_with fail
    go_ret2
    rw [HQ.out]
    exact ⟨rfl, HF1.out⟩

/-- The blocks that a ward's turn reads; those that it writes. -/
def KSd (x : KX) (vL : List Value) (i : Nat) : Prop := KS x i ∨ i = x.gD ∨ ∃ v ∈ vL, v.ownBlock = some i
def KWd (x : KX) (vL : List Value) (i : Nat) : Prop := i = x.M ∨ i = x.gD ∨ ∃ v ∈ vL, v.ownBlock = some i

/-- The logs' blocks are old ones, or new since there were N blocks. -/
def LogsIn (vL vL' : List Value) (N : Nat) : Prop := ∀ v ∈ vL', ∀ b, v.ownBlock = some b → (∃ u ∈ vL, u.ownBlock = some b) ∨ N ≤ b

theorem LogsIn.refl (vL : List Value) (N : Nat) : LogsIn vL vL N := fun v hv b hb => .inl ⟨v, hv, hb⟩

set_option maxRecDepth 100000 in
set_option maxHeartbeats 2000000 in
theorem tput_any (x : KX) (ck : Int) (m : MemD) (vL : List Value) (w : World) (h : KerR x ck m.1 w) (hD : DevR x.gD x.dn m.2 vL w) (hvl : x.vD.length = x.dvs.length) (hL : LogOk m.2) (k : Nat) (hk : k < x.regs.length) (a v : Int) (a0 : 0 ≤ a) (a1 : a < 4294967296) (v0 : 0 ≤ v) (v1 : v < 4294967296) :
    Calls Tryz.prog 167 #[turnVal x k, .int .u32 a, .int .u32 v] w fun e w' => e = .returned (.bool (putM x k m a v).isSome) ∧ (KerR x ck ((putM x k m a v).getD m).1 w' ∧ ∃ vL', DevR x.gD x.dn ((putM x k m a v).getD m).2 vL' w' ∧ LogsIn vL vL' w.heap.size) ∧ Fr (KWd x vL) w w' := by
  have hk2 : k < x.dvs.length := by rw [h.dl]; exact hk
  obtain ⟨rs, hrs⟩ : ∃ rs, x.regs[k]? = some rs := ⟨_, List.getElem?_eq_getElem hk⟩
  obtain ⟨ds, hds⟩ : ∃ ds, x.dvs[k]? = some ds := ⟨_, List.getElem?_eq_getElem hk2⟩
  have HQ : Hid (putM x k m a v = match findDev ds 1 a with | some d => some (m.1, putD m.2 d.toNat v) | none => (findR 2 a rs).map (fun i => (m.1.set i.toNat v, m.2))) := by unfold Hid putM; rw [getD_of hds, getD_of hrs]
  have HDV := hid (fun (w1 : World) (hf : Fr (fun _ => False) w w1) => tdevice_any x ck m.1 w1 (h.frF hf) k ds hds 1 a (by omega) (by omega) a0 a1)
  have HFD := hid (fun (w1 : World) (hf : Fr (fun _ => False) w w1) => tfind_any x ck m.1 w1 (h.frF hf) k rs hrs 2 a (by omega) (by omega) a0 a1)
  have HFB := hid (findR_bd x ck m.1 w h k rs hrs 2 a)
  have HBD : Hid (∀ d, findDev ds 1 a = some d → 0 ≤ d ∧ d < x.dn) := fun d hd => findDev_bd (h.db ds (List.mem_of_getElem? hds)).2 hd
  have HDD := hid hD
  have HR := hid h
  generalize findR 2 a rs = q at *
  generalize findDev ds 1 a = fd at *
  generalize putM x k m a v = r at *
  unfold turnVal
  clear h hD hrs hds
  cases fd with
  | none =>
    replace HQ : Hid (r = q.map (fun i => (m.1.set i.toNat v, m.2))) := HQ
    go_enter Tryz.func167, Tryz.ntmps167
    go_wp2_with fail
    refine (HDV.out _ ((Fr.refl _ w).alloc _)).mono ?_
    rintro e w1 ⟨rfl, hf1⟩
    have HF1 := hid (((Fr.refl _ w).alloc _).step hf1 (fun _ h => .inl h))
    have HB := hid (hf1.get (heap_alloc_new w _) id)
    have b0 : w1.cell? ⟨w.heap.size, 0, none⟩ = some (.pointer (some ⟨x.X, 0, none⟩)) := row_cell HB.out 0
    have b1 : w1.cell? ⟨w.heap.size, 1, none⟩ = some (.int .i64 k) := row_cell HB.out 1
    clear hf1
    go_wp2_with fail
    refine (HFD.out _ HF1.out).mono ?_
    rintro e w2 ⟨rfl, hf2⟩
    have HF2 := hid (HF1.out.step hf2 (fun _ h => .inl h))
    have HB2 := hid (hf2.get HB.out id)
    clear hf2 b0 b1
    cases q with
    | none =>
      go_wp2_with fail
      go_ret
      rw [HQ.out]
      exact ⟨rfl, ⟨HR.out.frF HF2.out, vL, HDD.out.frF HF2.out, LogsIn.refl _ _⟩, HF2.out.toS⟩
    | some i =>
      have hb := HFB.out i rfl
      obtain ⟨j, rfl⟩ := Int.eq_ofNat_of_zero_le hb.1
      have hj : j < x.n := by omega
      have hji : (j : Int) < (x.n : Int) := by omega
      have H1 := hid (HR.out.frF HF2.out)
      have b0 : w2.cell? ⟨w.heap.size, 0, none⟩ = some (.pointer (some ⟨x.X, 0, none⟩)) := row_cell HB2.out 0
      have k0 : w2.cell? ⟨x.X, 0, none⟩ = some (.slice (some ⟨x.M, 0, none⟩) x.n x.n) := row_cell H1.out.hx _
      have m0 := H1.out.word j hj
      have f0 : w2.frozen? ⟨x.M, j, none⟩ = false := row_frozen H1.out.hm j
      have HS := hid (H1.out.set1 j v v0 v1)
      have HDN : Hid (DevR x.gD x.dn m.2 vL (w2.setCell ⟨x.M, j, none⟩ (.int .u32 v))) := by
        have hd2 := HDD.out.frF HF2.out
        refine hd2.fr (Fr.one w2 x.M j _) ?_ ?_
        · intro e
          have h1 := hd2.hd
          rw [e, H1.out.hm] at h1
          simp only [Option.some.injEq, Obj.cells.injEq] at h1
          exact absurd h1.2.1 (by decide)
        · intro u hu b hb e
          obtain ⟨cs, hcs⟩ := hd2.own hu hb
          rw [e, H1.out.hm] at hcs
          simp only [Option.some.injEq, Obj.cells.injEq] at hcs
          exact absurd hcs.2.1 (by decide)
      clear hb
      go_wp2_with fail
      go_ret
      rw [HQ.out]
      exact ⟨rfl, ⟨HS.out, vL, HDN.out, LogsIn.refl _ _⟩, (HF2.out.toS (S := KWd x vL)).setCell (p := ⟨x.M, j, none⟩) (.inl (.inl rfl)) _⟩
  | some d =>
    have hd := HBD.out d rfl
    obtain ⟨j, rfl⟩ := Int.eq_ofNat_of_zero_le hd.1
    have hj : j < x.dn := by omega
    have hj1 : j < m.2.length := by rw [HDD.out.n1]; exact hj
    obtain ⟨dv, hdv⟩ : ∃ dv, m.2[j]? = some dv := ⟨_, List.getElem?_eq_getElem hj1⟩
    replace HQ : Hid (r = some (m.1, m.2.set j (dv.1, dv.2 ++ [v]))) := by
      have h1 := HQ.out
      simp only [Int.toNat_natCast, putD, getD_of hdv] at h1
      exact h1
    have HPT := hid (fun (w1 : World) (hf : Fr (fun _ => False) w w1) => dput_any x.gD x.dn m.2 vL w1 (HDD.out.frF hf) j dv hdv hL v v0 v1)
    simp only [Option.map_some, Int.toNat_natCast, Option.isSome_some] at HDV
    clear hd hdv
    go_enter Tryz.func167, Tryz.ntmps167
    go_wp2_with fail
    refine (HDV.out _ ((Fr.refl _ w).alloc _)).mono ?_
    rintro e w1 ⟨rfl, hf1⟩
    have HF1 := hid (((Fr.refl _ w).alloc _).step hf1 (fun _ h => .inl h))
    clear hf1
    go_wp2_with fail
    refine (HPT.out _ HF1.out).mono ?_
    rintro e w2 ⟨rfl, u, hd2, hu, hf2⟩
    have HD2 := hid hd2
    have HF2 := hid hf2
    have HU := hid hu
    clear hd2 hf2 hu
    go_wp2_with fail
    go_ret
    rw [HQ.out]
    have hne : ∀ b, (b = x.gD ∨ ∃ v ∈ vL, v.ownBlock = some b) → ¬ KS x b := by
      intro b hb
      rcases hb with rfl | ⟨u, hu, hub⟩
      · exact HR.out.notKS HDD.out.hd hvl (by decide) (by decide) (by decide) (by decide) (by decide) (by decide)
      · obtain ⟨cs, hcs⟩ := HDD.out.own hu hub
        exact HR.out.notKS hcs hvl (by decide) (by decide) (by decide) (by decide) (by decide) (by decide)
    refine ⟨rfl, ⟨(HR.out.frF HF1.out).fr HF2.out hne, _, HD2.out, ?_⟩, (HF1.out.toS (S := KWd x vL)).step HF2.out (fun b hb => .inl (.inr hb))⟩
    intro v' hv' b hb
    rcases List.mem_or_eq_of_mem_set hv' with h1 | h1
    · exact .inl ⟨v', h1, hb⟩
    · rw [h1] at hb
      rcases HU.out b hb with h2 | h2
      · exact .inl h2
      · exact .inr (Nat.le_trans HF1.out.size h2)

end Go.Proofs.YthmcheoehcmglaaGreat
/- The whole outside of a ward's turn. -/
namespace Go.Proofs.YthmcheoehcmglaaGreat
open Go.RowKit
set_option linter.unusedVariables false

theorem KerR.memB {x : KX} {ck : Int} {mem : List Int} {w : World} (h : KerR x ck mem w) (i : Nat) : 0 ≤ mem.getD i 0 ∧ mem.getD i 0 < 4294967296 := by
  rw [List.getD_eq_getElem?_getD]
  cases hi : mem[i]? with
  | none => simp
  | some v => exact h.mb v (List.mem_of_getElem? hi)

theorem StB.set0 {s : StV} (h : StB s) (v : Int) (v0 : 0 ≤ v) (v1 : v < 4294967296) : StB (set0 s v) := h.set 0 v v0 v1

theorem callM_B (x : KX) (k : Nat) (hk : k ≤ 4) (ck : Int) (mem : List Int) (hm : ∀ i, 0 ≤ mem.getD i 0 ∧ mem.getD i 0 < 4294967296) (s : StV) (h : StB s) (n : Nat) : StB (callM x k ck s mem n).2.1 := by
  match n with
  | 0 => exact ⟨h.l, h.r, h.p0, h.p1, by simp [callM], by simp [callM], h.c0, h.c1, h.b0, h.b1⟩
  | 1 => exact ⟨h.l, h.r, h.p0, h.p1, h.s0, h.s1, h.c0, h.c1, h.b0, h.b1⟩
  | 2 => exact h.set0 _ (by omega) (by omega)
  | 3 =>
    simp only [callM, sendM]
    split
    · exact h
    · split
      · split
        · exact h.set0 _ (by omega) (by omega)
        · exact h.set0 _ (by omega) (by omega)
      · exact h
  | 4 =>
    simp only [callM, receiveM]
    split
    · exact h
    · split
      · split
        · exact h.set0 _ (by omega) (by omega)
        · refine StB.set0 ?_ _ (by omega) (by omega)
          exact h.set 2 _ (hm _).1 (hm _).2
      · exact h
  | 5 =>
    simp only [callM, lookM]
    split
    · exact h
    · split
      · split
        · exact h.set0 _ (by omega) (by omega)
        · exact h.set0 _ (by omega) (by omega)
      · exact h
  | 6 => exact h.set0 _ (by omega) (by omega)
  | n + 7 => exact h
theorem callM_C (x : KX) (k : Nat) (ck : Int) (mem : List Int) (s : StV) (n : Nat) : 0 ≤ (callM x k ck s mem n).1 ∧ (callM x k ck s mem n).1 ≤ 5 := by
  match n with
  | 0 => simp [callM]
  | 1 => simp [callM]
  | 2 => simp [callM]
  | 3 => simp only [callM, sendM]; split <;> (try split) <;> (try split) <;> simp
  | 4 => simp only [callM, receiveM]; split <;> (try split) <;> (try split) <;> simp
  | 5 => simp only [callM, lookM]; split <;> (try split) <;> (try split) <;> simp
  | 6 => simp [callM]
  | n + 7 => simp [callM]

def RK (x : KX) (ck : Int) (vL : List Value) (N : Nat) (m : MemD) (w : World) : Prop := KerR x ck m.1 w ∧ DevR x.gD x.dn m.2 vL w ∧ LogOk m.2 ∧ N ≤ w.heap.size
def QK (x : KX) (ck : Int) (vL : List Value) (N : Nat) (m : MemD) (w : World) : Prop := KerR x ck m.1 w ∧ ∃ vL', DevR x.gD x.dn m.2 vL' w ∧ LogsIn vL vL' N

theorem KerR.ltKS {x : KX} {ck : Int} {mem : List Int} {w : World} (h : KerR x ck mem w) (hvl : x.vD.length = x.dvs.length) {i : Nat} (hi : KS x i) : i < w.heap.size := by
  rcases hi with e | e | e | ⟨v, hv, e⟩ | e | e | ⟨v, hv, e⟩
  · subst e; exact lt_of_get h.hx
  · subst e; exact lt_of_get h.hm
  · subst e; obtain ⟨c, hc⟩ := h.gk; exact lt_of_get hc
  · obtain ⟨k, hk⟩ := List.getElem?_of_mem hv
    have hkl : k < x.regs.length := by rw [h.wn]; exact (List.getElem?_eq_some_iff.1 hk).1
    obtain ⟨v', hv', _, ho⟩ := h.rg k _ (List.getElem?_eq_getElem hkl)
    rw [hk] at hv'
    cases hv'
    exact (ho.lt i e).2
  · exact (h.wi.lt i e).2
  · exact (h.hq.lt i e).2
  · obtain ⟨k, hk⟩ := List.getElem?_of_mem hv
    have hkl : k < x.dvs.length := by rw [← hvl]; exact (List.getElem?_eq_some_iff.1 hk).1
    obtain ⟨v', hv', _, ho⟩ := h.dg k _ (List.getElem?_eq_getElem hkl)
    rw [hk] at hv'
    cases hv'
    exact (ho.lt i e).2

theorem DevR.notT {g dn : Nat} {devs : List DevV} {vL : List Value} {w : World} (h : DevR g dn devs vL w) {i : Nat} {cs : Array Value} {t : TypeId} {f : Nat × Nat} (hi : w.heap[i]? = some (.cells cs t f)) (h1 : t ≠ 109) (h2 : t ≠ 5) : i ≠ g ∧ ∀ v ∈ vL, v.ownBlock ≠ some i := by
  refine ⟨?_, ?_⟩
  · intro e
    rw [e, h.hd] at hi
    simp only [Option.some.injEq, Obj.cells.injEq] at hi
    exact h1 hi.2.1.symm
  · intro v hv e
    obtain ⟨c, hc⟩ := h.own hv e
    rw [hc] at hi
    simp only [Option.some.injEq, Obj.cells.injEq] at hi
    exact h2 hi.2.1.symm

theorem outOk (x : KX) (ck : Int) (hck : ck ≤ 9223372036854775807) (hvl : x.vD.length = x.dvs.length) (vL : List Value) (N : Nat) (k : Nat) (hk : k < x.regs.length) (hk4 : k ≤ 4) :
    OutOk (opsK x k ck) (turnVal x k) (KSd x vL) (KWd x vL) (RK x ck vL N) (QK x ck vL N) where
  toQ m w h := ⟨h.1, vL, h.2.1, LogsIn.refl _ _⟩
  frQ := by
    rintro m w w' T ⟨hR, vL', hD, hl⟩ hf hT
    have hn : ∀ i, T i → ¬ KS x i ∧ i ≠ x.gD ∧ ∀ v ∈ vL', v.ownBlock ≠ some i := by
      intro i hi
      obtain ⟨cs, hcs⟩ := hT i hi
      have := hD.notT hcs (by decide) (by decide)
      exact ⟨hR.notKS hcs hvl (by decide) (by decide) (by decide) (by decide) (by decide) (by decide), this.1, this.2⟩
    exact ⟨hR.fr hf (fun i hi => (hn i hi).1), vL', hD.fr hf (fun hi => (hn _ hi).2.1 rfl) (fun v hv b hb hi => (hn b hi).2.2 v hv hb), hl⟩
  fr := by
    rintro m w w' T ⟨hR, hD, hl, hN⟩ hf hT
    exact ⟨hR.fr hf (fun i hi hs => hT i hi (.inl hs)), hD.fr hf (fun hi => hT _ hi (.inr (.inl rfl))) (fun v hv b hb hi => hT b hi (.inr (.inr ⟨v, hv, hb⟩))), hl, Nat.le_trans hN hf.size⟩
  fetch := by
    rintro m w a ⟨hR, hD, hl, hN⟩ a0 a1
    have h := tfetch_any x ck m.1 w hR k _ (List.getElem?_eq_getElem hk) a a0 a1
    have e : (opsK x k ck).fetch m a = readM x.regs[k] 4 m.1 a := by simp only [opsK]; rw [getD_of (List.getElem?_eq_getElem hk)]
    rw [e]
    exact h
  get := by
    rintro m w a ⟨hR, hD, hl, hN⟩ a0 a1
    exact tget_any x ck m vL w hR hD k hk a a0 a1
  put := by
    rintro m w a v ⟨hR, hD, hl, hN⟩ a0 a1 v0 v1
    refine (tput_any x ck m vL w hR hD hvl hl k hk a v a0 a1 v0 v1).mono ?_
    rintro e w' ⟨rfl, ⟨h1, vL', h2, h3⟩, h4⟩
    refine ⟨rfl, ⟨h1, vL', h2, ?_⟩, h4⟩
    intro u hu b hb
    rcases h3 u hu b hb with h | h
    · exact .inl h
    · exact .inr (Nat.le_trans hN h)
  call := by
    rintro m w B s c a b n o nn ⟨hR, hD, hl, hN⟩ hB hW hS n0 n1
    obtain ⟨j, rfl⟩ := Int.eq_ofNat_of_zero_le n0
    refine (tcall_any x ck hck m.1 w hR k hk4 B (fun h => hB (.inl h)) s c a b n o hW hS j (by omega)).mono ?_
    rintro e w' ⟨rfl, h1, h2, h3⟩
    refine ⟨rfl, h1, ⟨h2, vL, ?_, LogsIn.refl _ _⟩, h3.mono (fun i hi => hi.elim (fun e => .inl (.inl e)) (fun e => .inr e))⟩
    have hM := hD.notT hR.hm (by decide) (by decide)
    refine hD.fr h3 ?_ ?_
    · rintro (e | e)
      · exact hM.1 e.symm
      · exact hB (by rw [← e]; exact .inr (.inl rfl))
    · rintro v hv i hi (e | e)
      · rw [e] at hi; exact hM.2 v hv hi
      · rw [e] at hi; exact hB (.inr (.inr ⟨v, hv, hi⟩))
  lt := by
    rintro m w i ⟨hR, hD, hl, hN⟩ (h | h | ⟨v, hv, h⟩)
    · exact hR.ltKS hvl h
    · rw [h]; exact lt_of_get hD.hd
    · obtain ⟨cs, hcs⟩ := hD.own hv h
      exact lt_of_get hcs
  sub := by
    rintro i (h | h | h)
    · exact .inl (.inr (.inl h))
    · exact .inr (.inl h)
    · exact .inr (.inr h)
  fetchB := by
    rintro m w a v ⟨hR, hD, hl, hN⟩ h
    simp only [opsK, readM, Option.map_eq_some_iff] at h
    obtain ⟨i, _, rfl⟩ := h
    exact hR.memB _
  getB := by
    rintro m w a v ⟨hR, hD, hl, hN⟩ h
    simp only [opsK, getM] at h
    split at h
    · cases h
      rename_i d _
      rw [List.getD_eq_getElem?_getD]
      cases hi : m.2[d.toNat]? with
      | none => simp
      | some u => exact hD.lb u (List.mem_of_getElem? hi)
    · simp only [readM, Option.map_eq_some_iff] at h
      obtain ⟨i, _, rfl⟩ := h
      exact hR.memB _
  callB := by
    rintro m w s n ⟨hR, hD, hl, hN⟩ hs
    exact callM_B x k hk4 ck m.1 hR.memB s hs n.toNat
  callC := by
    rintro m w s n ⟨hR, hD, hl, hN⟩ hs
    exact callM_C x k ck m.1 s n.toNat

end Go.Proofs.YthmcheoehcmglaaGreat
/- plan.Make, walked. -/
namespace Go.Proofs.YthmcheoehcmglaaGreat
open Go.RowKit
set_option linter.unusedVariables false
attribute [local go_sem ↓] Go.wp_at_zero Go.wp_at_succ

def fitsB (m : Img) : Bool := (ownedN m.ws m.ws.length).all (fitB (16 + 16 * m.ws.length + 2 * m.wi.length) m.mem)
def apartB (m : Img) : Bool := apartN (ownedN m.ws m.ws.length) (ownedN m.ws m.ws.length).length
def wiresB (m : Img) : Bool := m.wi.all (wireOk m.ws.length)
def devsB (m : Img) : Bool := m.ow.all (hasB m.ws.length)
def mkErr (m : Img) (ok : Bool) : Int := if ok = false then 1 else if (fitsB m && apartB m) = false then 2 else if (wiresB m && devsB m) = false then 3 else 0
def noImg : Img := ⟨0, 0, [], [], []⟩

theorem PlanVal.none (w : World) (base : Nat) : PlanVal w base noImg (.slice none 0 0) (.slice none 0 0) (.slice none 0 0) := ⟨WardsAt.nil _ _, World.ownsRow_nil _ _ _ _, World.ownsRow_nil _ _ _ _⟩
theorem PlanVal.fr {w w' : World} {base : Nat} {m : Img} {vW vI vO : Value} (h : PlanVal w base m vW vI vO) (hf : Fr (fun _ => False) w w') : PlanVal w' base m vW vI vO :=
  ⟨h.ws.carry (hf.ownsF _) (hf.ownsF _) (hf.ownsF _), hf.ownsF _ h.wi, hf.ownsF _ h.ow⟩
theorem PlanVal.carry {w w' : World} {base : Nat} {m : Img} {vW vI vO : Value} (h : PlanVal w base m vW vI vO) (H : ∀ e, 112 ≠ e → Owns w w' e) : PlanVal w' base m vW vI vO :=
  ⟨h.ws.carry (H _ (by decide)) (H _ (by decide)) (H _ (by decide)), H _ (by decide) h.wi, H _ (by decide) h.ow⟩
theorem WardsAt.base {w : World} {b b' : Nat} {v : Value} {ws : List WardV} (h : WardsAt w b v ws) (hb : b' ≤ b) : WardsAt w b' v ws := by
  obtain ⟨xs, e, ho, hx⟩ := h
  exact ⟨xs, e, owns_base ho hb, fun x hm => ⟨owns_base (hx x hm).1 hb, owns_base (hx x hm).2 hb⟩⟩
theorem PlanVal.base {w : World} {b b' : Nat} {m : Img} {vW vI vO : Value} (h : PlanVal w b m vW vI vO) (hb : b' ≤ b) : PlanVal w b' m vW vI vO := ⟨h.ws.base hb, owns_base h.wi hb, owns_base h.ow hb⟩

theorem fr_five' (wr : World) (b : Nat) (v0 v1 v2 v3 v4 : Value) : Fr (fun i => i = b) wr (((((wr.setCell ⟨b, 0, none⟩ v0).setCell ⟨b, 1, none⟩ v1).setCell ⟨b, 2, none⟩ v2).setCell ⟨b, 3, none⟩ v3).setCell ⟨b, 4, none⟩ v4) :=
  (((((Fr.refl (fun i => i = b) wr).setCell (p := ⟨b, 0, none⟩) (Or.inl rfl) v0).setCell (p := ⟨b, 1, none⟩) (Or.inl rfl) v1).setCell (p := ⟨b, 2, none⟩) (Or.inl rfl) v2).setCell (p := ⟨b, 3, none⟩) (Or.inl rfl) v3).setCell (p := ⟨b, 4, none⟩) (Or.inl rfl) v4

set_option maxRecDepth 100000 in
set_option maxHeartbeats 4000000 in
theorem make_core (s : ByteArray) (hs : s.size ≤ maxLen) (w : World) (m : Img) (ok : Bool) (E : Hid (rimg s.data.toList = (m, ok))) (hm : m.Ok) :
    Calls Tryz.prog 50 #[.string s] w fun e w' =>
      ∃ vW vI vO m', e = .returned (.tuple #[.agg #[.int .i64 m'.gap, .int .i64 m'.mem, vW, vI, vO], .int .i64 (mkErr m ok)]) ∧ Fr (fun _ => False) w w' ∧ PlanVal w' w.heap.size m' vW vI vO ∧ (mkErr m ok = 0 → m' = m) := by
  have HM := hid hm
  clear hm
  go_enter Tryz.func50, Tryz.ntmps50
  go_wp2_with fail
  refine (read_any s hs _).mono ?_
  rw [E.out]
  rintro e w1 ⟨vW, vI, vO, rfl, hf1, hv1⟩
  have hF1 : Fr (fun _ => False) w w1 := ((Fr.refl _ w).alloc _).step hf1 (fun _ h => .inl h)
  have p1 := hf1.get (heap_new w _) id
  have hV1 := hv1.base (b' := w.heap.size) (by simp)
  obtain ⟨a1, q1, rfl⟩ := hV1.ws.shape
  obtain ⟨a2, q2, rfl⟩ := owns_shape hV1.wi
  obtain ⟨a3, q3, rfl⟩ := owns_shape hV1.ow
  have hz1 := hF1.size
  have HV1 := hid hV1
  have hpl := lt_of_get p1
  clear hf1 hv1 hV1
  have HA : Hid (PlanAt (w1.alloc (.cells #[.int .i64 m.gap, .int .i64 m.mem, .slice a1 m.ws.length q1, .slice a2 m.wi.length q2, .slice a3 m.ow.length q3] 112)) w1.heap.size w.heap.size m.gap m.mem m.ws m.wi m.ow (.slice a1 m.ws.length q1) (.slice a2 m.wi.length q2) (.slice a3 m.ow.length q3)) := by
    have hf := (Fr.refl (fun _ => False) w1).alloc (.cells #[.int .i64 m.gap, .int .i64 m.mem, .slice a1 m.ws.length q1, .slice a2 m.wi.length q2, .slice a3 m.ow.length q3] 112)
    exact ⟨heap_new _ _, (HV1.out.fr hf).ws, (HV1.out.fr hf).wi, (HV1.out.fr hf).ow⟩
  have pa : ∀ o, (w1.alloc o).heap[w.heap.size]? = some (.cells #[.int .i64 0, .int .i64 0, .slice none 0 0, .slice none 0 0, .slice none 0 0] 112 (0, 0)) := fun o => get_alloc p1 o
  have FA : ∀ o, Fr (fun _ => False) w (w1.alloc o) := fun o => hF1.alloc o
  have HPA := hid pa
  have HFA := hid FA
  have HP1 := hid p1
  have HF1 := hid hF1
  clear pa FA p1 hF1
  cases ok
  · have c1 := row_cell HP1.out
    have f1 := row_frozen HP1.out
    have HE : Hid (mkErr m false = 1) := rfl
    go_wp2_with fail
    refine bodyPost_ret (v := .tuple #[.agg #[.int .i64 0, .int .i64 0, .slice none 0 0, .slice none 0 0, .slice none 0 0], .int .i64 1]) ?_ rfl ⟨.slice none 0 0, .slice none 0 0, .slice none 0 0, noImg, by rw [HE.out]; rfl, ?_, PlanVal.none _ _, fun h => by rw [HE.out] at h; cases h⟩
    · simp [results, Tryz.results50, go_sem, c1, hpl]
    · exact (((((HF1.out.setCell (.inr (Nat.le_refl _)) _).setCell (.inr (Nat.le_refl _)) _).setCell (.inr (Nat.le_refl _)) _).setCell (.inr (Nat.le_refl _)) _).setCell (.inr (Nat.le_refl _)) _).alloc _
  · have hkk : ∀ x ∈ m.ws, ∀ r ∈ x.regs, 0 ≤ r.1 ∧ r.1 ≤ 65535 ∧ 0 ≤ r.2.1 ∧ r.2.1 ≤ 65535 ∧ 0 ≤ r.2.2.1 ∧ r.2.2.1 ≤ 65535 := fun x hx r hr => (HM.out.w x hx).2.1 r hr
    have hk3 : ∀ x ∈ m.ws, x.regs.length ≤ 3 := fun x hx => (HM.out.w x hx).1
    have HKK := hid hkk
    have HK3 := hid hk3
    clear hkk hk3
    go_wp2_with fail
    refine (regionsFit_any w1.heap.size w.heap.size _ HA.out HM.out.l HM.out.li HK3.out HKK.out).mono ?_
    rintro e w2 ⟨rfl, hf2⟩
    rw [show ((ownedN m.ws m.ws.length).all (fitB (16 + 16 * m.ws.length + 2 * m.wi.length) m.mem)) = fitsB m from rfl]
    have HA2 := hid (HA.out.fr hf2)
    have HP2 := hid (hf2.get (HPA.out _) id)
    have HF2 := hid ((HFA.out _).step hf2 (fun _ h => .inl h))
    clear hf2
    cases h1 : fitsB m
    · have HE : Hid (mkErr m true = 2) := by simp [Hid, mkErr, h1]
      have c1 := row_cell HP2.out
      have f1 := row_frozen HP2.out
      go_wp2_with fail
      refine bodyPost_ret (v := .tuple #[.agg #[.int .i64 0, .int .i64 0, .slice none 0 0, .slice none 0 0, .slice none 0 0], .int .i64 2]) ?_ rfl ⟨.slice none 0 0, .slice none 0 0, .slice none 0 0, noImg, by rw [HE.out]; rfl, ?_, PlanVal.none _ _, fun h => by rw [HE.out] at h; cases h⟩
      · simp [results, Tryz.results50, go_sem, c1]
      · exact (((((HF2.out.setCell (.inr (Nat.le_refl _)) _).setCell (.inr (Nat.le_refl _)) _).setCell (.inr (Nat.le_refl _)) _).setCell (.inr (Nat.le_refl _)) _).setCell (.inr (Nat.le_refl _)) _)
    · go_wp2_with fail
      refine (regionsApart_any w1.heap.size w.heap.size _ HA2.out HM.out.l HK3.out HKK.out).mono ?_
      rintro e w3 ⟨rfl, hf3⟩
      rw [show apartN (ownedN m.ws m.ws.length) (ownedN m.ws m.ws.length).length = apartB m from rfl]
      have HA3 := hid (HA2.out.fr hf3)
      have HP3 := hid (hf3.get HP2.out id)
      have HF3 := hid (HF2.out.step hf3 (fun _ h => .inl h))
      clear hf3
      cases h2 : apartB m
      · have HE : Hid (mkErr m true = 2) := by simp [Hid, mkErr, h1, h2]
        have c1 := row_cell HP3.out
        have f1 := row_frozen HP3.out
        go_wp2_with fail
        refine bodyPost_ret (v := .tuple #[.agg #[.int .i64 0, .int .i64 0, .slice none 0 0, .slice none 0 0, .slice none 0 0], .int .i64 2]) ?_ rfl ⟨.slice none 0 0, .slice none 0 0, .slice none 0 0, noImg, by rw [HE.out]; rfl, ?_, PlanVal.none _ _, fun h => by rw [HE.out] at h; cases h⟩
        · simp [results, Tryz.results50, go_sem, c1]
        · exact (((((HF3.out.setCell (.inr (Nat.le_refl _)) _).setCell (.inr (Nat.le_refl _)) _).setCell (.inr (Nat.le_refl _)) _).setCell (.inr (Nat.le_refl _)) _).setCell (.inr (Nat.le_refl _)) _)
      · go_wp2_with fail
        refine (wiresFit_any w1.heap.size w.heap.size _ HA3.out HM.out.li).mono ?_
        rintro e w4 ⟨rfl, hf4⟩
        rw [show m.wi.all (wireOk m.ws.length) = wiresB m from rfl]
        have HA4 := hid (HA3.out.fr hf4)
        have HP4 := hid (hf4.get HP3.out id)
        have HF4 := hid (HF3.out.step hf4 (fun _ h => .inl h))
        clear hf4
        cases h3 : wiresB m
        · have HE : Hid (mkErr m true = 3) := by simp [Hid, mkErr, h1, h2, h3]
          have c1 := row_cell HP4.out
          have f1 := row_frozen HP4.out
          go_wp2_with fail
          refine bodyPost_ret (v := .tuple #[.agg #[.int .i64 0, .int .i64 0, .slice none 0 0, .slice none 0 0, .slice none 0 0], .int .i64 3]) ?_ rfl ⟨.slice none 0 0, .slice none 0 0, .slice none 0 0, noImg, by rw [HE.out]; rfl, ?_, PlanVal.none _ _, fun h => by rw [HE.out] at h; cases h⟩
          · simp [results, Tryz.results50, go_sem, c1]
          · exact (((((HF4.out.setCell (.inr (Nat.le_refl _)) _).setCell (.inr (Nat.le_refl _)) _).setCell (.inr (Nat.le_refl _)) _).setCell (.inr (Nat.le_refl _)) _).setCell (.inr (Nat.le_refl _)) _)
        · go_wp2_with fail
          refine (devicesFit_any w1.heap.size w.heap.size _ HA4.out HM.out.lo).mono ?_
          rintro e w5 ⟨rfl, rfl⟩
          rw [show m.ow.all (hasB m.ws.length) = devsB m from rfl]
          have c1 := row_cell HP4.out
          have f1 := row_frozen HP4.out
          cases h4 : devsB m
          · have HE : Hid (mkErr m true = 3) := by simp [Hid, mkErr, h1, h2, h3, h4]
            go_wp2_with fail
            refine bodyPost_ret (v := .tuple #[.agg #[.int .i64 0, .int .i64 0, .slice none 0 0, .slice none 0 0, .slice none 0 0], .int .i64 3]) ?_ rfl ⟨.slice none 0 0, .slice none 0 0, .slice none 0 0, noImg, by rw [HE.out]; rfl, ?_, PlanVal.none _ _, fun h => by rw [HE.out] at h; cases h⟩
            · simp [results, Tryz.results50, go_sem, c1]
            · exact (((((HF4.out.setCell (.inr (Nat.le_refl _)) _).setCell (.inr (Nat.le_refl _)) _).setCell (.inr (Nat.le_refl _)) _).setCell (.inr (Nat.le_refl _)) _).setCell (.inr (Nat.le_refl _)) _)
          · have HE : Hid (mkErr m true = 0) := by simp [Hid, mkErr, h1, h2, h3, h4]
            have c2 := row_cell HA4.out.g
            go_wp2_with fail
            refine bodyPost_ret (v := .tuple #[.agg #[.int .i64 m.gap, .int .i64 m.mem, .slice a1 m.ws.length q1, .slice a2 m.wi.length q2, .slice a3 m.ow.length q3], .int .i64 0]) ?_ rfl ⟨.slice a1 m.ws.length q1, .slice a2 m.wi.length q2, .slice a3 m.ow.length q3, m, by rw [HE.out], ?_, ?_, fun _ => rfl⟩
            · simp [results, Tryz.results50, go_sem, c1]
            · exact (((((HF4.out.setCell (.inr (Nat.le_refl _)) _).setCell (.inr (Nat.le_refl _)) _).setCell (.inr (Nat.le_refl _)) _).setCell (.inr (Nat.le_refl _)) _).setCell (.inr (Nat.le_refl _)) _)
            · have hv : PlanVal _ w.heap.size m _ _ _ := ⟨HA4.out.ws, HA4.out.wi, HA4.out.ow⟩
              refine hv.carry (fun e hne => fun ho => ?_)
              exact (fr_five' _ w.heap.size _ _ _ _ _).owns1T HP4.out ho hne

end Go.Proofs.YthmcheoehcmglaaGreat
