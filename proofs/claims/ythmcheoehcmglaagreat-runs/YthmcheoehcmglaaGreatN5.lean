/- Boot of an image that is one. -/
import Derived.Test.YthmcheoehcmglaaGreatW17
import Derived.Test.YthmcheoehcmglaaGreatW15b
import Derived.Test.YthmcheoehcmglaaGreatM1
namespace Go.Proofs.YthmcheoehcmglaaGreat
open Go.RowKit
set_option linter.unusedVariables false
attribute [local go_sem ↓] Go.wp_at_zero Go.wp_at_succ

theorem splice_mem {α : Type} (L : List α) (off : Nat) (cs : List α) (x : α) (h : x ∈ splice L off cs) : x ∈ L ∨ x ∈ cs := by
  unfold splice at h
  rcases List.mem_append.1 h with h | h
  · exact .inl (List.mem_of_mem_take h)
  · rcases List.mem_append.1 h with h | h
    · exact .inr h
    · exact .inl (List.mem_of_mem_drop h)

theorem memN_bd (m : Img) (h : m.Ok) : ∀ k, ∀ v ∈ memN m k, 0 ≤ v ∧ v < 4294967296 := by
  intro k
  induction k with
  | zero =>
    intro v hv
    simp only [memN, List.mem_replicate] at hv
    omega
  | succ k ih =>
    intro v hv
    cases hx : m.ws[k]? with
    | none => simp only [memN, hx] at hv; exact ih v hv
    | some x =>
      simp only [memN, hx] at hv
      have hw := h.w x (List.mem_of_getElem? hx)
      rcases splice_mem _ _ _ _ hv with hv | hv
      · rcases splice_mem _ _ _ _ hv with hv | hv
        · exact ih v hv
        · simp only [stWords, st0, yWord, List.mem_append, List.mem_cons, List.not_mem_nil, or_false] at hv
          have := hw.2.2.1
          have := hw.2.2.2.1
          rcases hv with hv | hv
          · rcases hv with rfl | rfl | rfl | rfl | rfl | rfl | rfl | rfl <;> omega
          · rcases hv with rfl | rfl | rfl | rfl | rfl <;> first | omega | simp
      · exact hw.2.2.2.2.1 v hv

theorem kerAt_of {w w' : World} {X M D gK cK : Nat} {im : Img} {vI vQ : Value} {vD : List Value} {xs : List (WardV × Value × Value)} (h : KerDv w im vI X M im.mem.toNat D (memN im im.ws.length) xs im.ow.length vQ gK cK vD w') (hf : im.Fits) (hxs : xs.map (·.1) = im.ws) :
    KerAt w' X M im.mem.toNat (memN im im.ws.length) 0 (kws xs) (.slice (some ⟨gK, 0, none⟩) xs.length cK) := by
  have hl : xs.length = im.ws.length := by rw [← hxs]; simp
  have hkl : (kws xs).length = im.ws.length := by simp [kws, hl]
  have hk := hf.kern
  have h64 := hf.m64
  have hm1 := hf.ok.m1
  obtain ⟨cur, hc, hv⟩ := h.hk
  refine ⟨⟨_, h.hx, rfl, rfl, rfl⟩, h.hm, ⟨gK, cK, cur, by rw [hkl, hl], hc, ?_⟩, memN_len im hf _ (Nat.le_refl _), by omega, by omega, by rw [hkl]; omega, ?_, memN_bd im hf.ok _⟩
  · intro k y hy c v hcv
    simp only [kws, List.getElem?_map, Option.map_eq_some_iff] at hy
    obtain ⟨x, hx, rfl⟩ := hy
    refine hv k x hx c v ?_
    have hcl : c < 14 := by
      have := (List.getElem?_eq_some_iff.1 hcv).1
      simpa [kwCells, stCells, st0] using this
    have e : kwD x (vD.getD k nilV) = kwCells (st0 x.1.bg, x.2.1) ++ [vD.getD k nilV] := by simp [kwD, kwCells]
    rw [e, List.getElem?_append_left (by simpa [kwCells, stCells, st0] using hcl)]
    exact hcv
  · intro x hx
    simp only [kws, List.mem_map] at hx
    obtain ⟨y, _, rfl⟩ := hx
    simp [StV.Ok, st0]

/-- A kernel that was just booted, whole. -/
def BootK (m : Img) (xs : List (WardV × Value × Value)) (b : Nat) (w : World) (X : Nat) : Prop := ∃ (w0 : World) (vI : Value) (M D : Nat) (vQ : Value) (gK cK : Nat) (vD : List Value), b ≤ w0.heap.size ∧ KerDv w0 m vI X M m.mem.toNat D (memN m m.ws.length) xs m.ow.length vQ gK cK vD w ∧ w.ownsRow 0 177 2 vI m.wi.length (m.wi.flatMap wireCells) ∧ ∀ x ∈ xs, w.ownsRow 0 151 4 x.2.1 x.1.regs.length (x.1.regs.flatMap regCells)

set_option maxRecDepth 100000 in
set_option maxHeartbeats 2000000 in
theorem boot_yes (s : ByteArray) (hs : s.size ≤ maxLen) (w : World) (m : Img) (ok : Bool) (E : Hid (rimg s.data.toList = (m, ok))) (hm : m.Fits) (he : mkErr m ok = 0) :
    Calls Tryz.prog 36 #[.string s] w fun e w' => ∃ X xs, e = .returned (.tuple #[.pointer (some ⟨X, 0, none⟩), .int .i64 0]) ∧ xs.map (·.1) = m.ws ∧ booted0 m xs w' X ∧ Fr (fun _ => False) w w' ∧ BootK m xs w.heap.size w' X := by
  have HE := hid he
  have HM := hid hm
  clear he hm
  go_enter Tryz.func36, Tryz.ntmps36
  go_wp2_with fail
  refine (make_core s hs w m ok E HM.out.ok).mono ?_
  rw [HE.out]
  rintro e w1 ⟨vW, vI, vO, m', rfl, hf, hv, hmm⟩
  obtain rfl := hmm rfl
  obtain ⟨a1, q1, rfl⟩ := hv.ws.shape
  obtain ⟨a2, q2, rfl⟩ := owns_shape hv.wi
  obtain ⟨a3, q3, rfl⟩ := owns_shape hv.ow
  have HF := hid hf
  have HV := hid hv
  clear hv hf hmm
  go_wp2_with fail
  obtain ⟨xs, hxs, hown, hx⟩ := HV.out.ws
  refine (start_any _ m' w.heap.size _ _ _ (HV.out.fr ((Fr.refl _ w1).alloc _)) HM.out xs hxs (hown.alloc _) (fun x h => ⟨(hx x h).1.alloc _, (hx x h).2.alloc _⟩)).mono ?_
  rintro e w2 ⟨X, M, D, vQ, gK, cK, vD, rfl, hK⟩
  have HK := hid hK
  have HXS := hid hxs
  have HWI : Hid (w2.ownsRow 0 177 2 (.slice a2 m'.wi.length q2) m'.wi.length (m'.wi.flatMap wireCells)) := owns_base (hK.fr.ownsF _ (HV.out.wi.alloc _)) (Nat.zero_le _)
  have HRG : Hid (∀ x ∈ xs, w2.ownsRow 0 151 4 x.2.1 x.1.regs.length (x.1.regs.flatMap regCells)) := fun x h => owns_base (hK.fr.ownsF _ ((hx x h).1.alloc _)) (Nat.zero_le _)
  clear hK hxs hown hx
  go_wp2_with fail
  go_ret2
  exact ⟨X, xs, rfl, HXS.out, ⟨M, _, kerAt_of HK.out HM.out HXS.out⟩, (HF.out.alloc _).step HK.out.fr (fun _ h => .inl h), _, _, M, D, vQ, gK, cK, vD, (HF.out.alloc _).size, HK.out, HWI.out, HRG.out⟩

end Go.Proofs.YthmcheoehcmglaaGreat
/- A machine that was just booted lies in the world, whole. -/
namespace Go.Proofs.YthmcheoehcmglaaGreat
open Go.RowKit
set_option linter.unusedVariables false

/-- The machine of an image. -/
def bootX (m : Img) (xs : List (WardV × Value × Value)) (X M D : Nat) (vI vQ : Value) (gK cK : Nat) (vD : List Value) : KX :=
  ⟨X, M, m.mem.toNat, m.gap, m.ws.map (·.q), vQ, gK, cK, m.ws.map (·.regs), xs.map (·.2.1), m.wi, vI, (List.range m.ws.length).map (fun k => devsOf m.ow k m.ow.length), vD, D, m.ow.length⟩
/-- Its state. -/
def bootM (m : Img) : KM := ⟨0, memN m m.ws.length, m.ws.map (fun x => st0 x.bg), List.replicate m.ow.length (0, [])⟩

/-- What is known of an image that Check takes. -/
structure ImgK (m : Img) : Prop where
  f : m.Fits
  qs : QsOk m.gap (m.ws.map (·.q))
  fit : ∀ x ∈ m.ws, x.regs.length ≤ 3 ∧ ∀ r ∈ x.regs, RegB r ∧ 16 + 16 * (m.ws.length : Int) + 2 * m.wi.length ≤ r.2.2.1 ∧ r.2.2.1 + r.2.1 ≤ m.mem ∧ r.1 + r.2.1 ≤ 32768

theorem st0_B (bg : Int) (h0 : 0 ≤ bg) (h1 : bg ≤ 65535) : StB (st0 bg) := by
  refine ⟨rfl, ?_, h0, by simp only [st0]; omega, by simp [st0], by simp [st0], by simp [st0], by simp [st0], by simp [st0], by simp [st0]⟩
  intro r hr
  simp only [st0, List.mem_cons, List.not_mem_nil, or_false] at hr
  rcases hr with rfl | rfl | rfl | rfl | rfl | rfl | rfl | rfl <;> omega

theorem devCells_zero (n : Nat) : devCells (List.replicate n (0, [])) (List.replicate n nilV) = dev0 n := by
  unfold devCells dev0
  induction n with
  | zero => rfl
  | succ n ih => simp only [List.replicate_succ, List.zip_cons_cons, List.flatMap_cons, List.flatten_cons]; rw [ih]; rfl

theorem flat_regs4 (rs : List Reg) : (rs.flatMap regCells).length = rs.length * 4 := by
  induction rs with
  | nil => rfl
  | cons r rs ih => simp only [List.flatMap_cons, List.length_append, ih, List.length_cons]; simp [regCells]; omega

theorem bootKx (m : Img) (hm : ImgK m) (xs : List (WardV × Value × Value)) (hxs : xs.map (·.1) = m.ws) (b : Nat) (w : World) (X : Nat) (w0 : World) (vI : Value) (M D : Nat) (vQ : Value) (gK cK : Nat) (vD : List Value) (hbw : b ≤ w0.heap.size)
    (hK : KerDv w0 m vI X M m.mem.toNat D (memN m m.ws.length) xs m.ow.length vQ gK cK vD w) (hwi : w.ownsRow 0 177 2 vI m.wi.length (m.wi.flatMap wireCells)) (hrg : ∀ x ∈ xs, w.ownsRow 0 151 4 x.2.1 x.1.regs.length (x.1.regs.flatMap regCells)) :
    KerM (bootX m xs X M D vI vQ gK cK vD) (bootM m) (List.replicate m.ow.length nilV) w ∧ ∀ i, KA (bootX m xs X M D vI vQ gK cK vD) (List.replicate m.ow.length nilV) i → b ≤ i := by
  refine ⟨?_, ?_⟩
  rotate_left
  · rintro i (e | e | e | e | ⟨v, hv, e⟩)
    · rw [e]; exact Nat.le_trans hbw hK.x1
    · rw [e]; exact Nat.le_trans hbw hK.m1
    · rw [e]; exact Nat.le_trans hbw hK.g1
    · rw [e]; exact Nat.le_trans hbw hK.d1
    · simp only [List.mem_replicate] at hv
      rw [hv.2] at e
      cases e
  have hl : xs.length = m.ws.length := by rw [← hxs]; simp
  have hk := hm.f.kern
  have h64 := hm.f.m64
  have hm1 := hm.f.ok.m1
  have hl4 := hm.f.ok.l
  have hml := memN_len m hm.f _ (Nat.le_refl m.ws.length)
  obtain ⟨cur, hc, hv⟩ := hK.hk
  have hws : ∀ (k : Nat) (x : WardV × Value × Value), xs[k]? = some x → m.ws[k]? = some x.1 := by
    intro k x hx
    rw [← hxs, List.getElem?_map, hx]
    rfl
  have hxk : ∀ k, k < m.ws.length → ∃ x, xs[k]? = some x := fun k hk => ⟨_, List.getElem?_eq_getElem (by omega)⟩
  have hR : KerR (bootX m xs X M D vI vQ gK cK vD) 0 (memN m m.ws.length) w := by
    refine ⟨?_, hK.hm, hml, ?_, memN_bd m hm.f.ok _, ⟨cur, hc⟩, ?_, ?_, ?_, ?_, ?_, hwi, hm.f.ok.li, by omega, ?_, ?_, ?_, ?_, hm.f.ok.lo⟩
    · have h1 := hK.hx
      simp only [bootX, kerRow, List.length_map]
      rw [hl] at h1
      exact h1
    · simp only [bootX]; omega
    · simp only [bootX, List.length_map]; omega
    · simp only [bootX, List.length_map]; omega
    · simp only [bootX, List.length_map]; exact hl4
    · intro k rs hrs
      simp only [bootX, List.getElem?_map, Option.map_eq_some_iff] at hrs ⊢
      obtain ⟨y, hy, rfl⟩ := hrs
      obtain ⟨x, hx⟩ := hxk k (List.getElem?_eq_some_iff.1 hy).1
      have := hws k x hx
      rw [hy] at this
      cases this
      refine ⟨x.2.1, ⟨x, hx, rfl⟩, ?_, hrg x (List.mem_of_getElem? hx)⟩
      rw [row_cell hc]
      exact hv k x hx 13 _ (by simp [kwD, stCells, st0])
    · intro rs hrs
      simp only [bootX, List.mem_map] at hrs
      obtain ⟨y, hy, rfl⟩ := hrs
      have := hm.fit y hy
      refine ⟨this.1, fun r hr => ⟨(this.2 r hr).1, ?_⟩⟩
      have h2 := (this.2 r hr).2.2.1
      simp only [bootX]
      omega
    · have := owns_base hK.hq (Nat.zero_le _)
      simp only [bootX, List.length_map]
      rw [hl] at this
      have e : (m.ws.map (·.q)).map (Value.int .i64) = xs.map qCell := by rw [← hxs]; simp [qCell]
      rw [e]
      exact this
    · simp [bootX]
    · intro k ds hds
      simp only [bootX, List.getElem?_map, Option.map_eq_some_iff] at hds
      obtain ⟨j, hj, rfl⟩ := hds
      obtain ⟨hjl, hje⟩ := List.getElem?_eq_some_iff.1 hj
      simp only [List.length_range] at hjl
      simp only [List.getElem_range] at hje
      subst hje
      obtain ⟨x, hx⟩ := hxk k hjl
      have hvk : k < vD.length := by rw [hK.vl]; omega
      refine ⟨vD.getD k nilV, ?_, ?_, ?_⟩
      · simp only [bootX]
        rw [List.getD_eq_getElem?_getD, List.getElem?_eq_getElem hvk]
        rfl
      · simp only [bootX]
        rw [row_cell hc]
        exact hv k x hx 14 _ (by simp [kwD, stCells, st0])
      · exact owns_base (hK.dv k (by omega)) (Nat.zero_le _)
    · intro ds hds
      simp only [bootX, List.mem_map, List.mem_range] at hds ⊢
      obtain ⟨k, hk, rfl⟩ := hds
      have := devsOf_le m.ow k m.ow.length
      have := hm.f.ok.lo
      exact ⟨by omega, devsOf_bd m.ow k m.ow.length⟩
  refine ⟨hR, ⟨cur.toList, by simpa [bootX] using hc, ?_⟩, by simp [bootM, bootX], ?_, ?_, ?_, ?_, hm.qs, ?_⟩
  · intro k s hs
    simp only [bootM, List.getElem?_map, Option.map_eq_some_iff] at hs
    obtain ⟨y, hy, rfl⟩ := hs
    obtain ⟨x, hx⟩ := hxk k (List.getElem?_eq_some_iff.1 hy).1
    have hxy := hws k x hx
    rw [hy] at hxy
    cases hxy
    have hcell : ∀ c v, (kwD x (vD.getD k nilV))[c]? = some v → cur.toList[k * 15 + c]? = some v := fun c v hcv => by rw [Array.getElem?_toList]; exact hv k x hx c v hcv
    have h14 := (List.getElem?_eq_some_iff.1 (hcell 14 _ (show (kwD x (vD.getD k nilV))[14]? = some (vD.getD k nilV) by simp [kwD, stCells, st0]))).1
    refine ⟨by omega, ?_⟩
    apply List.ext_getElem?
    intro i
    rw [List.getElem?_take]
    by_cases hi : i < 13
    · rw [if_pos hi, List.getElem?_drop]
      have hil : i < (stCells (st0 x.1.bg)).length := by simpa [stCells, st0] using hi
      rw [hcell i ((stCells (st0 x.1.bg))[i]) (by unfold kwD; rw [List.getElem?_append_left hil, List.getElem?_eq_getElem hil]), List.getElem?_eq_getElem hil]
    · rw [if_neg hi, List.getElem?_eq_none (by simp [stCells, st0]; omega)]
  · intro s hs
    simp only [bootM, List.mem_map] at hs
    obtain ⟨y, hy, rfl⟩ := hs
    have := hm.f.ok.w y hy
    exact st0_B _ this.2.2.1 this.2.2.2.1
  · refine ⟨?_, by simp [bootM, bootX], by simp [bootX], ?_, ?_, ?_⟩
    · have h1 := hK.hd
      simp only [bootX, bootM]
      rw [devCells_zero]
      exact h1
    · intro d hd
      simp only [bootM, List.mem_replicate] at hd
      rw [hd.2]
      simp
    · intro i d v hd hv
      have hd' := List.mem_of_getElem? hd
      have hv' := List.mem_of_getElem? hv
      simp only [bootM, List.mem_replicate] at hd' hv'
      rw [hd'.2, hv'.2]
      exact World.ownsRow_nil _ _ _ _
    · intro i j v v' b _ hv _ hb
      have hv' := List.mem_of_getElem? hv
      simp only [List.mem_replicate] at hv'
      rw [hv'.2] at hb
      cases hb
  · simp only [bootX, List.length_map, List.length_range]; rw [hK.vl]; exact hl
  · simp only [bootX]; omega
  · simp [bootX]

theorem bootK (m : Img) (hm : ImgK m) (xs : List (WardV × Value × Value)) (hxs : xs.map (·.1) = m.ws) (b : Nat) (w : World) (X : Nat) (h : BootK m xs b w X) :
    ∃ M D vI vQ gK cK vD, KerM (bootX m xs X M D vI vQ gK cK vD) (bootM m) (List.replicate m.ow.length nilV) w ∧ ∀ i, KA (bootX m xs X M D vI vQ gK cK vD) (List.replicate m.ow.length nilV) i → b ≤ i := by
  obtain ⟨w0, vI, M, D, vQ, gK, cK, vD, hbw, hK, hwi, hrg⟩ := h
  exact ⟨M, D, vI, vQ, gK, cK, vD, bootKx m hm xs hxs b w X w0 vI M D vQ gK cK vD hbw hK hwi hrg⟩

end Go.Proofs.YthmcheoehcmglaaGreat
/- The net of wards, each alone: the model; what two outsides must share for a cycle to do the same. -/
namespace Go.Proofs.YthmcheoehcmglaaGreat
open Go.RowKit
set_option linter.unusedVariables false

/-- A ward, alone: how it is, how it was when its last turn ended, its regions' words. -/
structure WN where
  now : StV
  was : StV
  ws : List (List Int)
/-- The net. -/
structure NM where
  ck : Int
  wn : List WN
  wi : List (Int × Int)
  devs : List DevV

/-- What a ward of the net reaches. -/
abbrev NS := List (List Int) × List (Int × Int) × List DevV

def regI (rs : List Reg) (a : Int) : Option Nat := rs.findIdx? (fun r => inR r a)
def regAt (rs : List Reg) (j : Nat) : Reg := rs.getD j (0, 0, 0, 0)
def readN (rs : List Reg) (right : Int) (ws : List (List Int)) (a : Int) : Option Int :=
  match regI rs a with
  | some j => if hasR (regAt rs j) right then some ((ws.getD j []).getD (a - (regAt rs j).1).toNat 0) else none
  | none => none
def getN (x : KX) (k : Nat) (n : NS) (a : Int) : Option Int :=
  match findDev (x.dvs.getD k []) 0 a with
  | some d => some (n.2.2.getD d.toNat (0, [])).1
  | none => readN (x.regs.getD k []) 1 n.1 a
def putN (x : KX) (k : Nat) (n : NS) (a v : Int) : Option NS :=
  match findDev (x.dvs.getD k []) 1 a with
  | some d => some (n.1, n.2.1, putD n.2.2 d.toNat v)
  | none => match regI (x.regs.getD k []) a with
    | some j => if hasR (regAt (x.regs.getD k []) j) 2 then some (n.1.set j ((n.1.getD j []).set (a - (regAt (x.regs.getD k []) j).1).toNat v), n.2.1, n.2.2) else none
    | none => none

def w1 (s : StV) : Nat := (s.regs.getD 1 0).toNat
def sendN (x : KX) (k : Nat) (s : StV) (wi : List (Int × Int)) : Int × StV × List (Int × Int) :=
  match wireOf x s with
  | none => (5, s, wi)
  | some (f, t) => if f = k then (if (wi.getD (w1 s) (0, 0)).1 = 0 then (0, set0 s 0, wi.set (w1 s) (1, s.regs.getD 2 0)) else (0, set0 s 1, wi)) else (5, s, wi)
def receiveN (x : KX) (k : Nat) (s : StV) (wi : List (Int × Int)) : Int × StV × List (Int × Int) :=
  match wireOf x s with
  | none => (5, s, wi)
  | some (f, t) => if t = k then (if (wi.getD (w1 s) (0, 0)).1 = 0 then (0, set0 s 1, wi) else (0, set0 { s with regs := s.regs.set 2 (wi.getD (w1 s) (0, 0)).2 } 0, wi.set (w1 s) (0, (wi.getD (w1 s) (0, 0)).2))) else (5, s, wi)
def lookN (x : KX) (k : Nat) (s : StV) (wi : List (Int × Int)) : Int × StV × List (Int × Int) :=
  match wireOf x s with
  | none => (5, s, wi)
  | some (f, t) => if f = k ∨ t = k then (if (wi.getD (w1 s) (0, 0)).1 = 0 then (0, set0 s 0, wi) else (0, set0 s 1, wi)) else (5, s, wi)
def callN (x : KX) (k : Nat) (ck : Int) (s : StV) (wi : List (Int × Int)) : Nat → Int × StV × List (Int × Int)
  | 0 => (0, { s with status := 1 }, wi)
  | 1 => (0, { s with y := true }, wi)
  | 2 => (0, set0 s k, wi)
  | 3 => sendN x k s wi
  | 4 => receiveN x k s wi
  | 5 => lookN x k s wi
  | 6 => (0, set0 s (ck % 4294967296), wi)
  | _ => (4, s, wi)
def opsN (x : KX) (k : Nat) (ck : Int) : Ops NS where
  fetch n a := readN (x.regs.getD k []) 4 n.1 a
  get n a := getN x k n a
  put n a v := putN x k n a v
  call n s c := ((callN x k ck s n.2.1 c.toNat).1, (callN x k ck s n.2.1 c.toNat).2.1, (n.1, (callN x k ck s n.2.1 c.toNat).2.2, n.2.2))

def zeroWN : WN := ⟨zeroSt, zeroSt, []⟩
def actN (x : KX) (N : NM) : NM :=
  let k := (slotK x N.ck).1
  let r := (slotK x N.ck).2
  let q := x.qs.getD k 0
  let w := N.wn.getD k zeroWN
  if r < q then
    let c := cycleM (opsN x k N.ck) w.now (w.ws, N.wi, N.devs)
    { N with wn := N.wn.set k ⟨c.1, w.was, c.2.1⟩, wi := c.2.2.1, devs := c.2.2.2 }
  else if r - q = 0 then { N with wn := N.wn.set k ⟨{ w.now with y := false }, { w.now with y := false }, w.ws⟩ }
  else N
def cycleN (x : KX) (N : NM) : NM := { actN x N with ck := N.ck + 1 }
def iterN (x : KX) : Nat → NM → NM
  | 0, N => N
  | n + 1, N => cycleN x (iterN x n N)

/-- Two outsides that do the same. -/
structure OpsSim {σ τ : Type} (O : Ops σ) (P : Ops τ) (R : σ → τ → Prop) : Prop where
  fetch : ∀ m n a, R m n → O.fetch m a = P.fetch n a
  get : ∀ m n a, R m n → O.get m a = P.get n a
  put : ∀ m n a v, R m n → (O.put m a v = none ∧ P.put n a v = none) ∨ ∃ m' n', O.put m a v = some m' ∧ P.put n a v = some n' ∧ R m' n'
  call : ∀ m n s c, R m n → (O.call m s c).1 = (P.call n s c).1 ∧ (O.call m s c).2.1 = (P.call n s c).2.1 ∧ R (O.call m s c).2.2 (P.call n s c).2.2

theorem workM_sim {σ τ : Type} {O : Ops σ} {P : Ops τ} {R : σ → τ → Prop} (h : OpsSim O P R) (code a b : Nat) (n : Int) (s : StV) (m : σ) (m' : τ) (hr : R m m') :
    (workM O code a b n s m).1 = (workM P code a b n s m').1 ∧ (workM O code a b n s m).2.1 = (workM P code a b n s m').2.1 ∧ R (workM O code a b n s m).2.2 (workM P code a b n s m').2.2 := by
  unfold workM
  dsimp only
  split <;> try exact ⟨rfl, rfl, hr⟩
  · split
    · exact ⟨rfl, rfl, hr⟩
    · exact ⟨rfl, rfl, hr⟩
  · rw [h.get m m' _ hr]
    split
    · exact ⟨rfl, rfl, hr⟩
    · exact ⟨rfl, rfl, hr⟩
  · rcases h.put m m' ((s.regs.getD b 0 + n) % 4294967296) (s.regs.getD a 0) hr with ⟨h1, h2⟩ | ⟨u, u', h1, h2, h3⟩
    · rw [h1, h2]; exact ⟨rfl, rfl, hr⟩
    · rw [h1, h2]; exact ⟨rfl, rfl, h3⟩
  · exact h.call m m' s n hr

theorem instrM_sim {σ τ : Type} {O : Ops σ} {P : Ops τ} {R : σ → τ → Prop} (h : OpsSim O P R) (s : StV) (m : σ) (m' : τ) (hr : R m m') :
    (instrM O s m).1 = (instrM P s m').1 ∧ (instrM O s m).2.1 = (instrM P s m').2.1 ∧ R (instrM O s m).2.2 (instrM P s m').2.2 := by
  unfold instrM
  rw [h.fetch m m' _ hr]
  split
  · exact ⟨rfl, rfl, hr⟩
  · split
    · exact ⟨rfl, rfl, hr⟩
    · split
      · exact ⟨rfl, rfl, hr⟩
      · rename_i v _ _ _ _ _ _
        have hw := workM_sim h ((v / 16777216).toNat - 1) (v / 1048576 % 8).toNat (v / 65536 % 8).toNat (v % 65536) { s with place := (s.place + 1) % 4294967296 } m m' hr
        dsimp only
        rw [hw.1, hw.2.1]
        split
        · exact ⟨rfl, rfl, hw.2.2⟩
        · exact hw

theorem cycleM_sim {σ τ : Type} {O : Ops σ} {P : Ops τ} {R : σ → τ → Prop} (h : OpsSim O P R) (s : StV) (m : σ) (m' : τ) (hr : R m m') : (cycleM O s m).1 = (cycleM P s m').1 ∧ R (cycleM O s m).2 (cycleM P s m').2 := by
  unfold cycleM
  split
  · exact ⟨rfl, hr⟩
  · split
    · exact ⟨rfl, hr⟩
    · have hi := instrM_sim h s m m' hr
      unfold stepM
      dsimp only
      rw [hi.1, hi.2.1]
      split
      · exact ⟨rfl, hi.2.2⟩
      · exact ⟨rfl, hi.2.2⟩

/-- What must hold of an outside for states to stay words. -/
structure OpsB {σ : Type} (O : Ops σ) (R : σ → Prop) : Prop where
  get : ∀ m a v, R m → O.get m a = some v → 0 ≤ v ∧ v < 4294967296
  callB : ∀ m s n, R m → StB s → StB (O.call m s n).2.1
  callC : ∀ m s n, R m → StB s → 0 ≤ (O.call m s n).1 ∧ (O.call m s n).1 ≤ 5
  put : ∀ m a v m', R m → 0 ≤ v → v < 4294967296 → O.put m a v = some m' → R m'
  call : ∀ m s n, R m → StB s → R (O.call m s n).2.2

theorem jmp_bd {s : StV} (h : StB s) {n : Int} (n0 : 0 ≤ n) (n1 : n < 65536) (b : Bool) : 0 ≤ jmp b n s.place ∧ jmp b n s.place < 4294967296 := by
  have := h.p0
  have := h.p1
  unfold jmp
  split <;> omega
theorem workM_B' {σ : Type} {O : Ops σ} {R : σ → Prop} (ok : OpsB O R) (m : σ) (hR : R m) (code a b : Nat) (n : Int) (n0 : 0 ≤ n) (n1 : n < 65536) (s : StV) (h : StB s) : StB (workM O code a b n s m).2.1 := by
  have hx := h.getD a
  have hy := h.getD b
  unfold workM
  dsimp only
  split
  · exact h.set _ _ n0 (by omega)
  · exact h.set _ _ (by omega) (by omega)
  · exact h.set _ _ hy.1 hy.2
  · exact h.set _ _ (by omega) (by omega)
  · exact h.set _ _ (by omega) (by omega)
  · exact h.set _ _ (by omega) (by omega)
  · split
    · exact h
    · exact h.set _ _ (Int.ediv_nonneg hx.1 hy.1) (Int.lt_of_le_of_lt (Int.ediv_le_self _ hx.1) hx.2)
  · exact h.set _ _ (by omega) (by have : (s.regs.getD a 0).toNat &&& (s.regs.getD b 0).toNat ≤ (s.regs.getD a 0).toNat := Nat.and_le_left; omega)
  · refine h.set _ _ (by omega) ?_
    have := Nat.or_lt_two_pow (n := 32) (x := (s.regs.getD a 0).toNat) (y := (s.regs.getD b 0).toNat) (by omega) (by omega)
    omega
  · refine h.set _ _ (by omega) ?_
    have := Nat.xor_lt_two_pow (n := 32) (x := (s.regs.getD a 0).toNat) (y := (s.regs.getD b 0).toNat) (by omega) (by omega)
    omega
  · exact h.set _ _ (by omega) (by omega)
  · refine h.set _ _ (Int.ediv_nonneg hx.1 (Int.le_of_lt (Int.pow_pos (by omega)))) (Int.lt_of_le_of_lt (Int.ediv_le_self _ hx.1) hx.2)
  · split
    · rename_i v hv
      have := ok.get m _ v hR hv
      exact h.set _ _ this.1 this.2
    · exact h
  · split
    · exact h
    · exact h
  · exact h.place _ (jmp_bd h n0 n1 _).1 (jmp_bd h n0 n1 _).2
  · exact h.place _ (jmp_bd h n0 n1 _).1 (jmp_bd h n0 n1 _).2
  · exact h.place _ (jmp_bd h n0 n1 _).1 (jmp_bd h n0 n1 _).2
  · exact ok.callB m s n hR h
theorem workM_C' {σ : Type} {O : Ops σ} {R : σ → Prop} (ok : OpsB O R) (m : σ) (hR : R m) (code a b : Nat) (n : Int) (s : StV) (h : StB s) : 0 ≤ (workM O code a b n s m).1 ∧ (workM O code a b n s m).1 ≤ 5 := by
  unfold workM
  dsimp only
  split <;> (try simp)
  · split <;> simp
  · split <;> simp
  · split <;> simp
  · exact ok.callC m s n hR h
theorem workM_R {σ : Type} {O : Ops σ} {R : σ → Prop} (ok : OpsB O R) (m : σ) (hR : R m) (code a b : Nat) (n : Int) (s : StV) (h : StB s) : R (workM O code a b n s m).2.2 := by
  have hx := h.getD a
  unfold workM
  dsimp only
  split <;> (try exact hR)
  · split <;> exact hR
  · split <;> exact hR
  · split
    · rename_i u hu
      exact ok.put m _ _ u hR hx.1 hx.2 hu
    · exact hR
  · exact ok.call m s n hR h

theorem cycleM_B' {σ : Type} {O : Ops σ} {R : σ → Prop} (ok : OpsB O R) (m : σ) (hR : R m) (s : StV) (h : StB s) : StB (cycleM O s m).1 ∧ R (cycleM O s m).2 := by
  unfold cycleM
  split
  · exact ⟨h, hR⟩
  · split
    · rename_i hb
      have := h.b1
      exact ⟨⟨h.l, h.r, h.p0, h.p1, h.s0, h.s1, h.c0, h.c1, by simp only; omega, by simp only; omega⟩, hR⟩
    · have hp : StB { s with place := (s.place + 1) % 4294967296 } := h.place _ (by omega) (by omega)
      have hI : StB (instrM O s m).2.1 ∧ (0 ≤ (instrM O s m).1 ∧ (instrM O s m).1 ≤ 5) ∧ R (instrM O s m).2.2 := by
        unfold instrM
        split
        · exact ⟨h, by simp, hR⟩
        · split
          · exact ⟨h, by simp, hR⟩
          · rename_i v hv _ f cyc hc
            have hcy := code_cyc _ _ _ hc
            split
            · exact ⟨h, by simp, hR⟩
            · have hw := workM_B' ok m hR ((v / 16777216).toNat - 1) (v / 1048576 % 8).toNat (v / 65536 % 8).toNat (v % 65536) (by omega) (by omega) _ hp
              have hc' := workM_C' ok m hR ((v / 16777216).toNat - 1) (v / 1048576 % 8).toNat (v / 65536 % 8).toNat (v % 65536) _ hp
              have hr' := workM_R ok m hR ((v / 16777216).toNat - 1) (v / 1048576 % 8).toNat (v / 65536 % 8).toNat (v % 65536) _ hp
              dsimp only
              split
              · refine ⟨?_, by simp, hr'⟩
                dsimp only
                split
                · exact ⟨hw.l, hw.r, hw.p0, hw.p1, hw.s0, hw.s1, hw.c0, hw.c1, by simp only; omega, by simp only; omega⟩
                · exact hw
              · exact ⟨hw, hc', hr'⟩
      unfold stepM
      dsimp only
      split
      · exact ⟨hI.1, hI.2.2⟩
      · exact ⟨⟨h.l, h.r, h.p0, h.p1, by simp only; omega, by simp only; omega, hI.2.1.1, hI.2.1.2, h.b0, h.b1⟩, hI.2.2⟩

end Go.Proofs.YthmcheoehcmglaaGreat
/- The machine's words and the net's: while a ward has its turn. -/
namespace Go.Proofs.YthmcheoehcmglaaGreat
open Go.RowKit
set_option linter.unusedVariables false

/-- How many words are the kernel's. -/
def kerK (x : KX) : Nat := 16 + 16 * x.regs.length + 2 * x.wires.length

/-- A machine whose regions lie where they may. -/
structure KXok (x : KX) : Prop where
  rg : ∀ rs ∈ x.regs, ∀ r ∈ rs, 0 ≤ r.1 ∧ 0 ≤ r.2.1 ∧ (kerK x : Int) ≤ r.2.2.1 ∧ r.2.2.1 + r.2.1 ≤ x.n ∧ r.1 + r.2.1 ≤ 32768
  ad : ∀ rs ∈ x.regs, rs.Pairwise (fun r r' => ∀ a, ¬ (inR r a = true ∧ inR r' a = true))
  mw : ∀ (k k' : Nat) rs rs' (j j' : Nat) r r', x.regs[k]? = some rs → x.regs[k']? = some rs' → rs[j]? = some r → rs'[j']? = some r' → ¬ (k = k' ∧ j = j') → ∀ i : Int, ¬ ((r.2.2.1 ≤ i ∧ i < r.2.2.1 + r.2.1) ∧ (r'.2.2.1 ≤ i ∧ i < r'.2.2.1 + r'.2.1))

/-- The words of cells and regions are the net's. -/
structure HiRel (x : KX) (mem : List Int) (W : List (List (List Int))) (wi : List (Int × Int)) : Prop where
  l : mem.length = x.n
  il : wi.length = x.wires.length
  cl : ∀ (i : Nat) (c : Int × Int), wi[i]? = some c → mem.getD (cellAt x i) 0 = c.1 ∧ mem.getD (cellAt x i + 1) 0 = c.2 ∧ (c.1 = 0 ∨ c.1 = 1)
  wl : W.length = x.regs.length
  rl : ∀ (k : Nat) rs ws, x.regs[k]? = some rs → W[k]? = some ws → ws.length = rs.length
  rg : ∀ (k : Nat) rs ws (j : Nat) r u, x.regs[k]? = some rs → W[k]? = some ws → rs[j]? = some r → ws[j]? = some u → u.length = r.2.1.toNat ∧ ∀ i : Nat, (i : Int) < r.2.1 → mem.getD (r.2.2.1.toNat + i) 0 = u.getD i 0
  ot : ∀ i : Nat, kerK x ≤ i → (∀ rs ∈ x.regs, ∀ r ∈ rs, ¬ (r.2.2.1 ≤ (i : Int) ∧ (i : Int) < r.2.2.1 + r.2.1)) → mem.getD i 0 = 0

theorem inR_iff (r : Reg) (a : Int) : inR r a = true ↔ r.1 ≤ a ∧ a < r.1 + r.2.1 := by simp [inR]

theorem findR_none (rights a : Int) : ∀ rs : List Reg, (∀ r ∈ rs, inR r a = false) → findR rights a rs = none := by
  intro rs
  induction rs with
  | nil => intro _; rfl
  | cons r rs ih =>
    intro h
    unfold findR
    rw [if_neg (by rw [h r (by simp)]; simp)]
    exact ih (fun r hr => h r (by simp [hr]))

/-- Of regions that share no address, the one that has the address is the one that has the right. -/
theorem findR_eq (rights a : Int) : ∀ rs : List Reg, rs.Pairwise (fun r r' => ∀ a, ¬ (inR r a = true ∧ inR r' a = true)) →
    findR rights a rs = match regI rs a with | some j => if hasR (regAt rs j) rights then some ((regAt rs j).2.2.1 + (a - (regAt rs j).1)) else none | none => none := by
  intro rs
  induction rs with
  | nil => intro _; rfl
  | cons r rs ih =>
    intro hp
    obtain ⟨h1, h2⟩ := List.pairwise_cons.1 hp
    unfold findR regI
    rw [List.findIdx?_cons]
    cases hin : inR r a with
    | true =>
      simp only [Bool.true_and, if_true]
      have hr0 : regAt (r :: rs) 0 = r := rfl
      rw [hr0]
      by_cases hh : hasR r rights = true
      · rw [if_pos hh, if_pos hh]
      · rw [if_neg hh, if_neg hh]
        refine findR_none _ _ _ ?_
        intro r' hr'
        cases hc : inR r' a with
        | false => rfl
        | true => exact absurd ⟨hin, hc⟩ (h1 r' hr' a)
    | false =>
      simp only [Bool.false_and, Bool.false_eq_true, if_false]
      rw [ih h2]
      unfold regI
      cases rs.findIdx? (fun r => inR r a) with
      | none => rfl
      | some j => rfl

theorem regI_some {rs : List Reg} {a : Int} {j : Nat} (h : regI rs a = some j) : ∃ r, rs[j]? = some r ∧ regAt rs j = r ∧ inR r a = true := by
  unfold regI at h
  have h1 := List.findIdx?_eq_some_iff_getElem.1 h
  obtain ⟨hj, h2, _⟩ := h1
  refine ⟨rs[j], List.getElem?_eq_getElem hj, ?_, by simpa using h2⟩
  unfold regAt
  rw [List.getD_eq_getElem?_getD, List.getElem?_eq_getElem hj]
  rfl

/-- While ward k has its turn. -/
structure TurnRel (x : KX) (mem0 : List Int) (W : List (List (List Int))) (k : Nat) (m : MemD) (n : NS) : Prop where
  h : HiRel x m.1 (W.set k n.1) n.2.1
  lo : ∀ i, i < 16 + 16 * x.regs.length → m.1.getD i 0 = mem0.getD i 0
  d : m.2 = n.2.2

theorem HiRel.read {x : KX} (hx : KXok x) {mem : List Int} {W : List (List (List Int))} {wi : List (Int × Int)} (h : HiRel x mem W wi) (k : Nat) (ws : List (List Int)) (hW : W[k]? = some ws) (right a : Int) :
    readM (x.regs.getD k []) right mem a = readN (x.regs.getD k []) right ws a := by
  have hk : k < x.regs.length := by rw [← h.wl]; exact (List.getElem?_eq_some_iff.1 hW).1
  obtain ⟨rs, hrs⟩ : ∃ rs, x.regs[k]? = some rs := ⟨_, List.getElem?_eq_getElem hk⟩
  rw [getD_of hrs]
  unfold readM readN
  rw [findR_eq right a rs (hx.ad rs (List.mem_of_getElem? hrs))]
  cases hi : regI rs a with
  | none => rfl
  | some j =>
    obtain ⟨r, hr, hra, hin⟩ := regI_some hi
    simp only [hra]
    split
    · have hj : j < ws.length := by rw [h.rl k rs ws hrs hW]; exact (List.getElem?_eq_some_iff.1 hr).1
      have hb := hx.rg rs (List.mem_of_getElem? hrs) r (List.mem_of_getElem? hr)
      have hi2 := (inR_iff r a).1 hin
      have h2 := (h.rg k rs ws j r _ hrs hW hr (List.getElem?_eq_getElem hj)).2 (a - r.1).toNat (by omega)
      simp only [Option.map_some]
      rw [getD_of (List.getElem?_eq_getElem hj), ← h2]
      congr 2
      omega
    · rfl

theorem HiRel.write {x : KX} (hx : KXok x) {mem : List Int} {W : List (List (List Int))} {wi : List (Int × Int)} (h : HiRel x mem W wi) (k : Nat) (rs : List Reg) (ws : List (List Int)) (hrs : x.regs[k]? = some rs) (hW : W[k]? = some ws) (j : Nat) (r : Reg) (hr : rs[j]? = some r) (i : Nat) (hi : (i : Int) < r.2.1) (v : Int) :
    HiRel x (mem.set (r.2.2.1.toNat + i) v) (W.set k (ws.set j ((ws.getD j []).set i v))) wi := by
  have hb := hx.rg rs (List.mem_of_getElem? hrs) r (List.mem_of_getElem? hr)
  have hk : k < W.length := (List.getElem?_eq_some_iff.1 hW).1
  have hj : j < ws.length := by rw [h.rl k rs ws hrs hW]; exact (List.getElem?_eq_some_iff.1 hr).1
  have hml := h.l
  have ho : ∀ p : Nat, p ≠ r.2.2.1.toNat + i → (mem.set (r.2.2.1.toNat + i) v).getD p 0 = mem.getD p 0 := fun p hp => by rw [getD_set_eq, if_neg (fun e => hp e.1.symm)]
  refine ⟨by rw [List.length_set]; exact h.l, h.il, ?_, by rw [List.length_set]; exact h.wl, ?_, ?_, ?_⟩
  · intro p c hc
    have hp : p < x.wires.length := by rw [← h.il]; exact (List.getElem?_eq_some_iff.1 hc).1
    have h1 := h.cl p c hc
    unfold cellAt at h1 ⊢
    unfold kerK at hb
    rw [ho _ (by omega), ho _ (by omega)]
    exact h1
  · intro k' rs' ws' hrs' hW'
    by_cases hkk : k = k'
    · subst hkk
      rw [List.getElem?_set_self hk] at hW'
      rw [hrs] at hrs'
      cases hrs'
      cases hW'
      rw [List.length_set]
      exact h.rl k rs ws hrs hW
    · rw [List.getElem?_set_ne hkk] at hW'
      exact h.rl k' rs' ws' hrs' hW'
  · intro k' rs' ws' j' r' u' hrs' hW' hr' hu'
    by_cases hkj : k = k' ∧ j = j'
    · obtain ⟨rfl, rfl⟩ := hkj
      rw [List.getElem?_set_self hk] at hW'
      rw [hrs] at hrs'
      cases hrs'
      cases hW'
      rw [hr] at hr'
      cases hr'
      rw [List.getElem?_set_self hj] at hu'
      cases hu'
      have h1 := h.rg k rs ws j r _ hrs hW hr (List.getElem?_eq_getElem hj)
      rw [getD_of (List.getElem?_eq_getElem hj)]
      refine ⟨by rw [List.length_set]; exact h1.1, ?_⟩
      intro p hp
      by_cases hpi : i = p
      · subst hpi
        rw [getD_set_eq, if_pos ⟨rfl, by omega⟩, getD_set_eq, if_pos ⟨rfl, by rw [h1.1]; omega⟩]
      · rw [getD_set_eq, if_neg (by omega), getD_set_eq, if_neg (fun e => hpi e.1)]
        exact h1.2 p hp
    · have hb' := hx.rg rs' (List.mem_of_getElem? hrs') r' (List.mem_of_getElem? hr')
      have hne := hx.mw k k' rs rs' j j' r r' hrs hrs' hr hr' hkj
      obtain ⟨ws0, u0, hW0, hu0, hue⟩ : ∃ ws0 u0, W[k']? = some ws0 ∧ ws0[j']? = some u0 ∧ u' = u0 := by
        by_cases hkk : k = k'
        · subst hkk
          rw [List.getElem?_set_self hk] at hW'
          cases hW'
          rw [List.getElem?_set_ne (fun e => hkj ⟨rfl, e⟩)] at hu'
          exact ⟨ws, u', hW, hu', rfl⟩
        · rw [List.getElem?_set_ne hkk] at hW'
          exact ⟨ws', u', hW', hu', rfl⟩
      subst hue
      have h1 := h.rg k' rs' ws0 j' r' u' hrs' hW0 hr' hu0
      refine ⟨h1.1, ?_⟩
      intro p hp
      have hd := hne (r'.2.2.1 + p)
      rw [ho _ (by omega)]
      exact h1.2 p hp
  · intro p hp hn
    have := hn rs (List.mem_of_getElem? hrs) r (List.mem_of_getElem? hr)
    rw [ho p (by omega)]
    exact h.ot p hp hn

theorem HiRel.cell {x : KX} (hx : KXok x) {mem : List Int} {W : List (List (List Int))} {wi : List (Int × Int)} (h : HiRel x mem W wi) (hK : kerK x ≤ x.n) (i : Nat) (hi : i < x.wires.length) (a b : Int) (ha : a = 0 ∨ a = 1) (mem' : List Int) (hl : mem'.length = mem.length)
    (h0 : mem'.getD (cellAt x i) 0 = a) (h1 : mem'.getD (cellAt x i + 1) 0 = b) (ho : ∀ p : Nat, p ≠ cellAt x i → p ≠ cellAt x i + 1 → mem'.getD p 0 = mem.getD p 0) : HiRel x mem' W (wi.set i (a, b)) := by
  have hil := h.il
  refine ⟨by rw [hl]; exact h.l, by rw [List.length_set]; exact h.il, ?_, h.wl, h.rl, ?_, ?_⟩
  · intro p c hc
    by_cases hip : i = p
    · subst hip
      rw [List.getElem?_set_self (by omega)] at hc
      cases hc
      exact ⟨h0, h1, ha⟩
    · rw [List.getElem?_set_ne hip] at hc
      have h2 := h.cl p c hc
      unfold cellAt at h2 ho ⊢
      rw [ho _ (by omega) (by omega), ho _ (by omega) (by omega)]
      exact h2
  · intro k rs ws j r u hrs hW hr hu
    have hb := hx.rg rs (List.mem_of_getElem? hrs) r (List.mem_of_getElem? hr)
    have h2 := h.rg k rs ws j r u hrs hW hr hu
    refine ⟨h2.1, ?_⟩
    intro p hp
    unfold cellAt at ho
    unfold kerK at hb
    rw [ho _ (by omega) (by omega)]
    exact h2.2 p hp
  · intro p hp hn
    unfold cellAt at ho
    have hp' := hp
    unfold kerK at hp'
    rw [ho p (by omega) (by omega)]
    exact h.ot p hp hn

end Go.Proofs.YthmcheoehcmglaaGreat
/- The machine's outside and the net's do the same. -/
namespace Go.Proofs.YthmcheoehcmglaaGreat
open Go.RowKit
set_option linter.unusedVariables false

theorem set_getD_self {α : Type} (l : List α) (i : Nat) (d : α) (h : i < l.length) : l.set i (l.getD i d) = l := by
  rw [List.getD_eq_getElem?_getD, List.getElem?_eq_getElem h]
  simp

theorem opsSim (x : KX) (hx : KXok x) (hK : kerK x ≤ x.n) (mem0 : List Int) (W : List (List (List Int))) (k : Nat) (hk : k < W.length) (ck : Int) : OpsSim (opsK x k ck) (opsN x k ck) (TurnRel x mem0 W k) where
  fetch m n a h := h.h.read hx k n.1 (List.getElem?_set_self hk) 4 a
  get m n a h := by
    simp only [opsK, opsN, getM, getN]
    rw [h.d]
    cases findDev (x.dvs.getD k []) 0 a with
    | some d => rfl
    | none => exact h.h.read hx k n.1 (List.getElem?_set_self hk) 1 a
  put m n a v h := by
    simp only [opsK, opsN, putM, putN]
    have hkr : k < x.regs.length := by rw [← h.h.wl, List.length_set]; exact hk
    obtain ⟨rs, hrs⟩ : ∃ rs, x.regs[k]? = some rs := ⟨_, List.getElem?_eq_getElem hkr⟩
    rw [getD_of hrs]
    cases findDev (x.dvs.getD k []) 1 a with
    | some d => exact .inr ⟨_, _, rfl, rfl, ⟨h.h, h.lo, by simp only; rw [h.d]⟩⟩
    | none =>
      simp only
      rw [findR_eq 2 a rs (hx.ad rs (List.mem_of_getElem? hrs))]
      cases hi : regI rs a with
      | none => exact .inl ⟨rfl, rfl⟩
      | some j =>
        obtain ⟨r, hr, hra, hin⟩ := regI_some hi
        simp only [hra]
        have hb := hx.rg rs (List.mem_of_getElem? hrs) r (List.mem_of_getElem? hr)
        have hi2 := (inR_iff r a).1 hin
        split
        · refine .inr ⟨_, _, rfl, rfl, ?_, ?_, h.d⟩
          · have hw := h.h.write hx k rs n.1 hrs (List.getElem?_set_self hk) j r hr (a - r.1).toNat (by omega) v
            rw [List.set_set] at hw
            have e : (r.2.2.1 + (a - r.1)).toNat = r.2.2.1.toNat + (a - r.1).toNat := by omega
            simp only
            rw [e]
            exact hw
          · intro i hi3
            simp only
            unfold kerK at hb
            rw [getD_set_eq, if_neg (by omega)]
            exact h.lo i hi3
        · exact .inl ⟨rfl, rfl⟩
  call m n s c h := by
    simp only [opsK, opsN]
    have hw : ∀ (i : Nat) (p : Int × Int), x.wires[i]? = some p → ∃ q, n.2.1[i]? = some q := by
      intro i p hp
      have hi : i < n.2.1.length := by rw [h.h.il]; exact (List.getElem?_eq_some_iff.1 hp).1
      exact ⟨_, List.getElem?_eq_getElem hi⟩
    have hKn := hK
    have hml := h.h.l
    generalize c.toNat = cn
    match cn with
    | 0 => exact ⟨rfl, rfl, h⟩
    | 1 => exact ⟨rfl, rfl, h⟩
    | 2 => exact ⟨rfl, rfl, h⟩
    | 3 =>
      simp only [callM, callN, sendM, sendN]
      cases hwo : wireOf x s with
      | none => exact ⟨rfl, rfl, h⟩
      | some p =>
        obtain ⟨q, hq⟩ := hw _ p hwo
        have hwl : w1 s < x.wires.length := (List.getElem?_eq_some_iff.1 hwo).1
        have hc := h.h.cl _ q hq
        obtain ⟨f, t⟩ := p
        simp only
        have e1 : n.2.1.getD (w1 s) (0, 0) = q := getD_of hq
        have e2 : m.1.getD (cellOf x s) 0 = q.1 := hc.1
        rw [e1, e2]
        split
        · split
          · refine ⟨rfl, rfl, ?_, ?_, h.d⟩
            · unfold kerK at hKn
              refine h.h.cell hx hK (w1 s) hwl 1 _ (.inr rfl) _ (by simp) ?_ ?_ ?_
              · show ((m.1.set (cellOf x s) 1).set (cellOf x s + 1) _).getD (cellAt x (w1 s)) 0 = 1
                rw [getD_set_eq, if_neg (by unfold cellOf cellAt w1; omega), getD_set_eq, if_pos ⟨rfl, by unfold cellAt; omega⟩]
              · show ((m.1.set (cellOf x s) 1).set (cellOf x s + 1) _).getD (cellAt x (w1 s) + 1) 0 = _
                rw [getD_set_eq, if_pos ⟨rfl, by rw [List.length_set]; unfold cellAt; omega⟩]
              · intro p hp1 hp2
                show ((m.1.set (cellOf x s) 1).set (cellOf x s + 1) _).getD p 0 = _
                rw [getD_set_eq, if_neg (fun e => hp2 e.1.symm), getD_set_eq, if_neg (fun e => hp1 e.1.symm)]
            · intro i hi
              simp only
              rw [getD_set_eq, if_neg (by unfold cellOf cellAt; omega), getD_set_eq, if_neg (by unfold cellOf cellAt; omega)]
              exact h.lo i hi
          · exact ⟨rfl, rfl, h⟩
        · exact ⟨rfl, rfl, h⟩
    | 4 =>
      simp only [callM, callN, receiveM, receiveN]
      cases hwo : wireOf x s with
      | none => exact ⟨rfl, rfl, h⟩
      | some p =>
        obtain ⟨q, hq⟩ := hw _ p hwo
        have hwl : w1 s < x.wires.length := (List.getElem?_eq_some_iff.1 hwo).1
        have hc := h.h.cl _ q hq
        obtain ⟨f, t⟩ := p
        simp only
        have e1 : n.2.1.getD (w1 s) (0, 0) = q := getD_of hq
        have e2 : m.1.getD (cellOf x s) 0 = q.1 := hc.1
        have e3 : m.1.getD (cellOf x s + 1) 0 = q.2 := hc.2.1
        rw [e1, e2, e3]
        split
        · split
          · exact ⟨rfl, rfl, h⟩
          · refine ⟨rfl, rfl, ?_, ?_, h.d⟩
            · unfold kerK at hKn
              refine h.h.cell hx hK (w1 s) hwl 0 _ (.inl rfl) _ (by simp) ?_ ?_ ?_
              · show (m.1.set (cellOf x s) 0).getD (cellAt x (w1 s)) 0 = 0
                rw [getD_set_eq, if_pos ⟨rfl, by unfold cellAt; omega⟩]
              · show (m.1.set (cellOf x s) 0).getD (cellAt x (w1 s) + 1) 0 = _
                rw [getD_set_eq, if_neg (by unfold cellOf cellAt w1; omega)]
                exact e3
              · intro p hp1 hp2
                show (m.1.set (cellOf x s) 0).getD p 0 = _
                rw [getD_set_eq, if_neg (fun e => hp1 e.1.symm)]
            · intro i hi
              simp only
              rw [getD_set_eq, if_neg (by unfold cellOf cellAt; omega)]
              exact h.lo i hi
        · exact ⟨rfl, rfl, h⟩
    | 5 =>
      simp only [callM, callN, lookM, lookN]
      cases hwo : wireOf x s with
      | none => exact ⟨rfl, rfl, h⟩
      | some p =>
        obtain ⟨q, hq⟩ := hw _ p hwo
        have hc := h.h.cl _ q hq
        obtain ⟨f, t⟩ := p
        simp only
        have e1 : n.2.1.getD (w1 s) (0, 0) = q := getD_of hq
        have e2 : m.1.getD (cellOf x s) 0 = q.1 := hc.1
        rw [e1, e2]
        split
        · split
          · exact ⟨rfl, rfl, h⟩
          · exact ⟨rfl, rfl, h⟩
        · exact ⟨rfl, rfl, h⟩
    | 6 => exact ⟨rfl, rfl, h⟩
    | n + 7 => exact ⟨rfl, rfl, h⟩

end Go.Proofs.YthmcheoehcmglaaGreat
/- The machine and the net, cycle by cycle. -/
namespace Go.Proofs.YthmcheoehcmglaaGreat
open Go.RowKit
set_option linter.unusedVariables false

/-- The word 0 behind t cycles. -/
def turnN (x : KX) (t : Int) : Int :=
  if t = 0 then 0 else
    let k := (slotK x (t - 1)).1
    let r := (slotK x (t - 1)).2
    let q := x.qs.getD k 0
    if r < q then k else if r - q = x.gap - 1 then (((k + 1) % x.regs.length : Nat) : Int) else x.regs.length

theorem accN_pos {gap : Int} {qs : List Int} (h : QsOk gap qs) : 2 ≤ accN gap qs qs.length := by
  have h1 := accN_bd h qs.length (Nat.le_refl _)
  have := h.l1
  omega

/-- Each cycle of a round belongs to a turn (or the gap behind it). -/
theorem slot_ex {gap : Int} {qs : List Int} (h : QsOk gap qs) (c : Int) (c0 : 0 ≤ c) : ∀ n, n ≤ qs.length → c < accN gap qs n → ∃ k, k < n ∧ accN gap qs k ≤ c ∧ c < accN gap qs (k + 1) := by
  intro n
  induction n with
  | zero => intro _ hc; simp [accN] at hc; omega
  | succ n ih =>
    intro hn hc
    by_cases h1 : c < accN gap qs n
    · obtain ⟨k, hk, h2, h3⟩ := ih (by omega) h1
      exact ⟨k, by omega, h2, h3⟩
    · exact ⟨n, by omega, by omega, hc⟩

structure SlotIs (x : KX) (t : Int) (k : Nat) (r : Int) : Prop where
  e : slotK x t = (k, r)
  kl : k < x.qs.length
  r0 : 0 ≤ r
  r1 : r < x.qs.getD k 0 + x.gap
  c : t % roundK x = accN x.gap x.qs k + r

theorem slot_is {x : KX} (h : QsOk x.gap x.qs) (t : Int) (t0 : 0 ≤ t) : ∃ k r, SlotIs x t k r := by
  have hp := accN_pos h
  have hc0 : 0 ≤ t % roundK x := Int.emod_nonneg _ (by unfold roundK; omega)
  have hc1 : t % roundK x < roundK x := Int.emod_lt_of_pos _ (by unfold roundK; omega)
  obtain ⟨k, hk, h1, h2⟩ := slot_ex h (t % roundK x) hc0 x.qs.length (Nat.le_refl _) hc1
  refine ⟨k, t % roundK x - accN x.gap x.qs k, slotR_eq h k _ hk h1 h2, hk, by omega, ?_, by omega⟩
  simp only [accN] at h2
  omega

theorem slot_of {x : KX} (h : QsOk x.gap x.qs) (t : Int) (k : Nat) (r : Int) (hk : k < x.qs.length) (r0 : 0 ≤ r) (r1 : r < x.qs.getD k 0 + x.gap) (c : t % roundK x = accN x.gap x.qs k + r) : SlotIs x t k r := by
  refine ⟨?_, hk, r0, r1, c⟩
  have := slotR_eq h k (t % roundK x) hk (by omega) (by simp only [accN]; omega)
  unfold slotK
  rw [this, c]
  congr 1
  omega

/-- Whose turn it is ahead of a cycle. -/
theorem turn_slot {x : KX} (h : QsOk x.gap x.qs) (hl : x.qs.length = x.regs.length) (t : Int) (t0 : 0 ≤ t) (k : Nat) (r : Int) (hs : SlotIs x t k r) : turnN x t = if r ≤ x.qs.getD k 0 then (k : Int) else x.regs.length := by
  have hg0 := h.g0
  have hp := accN_pos h
  have hqk := h.at k hs.kl
  unfold turnN
  by_cases ht : t = 0
  · subst ht
    rw [if_pos rfl]
    have hc := hs.c
    rw [Int.zero_emod] at hc
    have hk0 : k = 0 := by
      have := accN_bd h k (by have := hs.kl; omega)
      have := hs.r0
      omega
    subst hk0
    simp only [accN] at hc
    rw [if_pos (by omega)]
    rfl
  · rw [if_neg ht]
    by_cases hr : 0 < r
    · have hs' : SlotIs x (t - 1) k (r - 1) := by
        refine slot_of h _ _ _ hs.kl (by omega) (by have := hs.r1; omega) ?_
        have hc := hs.c
        have hb := accN_bd h k (by have := hs.kl; omega)
        have e : (t - 1) % roundK x = t % roundK x - 1 := by
          have h1 : 0 < roundK x := by unfold roundK; omega
          have h2 : t % roundK x < roundK x := Int.emod_lt_of_pos _ h1
          have h3 : t = roundK x * (t / roundK x) + t % roundK x := (Int.mul_ediv_add_emod t (roundK x)).symm
          rw [show t - 1 = (t % roundK x - 1) + roundK x * (t / roundK x) by omega, Int.add_mul_emod_self_left, Int.emod_eq_of_lt (by omega) (by omega)]
        rw [e]
        omega
      rw [hs'.e]
      simp only
      have hr1 := hs.r1
      by_cases h1 : r - 1 < x.qs.getD k 0
      · rw [if_pos h1, if_pos (by omega)]
      · rw [if_neg h1, if_neg (by omega), if_neg (by omega)]
    · have hr0 : r = 0 := by have := hs.r0; omega
      subst hr0
      rw [if_pos (show (0 : Int) ≤ x.qs.getD k 0 by omega)]
      by_cases hk0 : k = 0
      · subst hk0
        have hl1 := h.l1
        have hlast := h.at (x.qs.length - 1) (by omega)
        have hs' : SlotIs x (t - 1) (x.qs.length - 1) (x.qs.getD (x.qs.length - 1) 0 + x.gap - 1) := by
          refine slot_of h _ _ _ (by omega) (by omega) (by omega) ?_
          have hc := hs.c
          simp only [accN] at hc
          have e2 : accN x.gap x.qs x.qs.length = accN x.gap x.qs (x.qs.length - 1) + (x.qs.getD (x.qs.length - 1) 0 + x.gap) := by
            obtain ⟨d, hd⟩ : ∃ d, x.qs.length = d + 1 := ⟨x.qs.length - 1, by omega⟩
            rw [hd]
            rfl
          have e : (t - 1) % roundK x = roundK x - 1 := by
            have h1 : 0 < roundK x := by unfold roundK; omega
            have h3 : t = roundK x * (t / roundK x) + t % roundK x := (Int.mul_ediv_add_emod t (roundK x)).symm
            have h4 : roundK x * (t / roundK x - 1) = roundK x * (t / roundK x) - roundK x := by rw [Int.mul_sub, Int.mul_one]
            rw [show t - 1 = (roundK x - 1) + roundK x * (t / roundK x - 1) by omega, Int.add_mul_emod_self_left, Int.emod_eq_of_lt (by omega) (by omega)]
          rw [e]
          unfold roundK
          omega
        rw [hs'.e]
        simp only
        rw [if_neg (by omega), if_pos (by omega)]
        have : x.qs.length - 1 + 1 = x.regs.length := by omega
        rw [this, Nat.mod_self]
      · have hkq := hs.kl
        have hlast := h.at (k - 1) (by omega)
        have hs' : SlotIs x (t - 1) (k - 1) (x.qs.getD (k - 1) 0 + x.gap - 1) := by
          refine slot_of h _ _ _ (by omega) (by omega) (by omega) ?_
          have hc := hs.c
          have e2 : accN x.gap x.qs k = accN x.gap x.qs (k - 1) + (x.qs.getD (k - 1) 0 + x.gap) := by
            obtain ⟨d, hd⟩ : ∃ d, k = d + 1 := ⟨k - 1, by omega⟩
            subst hd
            rfl
          have hb := accN_bd h k (by omega)
          have e : (t - 1) % roundK x = t % roundK x - 1 := by
            have h1 : 0 < roundK x := by unfold roundK; omega
            have h2 : t % roundK x < roundK x := Int.emod_lt_of_pos _ h1
            have h3 : t = roundK x * (t / roundK x) + t % roundK x := (Int.mul_ediv_add_emod t (roundK x)).symm
            rw [show t - 1 = (t % roundK x - 1) + roundK x * (t / roundK x) by omega, Int.add_mul_emod_self_left, Int.emod_eq_of_lt (by omega) (by omega)]
          rw [e]
          omega
        rw [hs'.e]
        simp only
        rw [if_neg (by omega), if_pos (by omega)]
        have : k - 1 + 1 = k := by omega
        rw [this, Nat.mod_eq_of_lt (by omega)]

/-- The word 0 behind a cycle. -/
theorem turn_next {x : KX} (t : Int) (t0 : 0 ≤ t) (k : Nat) (r : Int) (hs : SlotIs x t k r) : turnN x (t + 1) = if r < x.qs.getD k 0 then (k : Int) else if r - x.qs.getD k 0 = x.gap - 1 then (((k + 1) % x.regs.length : Nat) : Int) else x.regs.length := by
  unfold turnN
  rw [if_neg (by omega), show t + 1 - 1 = t by omega, hs.e]

end Go.Proofs.YthmcheoehcmglaaGreat
/- The machine is the net: the relation, and that a cycle keeps it. -/
namespace Go.Proofs.YthmcheoehcmglaaGreat
open Go.RowKit
set_option linter.unusedVariables false

def bdW (v : Int) : Prop := 0 ≤ v ∧ v < 4294967296

structure KXs (x : KX) : Prop where
  ok : KXok x
  q : QsOk x.gap x.qs
  ql : x.qs.length = x.regs.length
  kn : kerK x ≤ x.n

structure Sim (x : KX) (s : KM) (N : NM) : Prop where
  ck : s.ck = N.ck
  c0 : 0 ≤ N.ck
  hi : HiRel x s.mem (N.wn.map (·.ws)) N.wi
  dv : s.devs = N.devs
  sl : s.sts.length = x.regs.length
  t0 : s.mem.getD 0 0 = turnN x N.ck
  t1 : s.mem.getD 1 0 = N.ck % 4294967296
  lo : ∀ i, 2 ≤ i → i < 16 → s.mem.getD i 0 = 0
  ar : ∀ (k : Nat) w, N.wn[k]? = some w → loadSt s.mem (16 + 16 * k) = w.was ∧ ∀ i, 13 ≤ i → i < 16 → s.mem.getD (16 + 16 * k + i) 0 = 0
  st : ∀ (k : Nat) w, N.wn[k]? = some w → (turnN x N.ck = k → s.sts[k]? = some w.now) ∧ (turnN x N.ck ≠ k → w.now = w.was)
  sb : ∀ w ∈ N.wn, StB w.now ∧ StB w.was
  nw : ∀ w ∈ N.wn, ∀ u ∈ w.ws, ∀ v ∈ u, bdW v
  ni : ∀ c ∈ N.wi, bdW c.1 ∧ bdW c.2
  nd : ∀ d ∈ N.devs, bdW d.1

theorem HiRel.congr {x : KX} {mem mem' : List Int} {W : List (List (List Int))} {wi : List (Int × Int)} (hx : KXok x) (h : HiRel x mem W wi) (hl : mem'.length = mem.length) (he : ∀ i, 16 + 16 * x.regs.length ≤ i → mem'.getD i 0 = mem.getD i 0) : HiRel x mem' W wi := by
  refine ⟨by rw [hl]; exact h.l, h.il, ?_, h.wl, h.rl, ?_, ?_⟩
  · intro i c hc
    have h1 := h.cl i c hc
    unfold cellAt at h1 ⊢
    rw [he _ (by omega), he _ (by omega)]
    exact h1
  · intro k rs ws j r u hrs hW hr hu
    have hb := hx.rg rs (List.mem_of_getElem? hrs) r (List.mem_of_getElem? hr)
    unfold kerK at hb
    have h1 := h.rg k rs ws j r u hrs hW hr hu
    refine ⟨h1.1, fun i hi => ?_⟩
    rw [he _ (by omega)]
    exact h1.2 i hi
  · intro i hi hn
    have hi' := hi
    unfold kerK at hi'
    rw [he _ (by omega)]
    exact h.ot i hi hn

theorem wi_bd {l : List (Int × Int)} (h : ∀ c ∈ l, bdW c.1 ∧ bdW c.2) (i : Nat) : bdW (l.getD i (0, 0)).1 ∧ bdW (l.getD i (0, 0)).2 := by
  rw [List.getD_eq_getElem?_getD]
  cases hi : l[i]? with
  | none => exact ⟨⟨by simp, by simp⟩, ⟨by simp, by simp⟩⟩
  | some c => exact h c (List.mem_of_getElem? hi)

def NSB (n : NS) : Prop := (∀ u ∈ n.1, ∀ v ∈ u, bdW v) ∧ (∀ c ∈ n.2.1, bdW c.1 ∧ bdW c.2) ∧ (∀ d ∈ n.2.2, bdW d.1)

theorem getD_bd {l : List Int} (h : ∀ v ∈ l, bdW v) (i : Nat) : bdW (l.getD i 0) := by
  rw [List.getD_eq_getElem?_getD]
  cases hi : l[i]? with
  | none => exact ⟨by simp, by simp⟩
  | some c => exact h c (List.mem_of_getElem? hi)
theorem getD2_mem {l : List (List Int)} (h : ∀ u ∈ l, ∀ v ∈ u, bdW v) (i : Nat) : ∀ v ∈ l.getD i [], bdW v := by
  rw [List.getD_eq_getElem?_getD]
  cases hi : l[i]? with
  | none => intro v hv; simp at hv
  | some c => exact h c (List.mem_of_getElem? hi)

theorem readN_bd {rs : List Reg} {right : Int} {ws : List (List Int)} {a v : Int} (h : ∀ u ∈ ws, ∀ v ∈ u, bdW v) (hv : readN rs right ws a = some v) : bdW v := by
  unfold readN at hv
  split at hv
  · split at hv
    · cases hv
      exact getD_bd (getD2_mem h _) _
    · cases hv
  · cases hv

theorem opsB (x : KX) (k : Nat) (hk : k ≤ 4) (ck : Int) : OpsB (opsN x k ck) NSB where
  get m a v h hv := by
    simp only [opsN, getN] at hv
    split at hv
    · cases hv
      rename_i d _
      rw [List.getD_eq_getElem?_getD]
      cases hi : m.2.2[d.toNat]? with
      | none => exact ⟨by simp, by simp⟩
      | some c => exact h.2.2 c (List.mem_of_getElem? hi)
    · exact readN_bd h.1 hv
  callB m s n h hs := by
    simp only [opsN]
    generalize n.toNat = c
    have hw := wi_bd h.2.1 (w1 s)
    match c with
    | 0 => exact ⟨hs.l, hs.r, hs.p0, hs.p1, by simp [callN], by simp [callN], hs.c0, hs.c1, hs.b0, hs.b1⟩
    | 1 => exact ⟨hs.l, hs.r, hs.p0, hs.p1, hs.s0, hs.s1, hs.c0, hs.c1, hs.b0, hs.b1⟩
    | 2 => exact hs.set 0 _ (by omega) (by omega)
    | 3 =>
      simp only [callN, sendN]
      split
      · exact hs
      · split
        · split
          · exact hs.set 0 _ (by omega) (by omega)
          · exact hs.set 0 _ (by omega) (by omega)
        · exact hs
    | 4 =>
      simp only [callN, receiveN]
      split
      · exact hs
      · split
        · split
          · exact hs.set 0 _ (by omega) (by omega)
          · exact (hs.set 2 _ hw.2.1 hw.2.2).set 0 _ (by omega) (by omega)
        · exact hs
    | 5 =>
      simp only [callN, lookN]
      split
      · exact hs
      · split
        · split
          · exact hs.set 0 _ (by omega) (by omega)
          · exact hs.set 0 _ (by omega) (by omega)
        · exact hs
    | 6 => exact hs.set 0 _ (by omega) (by omega)
    | n + 7 => exact hs
  callC m s n h hs := by
    simp only [opsN]
    generalize n.toNat = c
    match c with
    | 0 => simp [callN]
    | 1 => simp [callN]
    | 2 => simp [callN]
    | 3 => simp only [callN, sendN]; split <;> (try split) <;> (try split) <;> simp
    | 4 => simp only [callN, receiveN]; split <;> (try split) <;> (try split) <;> simp
    | 5 => simp only [callN, lookN]; split <;> (try split) <;> (try split) <;> simp
    | 6 => simp [callN]
    | n + 7 => simp [callN]
  put m a v m' h v0 v1 hp := by
    simp only [opsN, putN] at hp
    split at hp
    · cases hp
      refine ⟨h.1, h.2.1, ?_⟩
      intro d hd
      unfold putD at hd
      rcases List.mem_or_eq_of_mem_set hd with h1 | h1
      · exact h.2.2 d h1
      · rw [h1]
        simp only
        rename_i d0 _
        rw [List.getD_eq_getElem?_getD]
        cases hi : m.2.2[d0.toNat]? with
        | none => exact ⟨by simp, by simp⟩
        | some c => exact h.2.2 c (List.mem_of_getElem? hi)
    · split at hp
      · split at hp
        · cases hp
          refine ⟨?_, h.2.1, h.2.2⟩
          intro u hu
          rcases List.mem_or_eq_of_mem_set hu with h1 | h1
          · exact h.1 u h1
          · rw [h1]
            intro z hz
            rcases List.mem_or_eq_of_mem_set hz with h2 | h2
            · exact getD2_mem h.1 _ z h2
            · rw [h2]; exact ⟨v0, v1⟩
        · cases hp
      · cases hp
  call m s n h hs := by
    refine ⟨h.1, ?_, h.2.2⟩
    simp only [opsN]
    generalize n.toNat = c
    have hw := wi_bd h.2.1 (w1 s)
    have hr2 := hs.getD 2
    match c with
    | 0 => exact h.2.1
    | 1 => exact h.2.1
    | 2 => exact h.2.1
    | 3 =>
      simp only [callN, sendN]
      split
      · exact h.2.1
      · split
        · split
          · intro d hd
            rcases List.mem_or_eq_of_mem_set hd with h1 | h1
            · exact h.2.1 d h1
            · rw [h1]; exact ⟨⟨by simp, by simp⟩, hr2⟩
          · exact h.2.1
        · exact h.2.1
    | 4 =>
      simp only [callN, receiveN]
      split
      · exact h.2.1
      · split
        · split
          · exact h.2.1
          · intro d hd
            rcases List.mem_or_eq_of_mem_set hd with h1 | h1
            · exact h.2.1 d h1
            · rw [h1]; exact ⟨⟨by simp, by simp⟩, hw.2⟩
        · exact h.2.1
    | 5 =>
      simp only [callN, lookN]
      split
      · exact h.2.1
      · split
        · split <;> exact h.2.1
        · exact h.2.1
    | 6 => exact h.2.1
    | n + 7 => exact h.2.1

theorem Sim.area {x : KX} {s : KM} {N : NM} (h : Sim x s N) : AreaOk x s.mem := by
  intro k hk
  have hkl : k < N.wn.length := by have := h.hi.wl; rw [List.length_map] at this; omega
  rw [(h.ar k _ (List.getElem?_eq_getElem hkl)).1]
  exact (h.sb _ (List.getElem_mem hkl)).2

/-- A cycle of a ward's turn. -/
theorem Sim.turn {x : KX} (hX : KXs x) {s : KM} {N : NM} (h : Sim x s N) (k : Nat) (r : Int) (hs : SlotIs x N.ck k r) (hr : r < x.qs.getD k 0) : Sim x (cycleK x s) (cycleN x N) := by
  have hkq := hs.kl
  have hkr : k < x.regs.length := by rw [← hX.ql]; exact hkq
  have hkn : k < N.wn.length := by have := h.hi.wl; rw [List.length_map] at this; omega
  have hl4 := hX.q.l2
  obtain ⟨w, hw⟩ : ∃ w, N.wn[k]? = some w := ⟨_, List.getElem?_eq_getElem hkn⟩
  have htk : turnN x N.ck = k := by rw [turn_slot hX.q hX.ql N.ck h.c0 k r hs, if_pos (by omega)]
  have htk' : turnN x (N.ck + 1) = k := by rw [turn_next N.ck h.c0 k r hs, if_pos hr]
  have hst := (h.st k w hw).1 htk
  have hT : TurnRel x s.mem (N.wn.map (·.ws)) k (s.mem, s.devs) (w.ws, N.wi, N.devs) := by
    refine ⟨?_, fun _ _ => rfl, h.dv⟩
    have e : (N.wn.map (·.ws)).set k w.ws = N.wn.map (·.ws) := by
      apply List.ext_getElem?
      intro i
      rw [List.getElem?_set]
      by_cases hik : k = i
      · subst hik
        rw [if_pos rfl, if_pos (by rw [List.length_map]; exact hkn), List.getElem?_map, hw]
        rfl
      · rw [if_neg hik]
    rw [e]
    exact h.hi
  have hsim := cycleM_sim (opsSim x hX.ok hX.kn s.mem (N.wn.map (·.ws)) k (by rw [List.length_map]; exact hkn) N.ck) w.now (s.mem, s.devs) (w.ws, N.wi, N.devs) hT
  have hBB := cycleM_B' (opsB x k (by omega) N.ck) (w.ws, N.wi, N.devs) ⟨h.nw w (List.mem_of_getElem? hw), h.ni, h.nd⟩ w.now (h.sb w (List.mem_of_getElem? hw)).1
  have e1 : cycleK x s = ⟨N.ck + 1, (cycleM (opsK x k N.ck) w.now (s.mem, s.devs)).2.1.set 1 ((N.ck + 1) % 4294967296), s.sts.set k (cycleM (opsK x k N.ck) w.now (s.mem, s.devs)).1, (cycleM (opsK x k N.ck) w.now (s.mem, s.devs)).2.2⟩ := by
    unfold cycleK tickK actK
    rw [h.ck, hs.e]
    simp only
    rw [if_pos hr, getD_of hst]
  have e2 : cycleN x N = ⟨N.ck + 1, N.wn.set k ⟨(cycleM (opsN x k N.ck) w.now (w.ws, N.wi, N.devs)).1, w.was, (cycleM (opsN x k N.ck) w.now (w.ws, N.wi, N.devs)).2.1⟩, (cycleM (opsN x k N.ck) w.now (w.ws, N.wi, N.devs)).2.2.1, (cycleM (opsN x k N.ck) w.now (w.ws, N.wi, N.devs)).2.2.2⟩ := by
    unfold cycleN actN
    rw [hs.e]
    simp only
    rw [if_pos hr, getD_of hw]
  rw [e1, e2]
  generalize cycleM (opsK x k N.ck) w.now (s.mem, s.devs) = c at *
  generalize cycleM (opsN x k N.ck) w.now (w.ws, N.wi, N.devs) = d at *
  obtain ⟨hs1, hR⟩ := hsim
  have hml : c.2.1.length = x.n := hR.h.l
  have hkern := hX.kn
  unfold kerK at hkern
  have hget : ∀ i, i ≠ 1 → (c.2.1.set 1 ((N.ck + 1) % 4294967296)).getD i 0 = c.2.1.getD i 0 := fun i hi => by rw [getD_set_eq, if_neg (fun e => hi e.1.symm)]
  refine ⟨rfl, by simp only; have := h.c0; omega, ?_, hR.d, by simp only [List.length_set]; exact h.sl, ?_, ?_, ?_, ?_, ?_, ?_, ?_, hBB.2.2.1, hBB.2.2.2⟩
  · simp only
    rw [List.map_set]
    exact hR.h.congr hX.ok (by simp) (fun i hi => hget i (by omega))
  · simp only
    rw [hget 0 (by omega), hR.lo 0 (by omega), h.t0, htk, htk']
  · simp only
    rw [getD_set_eq, if_pos ⟨rfl, by omega⟩]
  · intro i h2 h16
    simp only
    rw [hget i (by omega), hR.lo i (by omega)]
    exact h.lo i h2 h16
  · intro j v hv
    simp only at hv ⊢
    have hj : j < x.regs.length := by
      have := (List.getElem?_eq_some_iff.1 hv).1
      rw [List.length_set] at this
      have h2 := h.hi.wl
      rw [List.length_map] at h2
      omega
    obtain ⟨v0, hv0, hwas⟩ : ∃ v0, N.wn[j]? = some v0 ∧ v.was = v0.was := by
      by_cases hjk : k = j
      · subst hjk
        rw [List.getElem?_set_self hkn] at hv
        cases hv
        exact ⟨w, hw, rfl⟩
      · rw [List.getElem?_set_ne hjk] at hv
        exact ⟨v, hv, rfl⟩
    have ha := h.ar j v0 hv0
    refine ⟨?_, ?_⟩
    · rw [hwas, ← ha.1]
      refine loadSt_congr _ _ _ (by rw [List.length_set, hml, h.hi.l]) ?_
      intro i h1 h2
      rw [hget i (by omega), hR.lo i (by omega)]
    · intro i h1 h2
      rw [hget _ (by omega), hR.lo _ (by omega)]
      exact ha.2 i h1 h2
  · intro j v hv
    simp only at hv ⊢
    rw [htk']
    by_cases hjk : k = j
    · subst hjk
      rw [List.getElem?_set_self hkn] at hv
      cases hv
      exact ⟨fun _ => by rw [List.getElem?_set_self (by rw [h.sl]; exact hkr), hs1], fun e => absurd rfl e⟩
    · rw [List.getElem?_set_ne hjk] at hv
      refine ⟨fun e => absurd (by omega) hjk, fun _ => ?_⟩
      exact (h.st j v hv).2 (by rw [htk]; omega)
  · intro v hv
    rcases List.mem_or_eq_of_mem_set hv with h1 | h1
    · exact h.sb v h1
    · rw [h1]; exact ⟨hBB.1, (h.sb w (List.mem_of_getElem? hw)).2⟩
  · intro v hv
    rcases List.mem_or_eq_of_mem_set hv with h1 | h1
    · exact h.nw v h1
    · rw [h1]; exact hBB.2.1

end Go.Proofs.YthmcheoehcmglaaGreat
