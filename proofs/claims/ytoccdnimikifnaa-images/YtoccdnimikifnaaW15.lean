/- wards.start: the machine that a plan tells of. -/
import Derived.Test.YtoccdnimikifnaaW16
import Derived.Deep.CutRange
namespace Go.Proofs.Ytoccdnimikifnaa
open Go.RowKit
set_option linter.unusedVariables false
attribute [local go_sem ↓] Go.wp_at_zero Go.wp_at_succ

/-- copy, in words of rows, at a step of a region that draws its order; the source may be nil. -/
theorem step_copyF {P : Program} {ops : Array Oper} {o : Oper} {a : Act} {w : World} {K : Act → World → Prop} {Q : Exit → Act → World → Prop} {E : Prop} (hgd : o.guard = none) (d s : Operand) (dT sT : TypeId)
    (ho : o.op = .call { callee := .builtin .copy, args := #[d, s], argTypes := #[dT, sT] }) (elem : TypeId) (hu : P.underlying dT = some (.slice elem)) (hsz : (P.info? elem).map (·.size) = some 1)
    (g off dLen dCap : Nat) (sp : Option Addr) (sLen sCap : Nat) (hd : a.eval d = .slice (some ⟨g, off, none⟩) dLen dCap) (hs : a.eval s = .slice sp sLen sCap)
    (cur : List Value) (t : TypeId) (hg : w.heap[g]? = some (.cells cur.toArray t (0, 0))) (cs : List Value) (hn : cs.length = Nat.min sLen dLen)
    (hpos : 0 < cs.length → ∃ ad, sp = some ad ∧ ∀ j v, cs[j]? = some v → w.cell? (ad.add j) = some v) (hfit : off + cs.length ≤ cur.length) (h1 : ∀ v ∈ cs, v.oneCell' = true)
    (h : ∀ w', w'.heap[g]? = some (.cells (splice cur off cs).toArray t (0, 0)) → Fr (fun i => i = g) w w' → K (a.put o.dst (goInt cs.length)) w') :
    if Region.wanted o (yielded ops a.tmps) = true then Oper.wp P o a w K Q else E := by
  have hw : Region.wanted o (yielded ops a.tmps) = true := by simp [Region.wanted, hgd]
  rw [if_pos hw]
  by_cases h0 : cs.length = 0
  · obtain rfl : cs = [] := List.eq_nil_of_length_eq_zero h0
    have hrun := run_copy_none (P := P) w dT sT o.type elem (some ⟨g, off, none⟩) sp dLen dCap sLen sCap hu hsz (by simpa using hn.symm)
    unfold Oper.wp
    simp [execOp, ho, resolve, invoke, builtin, hd, hs, hrun, Result.andThen]
    exact h w (by simpa [splice] using hg) (Fr.refl _ _)
  · obtain ⟨ad, rfl, hsrc⟩ := hpos (by omega)
    obtain ⟨w', hrun, hM, hf⟩ := run_copyF (P := P) w dT sT o.type elem g off dLen dCap ad sLen sCap cur t cs hu hsz hg hn hsrc hfit h1
    unfold Oper.wp
    simp [execOp, ho, resolve, invoke, builtin, hd, hs, hrun, Result.andThen]
    exact h w' hM hf

/-- A ward that has done nothing yet. -/
def st0 (bg : Int) : StV := ⟨[0, 0, 0, 0, 0, 0, 0, 0], bg, 0, 0, 0, false⟩

/-- Where a ward's first region lies. -/
def firstBase (rs : List (Int × Int × Int × Int)) : Int := (rs.getD 0 (0, 0, 0, 0)).2.2.1

/-- The memory when the first k wards are laid. -/
def memN (m : Img) : Nat → List Int
  | 0 => List.replicate m.mem.toNat 0
  | k + 1 => match m.ws[k]? with
    | some x => splice (splice (memN m k) (16 + 16 * k) (stWords (st0 x.bg))) (firstBase x.regs).toNat x.prog
    | none => memN m k

theorem slKw : SlT Try.prog 76 86 14 96 := SlT.mk' (z := .agg #[.int .u32 0, .int .u32 0, .int .u32 0, .int .u32 0, .int .u32 0, .int .u32 0, .int .u32 0, .int .u32 0, .int .u32 0, .int .i64 0, .int .i64 0, .int .i64 0, .bool false, .slice none 0 0]) Try.underlying76 (by kernel_rfl) rfl (by omega)

/-- What a plan must be for a machine to be made of it. -/
structure Img.Fits (m : Img) : Prop where
  ok : m.Ok
  m64 : 64 ≤ m.mem
  kern : 16 + 16 * (m.ws.length : Int) + 2 * m.wi.length ≤ m.mem
  reg : ∀ x ∈ m.ws, 1 ≤ x.regs.length ∧ 0 ≤ firstBase x.regs ∧ firstBase x.regs + x.prog.length ≤ m.mem ∧ firstBase x.regs < m.mem

theorem memN_len (m : Img) (h : m.Fits) : ∀ k, k ≤ m.ws.length → (memN m k).length = m.mem.toNat := by
  intro k
  induction k with
  | zero => intro _; simp [memN]
  | succ k ih =>
    intro hk
    have hx : m.ws[k]? = some m.ws[k] := List.getElem?_eq_getElem (by omega)
    simp only [memN, hx]
    have h1 := ih (by omega)
    have hr := h.reg m.ws[k] (List.getElem_mem _)
    have hkk := h.kern
    have h2 : (splice (memN m k) (16 + 16 * k) (stWords (st0 m.ws[k].bg))).length = m.mem.toNat := by
      rw [length_splice _ _ _ (by rw [h1]; simp [stWords, st0]; omega), h1]
    rw [length_splice _ _ _ (by rw [h2]; omega), h2]

/-- The kernel's wards, at the beginning. -/
def kws (xs : List (WardV × Value × Value)) : List (StV × Value) := xs.map (fun x => (st0 x.1.bg, x.2.1))

/-- A machine that is being made. -/
structure KerIn (w : World) (X M n : Nat) (mem : List Int) (xs : List (WardV × Value × Value)) (k : Nat) (vK : Value) (wr : World) : Prop where
  hx : wr.heap[X]? = some (.cells #[.slice (some ⟨M, 0, none⟩) n n, .int .i64 0, vK] 78 (0, 0))
  hm : wr.heap[M]? = some (.cells (wordCells mem).toArray 37 (0, 0))
  hk : wr.ownsRow w.heap.size 86 14 vK k ((kws (xs.take k)).flatMap kwCells)
  fr : Fr (fun _ => False) w wr
  x1 : w.heap.size ≤ X
  m1 : w.heap.size ≤ M

theorem KerIn.on {w wr w' : World} {X M n k : Nat} {mem : List Int} {xs : List (WardV × Value × Value)} {vK : Value} (h : KerIn w X M n mem xs k vK wr) (hf : Fr (fun _ => False) wr w') : KerIn w X M n mem xs k vK w' :=
  ⟨hf.get h.hx id, hf.get h.hm id, hf.ownsF _ h.hk, h.fr.step hf (fun _ h => .inl h), h.x1, h.m1⟩

/-- One ward more. -/
theorem KerIn.app {w wa w3 : World} {X M n k : Nat} {mem : List Int} {xs : List (WardV × Value × Value)} {vK v' : Value} (h : KerIn w X M n mem xs k vK wa) (x : WardV × Value × Value) (hx : xs[k]? = some x)
    (hown3 : w3.ownsRow w.heap.size 86 14 v' (k + 1) ((kws (xs.take k)).flatMap kwCells ++ (kwCells (st0 x.1.bg, x.2.1)).toArray.toList)) (hf : Fr (fun i => vK.ownBlock = some i) wa w3) :
    KerIn w X M n mem xs (k + 1) v' (w3.setCell ⟨X, 2, none⟩ v') := by
  obtain ⟨hk, rfl⟩ := List.getElem?_eq_some_iff.1 hx
  have x3 := hf.getT h.hk h.hx (by decide)
  have m3 := hf.getT h.hk h.hm (by decide)
  have hXM : M ≠ X := by
    intro e
    have h1 := h.hx
    have h2 := h.hm
    rw [e] at h2
    rw [h1] at h2
    simp only [Option.some.injEq, Obj.cells.injEq] at h2
    exact absurd h2.2.1 (by decide)
  refine ⟨by rw [row_set x3]; simp, set_other m3 hXM _, ?_, ?_, h.x1, h.m1⟩
  · have e1 : (kws (xs.take (k + 1))).flatMap kwCells = (kws (xs.take k)).flatMap kwCells ++ (kwCells (st0 xs[k].1.bg, xs[k].2.1)).toArray.toList := by
      rw [List.take_succ_eq_append_getElem hk]
      simp only [kws, List.map_append, List.map_cons, List.map_nil, List.flatMap_append, List.flatMap_cons, List.flatMap_nil, List.append_nil]
    rw [e1]
    exact owns_setT hown3 x3 (by decide) _
  · exact (h.fr.step hf (fun i hi => .inr (h.hk.lt i hi).1)).setCell (.inr h.x1) _

/-- The memory is written. -/
theorem KerIn.wr {w wa w3 : World} {X M n k : Nat} {mem mem' : List Int} {xs : List (WardV × Value × Value)} {vK : Value} (h : KerIn w X M n mem xs k vK wa) (hm : w3.heap[M]? = some (.cells (wordCells mem').toArray 37 (0, 0))) (hf : Fr (fun i => i = M) wa w3) :
    KerIn w X M n mem' xs k vK w3 := by
  have hXM : X ≠ M := by
    intro e
    have h1 := h.hx
    have h2 := h.hm
    rw [← e] at h2
    rw [h1] at h2
    simp only [Option.some.injEq, Obj.cells.injEq] at h2
    exact absurd h2.2.1 (by decide)
  have h1 := h.m1
  exact ⟨hf.get1 h.hx hXM, hm, hf.owns1T h.hm h.hk (by decide), h.fr.step hf (fun i hi => .inr (by omega)), h.x1, h.m1⟩

theorem flat_base (rs : List (Int × Int × Int × Int)) (h : 1 ≤ rs.length) : (rs.flatMap regCells)[2]? = some (.int .i64 (firstBase rs)) := by
  match rs, h with
  | r :: rs, _ => simp [regCells, firstBase]

theorem kwCells_one (bg : Int) (ar : Option Addr) (c : Nat × Nat) : ∀ u ∈ (kwCells (st0 bg, .slice ar c.1 c.2)).toArray.toList, u.oneCell' = true := by simp [kwCells, stCells, st0, Value.oneCell']
theorem kw_len (x : StV × Value) (h : x.1.regs.length = 8) : (kwCells x).length = 14 := by simp [kwCells, stCells, h]

theorem made_row {w : World} {base g n : Nat} (h : w.ownsRow base 37 1 (.slice (some ⟨g, 0, none⟩) n n) n (madeCells (Value.int .u32 0).cells (n * 1)).toList) :
    w.heap[g]? = some (.cells (wordCells (List.replicate n 0)).toArray 37 (0, 0)) := by
  rcases h.2 with ⟨h1, _⟩ | ⟨g', cap, cur, h1, _, hg, _, _, hs, ht⟩
  · simp at h1
  · simp only [Value.slice.injEq, Option.some.injEq, Addr.mk.injEq] at h1
    obtain ⟨⟨rfl, _⟩, _, rfl⟩ := h1
    rw [hg]
    have e1 : (Value.int IntKind.u32 0).cells = #[Value.int .u32 0] := rfl
    rw [e1, toList_madeCells_one, List.take_of_length_le (by simp [hs])] at ht
    have e2 : cur = (wordCells (List.replicate n 0)).toArray := by
      apply Array.ext'
      rw [ht]
      simp [wordCells]
    rw [e2]

theorem size_alloc1 (w : World) (o : Obj) : (w.alloc o).heap.size = w.heap.size + 1 := by simp
theorem grown_fr {w w' : World} (h : w.grownBy w' none) : Fr (fun _ => False) w w' := ⟨h.os, h.tape, h.output, h.size, fun k hk _ => h.block k hk (by simp)⟩

set_option maxRecDepth 100000 in
set_option maxHeartbeats 4000000 in
theorem start_any (w : World) (im : Img) (base : Nat) (vW vI vO : Value) (hV : PlanVal w base im vW vI vO) (hfit : im.Fits) (xs : List (WardV × Value × Value)) (hxs : xs.map (·.1) = im.ws)
    (hown : w.ownsRow base 83 4 vW xs.length (xs.flatMap wardCells))
    (hx : ∀ x ∈ xs, w.ownsRow base 90 4 x.2.1 x.1.regs.length (x.1.regs.flatMap regCells) ∧ w.ownsRow base 37 1 x.2.2 x.1.prog.length (x.1.prog.map (Value.int .u32))) :
    Calls Try.prog 13 #[.agg #[.int .i64 im.gap, .int .i64 im.mem, vW, vI, vO]] w fun e w' =>
      ∃ X M vK, e = .returned (.pointer (some ⟨X, 0, none⟩)) ∧ KerIn w X M im.mem.toNat (memN im im.ws.length) xs im.ws.length vK w' := by
  obtain ⟨a1, q1, rfl⟩ := hV.ws.shape
  obtain ⟨a2, q2, rfl⟩ := owns_shape hV.wi
  obtain ⟨a3, q3, rfl⟩ := owns_shape hV.ow
  have HV := hid hV
  have HFIT := hid hfit
  have HXS := hid hxs
  have HOWN := hid hown
  have HX := hid hx
  have hm0 : 0 ≤ im.mem := hfit.ok.m0
  have hm1 : im.mem ≤ 1024 := hfit.ok.m1
  obtain ⟨n, hn⟩ := Int.eq_ofNat_of_zero_le hm0
  have hn1 : n ≤ 1024 := by omega
  have HNM := hid hn
  have hl4 := hfit.ok.l
  obtain ⟨i0, hi0, hz0, hz1, hz2⟩ := info_parts (show (Try.prog.info? 37).map (fun i => (i.zero, i.size, i.bytes)) = some (some (.int .u32 0), 1, 4) by kernel_rfl)
  clear hV hfit hxs hown hx hm0 hm1 hn
  have hb2 : i0.bytes * n ≤ 281474976710656 := by rw [hz2]; omega
  have hb3 : n ≤ maxLen := by unfold maxLen; omega
  rw [HNM.out]
  go_enter Try.func13, Try.ntmps13
  go_wp2_with (at_make; refine wpList_make_full _ (by rfl) _ _ 75 (by rfl) w.heap.size 37 i0 _ 1 Try.underlying75 hi0 hz0 hz1 .i64 .i64 _ _ n (by rfl) (by rfl) rfl rfl hb2 hb3 (le_alloc (Nat.le_refl _) _) ?_; intro w1 hm hg1; have HG1 := hid (grown_fr hg1); have HMM := hid (made_row hm); have cw : w1.cell? ⟨w.heap.size, 2, none⟩ = some (.slice a1 im.ws.length q1) := row_cell (HG1.out.get (heap_new w _) id) 2; have hsz1 := lt_of_get HMM.out; rw [size_alloc1] at hsz1; rw [size_alloc1] at HMM; have hlt1 := Nat.lt_of_succ_lt hsz1; clear hm hg1)
  have hK0 : KerIn w w1.heap.size (w.heap.size + 1) n (memN im 0) xs 0 (.slice none 0 0) (w1.alloc (.cells #[.slice (some ⟨w.heap.size + 1, 0, none⟩) n n, .int .i64 0, .slice none 0 0] 78)) := by
    refine ⟨heap_new _ _, ?_, World.ownsRow_nil _ _ _ _, ((((Fr.refl _ w).alloc _).step HG1.out (fun _ h => .inl h)).alloc _), by omega, by omega⟩
    have e1 : memN im 0 = List.replicate n 0 := by simp [memN, HNM.out]
    rw [e1]
    exact get_alloc HMM.out _
  have HK0 := hid hK0
  clear hK0 HMM HG1 cw
  have hxl : xs.length = im.ws.length := by rw [← HXS.out]; simp
  have HXL := hid hxl
  clear hxl hsz1 hlt1 hb2 hb3 hi0 hz0 hz1 hz2
  generalize w1.heap.size = X at *
  go_loopw [14] (fun i wr => ∃ k : Nat, k ≤ im.ws.length ∧ i = .int .i64 k ∧ ∃ vK, KerIn w X (w.heap.size + 1) n (memN im k) xs k vK wr) (fun i _ => im.ws.length - (intOf i).toNat)
  case atStart => exact ⟨0, Nat.zero_le _, rfl, _, HK0.out⟩
  case round =>
    obtain ⟨k, hk, rfl, vK, hK⟩ := hrel
    clear HK0
    by_cases hlt : k < im.ws.length
    · have hkx : k < xs.length := by rw [HXL.out]; exact hlt
      have ho := hK.fr.ownsF _ HOWN.out
      obtain ⟨gv, cp, hv, -, hgl⟩ := ho.form (by omega)
      simp only [Value.slice.injEq] at hv
      obtain ⟨rfl, -, rfl⟩ := hv
      rw [← HXL.out] at ho
      have hcell : ∀ c', c' < 4 → wr.cell? ⟨gv, k * 4 + c', none⟩ = (wardCells xs[k])[c']? := by
        intro c' hc'
        rw [ho.cellAt (k * 4 + c') (by omega), flat_get wardCells 4 (fun _ => rfl) xs k c' hkx hc']
      have hxk := HX.out xs[k] (List.getElem_mem hkx)
      have ck0 : wr.cell? ⟨gv, k * 4, none⟩ = some (.int .i64 xs[k].1.q) := hcell 0 (by omega)
      have ck1 : wr.cell? ⟨gv, k * 4 + 1, none⟩ = some (.int .u32 xs[k].1.bg) := hcell 1 (by omega)
      obtain ⟨ar, cr, har⟩ := owns_shape hxk.1
      obtain ⟨ap, cq, hap⟩ := owns_shape hxk.2
      have ck2 : wr.cell? ⟨gv, k * 4 + 2, none⟩ = some (.slice ar xs[k].1.regs.length cr) := by rw [← har]; exact hcell 2 (by omega)
      have ck3 : wr.cell? ⟨gv, k * 4 + 3, none⟩ = some (.slice ap xs[k].1.prog.length cq) := by rw [← hap]; exact hcell 3 (by omega)
      have hlt' : (k : Int) < (im.ws.length : Int) := by omega
      have HKK := hid hK
      have HXK := hid hxk
      have HHK := hid hkx
      have HAR := hid har
      have HAP := hid hap
      clear hcell ho hK hxk har hap
      go_wp2_with fail
      clear ck0 ck1 ck2 ck3
      have HKA := hid (HKK.out.on ((Fr.refl _ wr).alloc (.cells #[.int .i64 xs[k].1.q, .int .u32 xs[k].1.bg, .slice ar xs[k].1.regs.length cr, .slice ap xs[k].1.prog.length cq] 83)))
      have gL := heap_new wr (.cells #[.int .i64 xs[k].1.q, .int .u32 xs[k].1.bg, .slice ar xs[k].1.regs.length cr, .slice ap xs[k].1.prog.length cq] 83)
      generalize wr.alloc (.cells #[.int .i64 xs[k].1.q, .int .u32 xs[k].1.bg, .slice ar xs[k].1.regs.length cr, .slice ap xs[k].1.prog.length cq] 83) = wa at *
      generalize wr.heap.size = L at *
      have hr1 := HFIT.out.reg im.ws[k] (List.getElem_mem hlt)
      have hwk : im.ws[k] = xs[k].1 := by
        have : im.ws[k]? = some xs[k].1 := by rw [← HXS.out, List.getElem?_map, List.getElem?_eq_getElem hkx]; rfl
        rw [List.getElem?_eq_getElem hlt] at this
        exact Option.some.inj this
      rw [hwk] at hr1
      clear HKK
      generalize hxe : xs[k] = xk at *
      obtain ⟨xw, vr, vp⟩ := xk
      simp only at HAR HAP hr1 HXK gL hwk
      have HGL := hid gL
      have cL1 : wa.cell? ⟨L, 1, none⟩ = some (.int .u32 xw.bg) := row_cell gL 1
      have cL2 : wa.cell? ⟨L, 2, none⟩ = some (.slice ar xw.regs.length cr) := row_cell gL 2
      have cX2 : wa.cell? ⟨X, 2, none⟩ = some vK := row_cell HKA.out.hx 2
      have HFA : ∀ w2, Fr (fun _ => False) wa.drew w2 → KerIn w X (w.heap.size + 1) n (memN im k) xs k vK w2 := fun w2 hf => HKA.out.on hf.undrew
      have HFA2 := hid HFA
      have hk3 : k + 1 ≤ 1073741824 := by omega
      have hLX : L ≠ X := by
        intro e
        have h1 := HKA.out.hx
        have h2 := gL
        rw [e, h1] at h2
        simp only [Option.some.injEq, Obj.cells.injEq] at h2
        exact absurd h2.2.1 (by decide)
      have HLX := hid hLX
      have HXE : Hid (xs[k]? = some (xw, vr, vp)) := by unfold Hid; rw [List.getElem?_eq_getElem hkx]; exact congrArg some hxe
      clear gL HFA hkx hLX hxe
      have FIN : ∀ (w2 w3 : World) (gg cap : Nat) (o : Obj), Fr (fun _ => False) wa.drew w2 → w3.ownsRow w.heap.size 86 14 (.slice (some ⟨gg, 0, none⟩) (k + 1) cap) (k + 1) ((kws (xs.take k)).flatMap kwCells ++ (kwCells (st0 xw.bg, .slice ar xw.regs.length cr)).toArray.toList) → Fr (fun i => vK.ownBlock = some i) (w2.alloc o) w3 →
          ∃ v', KerIn w X (w.heap.size + 1) n (memN im k) xs (k + 1) v' (w3.setCell ⟨X, 2, none⟩ (.slice (some ⟨gg, 0, none⟩) (k + 1) cap)) ∧ (w3.setCell ⟨X, 2, none⟩ (.slice (some ⟨gg, 0, none⟩) (k + 1) cap)).heap[L]? = some (.cells #[.int .i64 xw.q, .int .u32 xw.bg, .slice ar xw.regs.length cr, .slice ap xw.prog.length cq] 83 (0, 0)) := by
        intro w2 w3 gg cap o hf2 hown3 hf3
        have hK2 := HFA2.out w2 hf2
        refine ⟨_, KerIn.app (hK2.on ((Fr.refl _ w2).alloc _)) (xw, vr, vp) HXE.out ?_ hf3, set_other (hf3.getT (hK2.hk.alloc _) (get_alloc (hf2.get HGL.out id) _) (by decide)) HLX.out _⟩
        rw [show (xw, vr, vp).1.bg = xw.bg from rfl, show (xw, vr, vp).2.1 = vr from rfl, HAR.out]
        exact hown3
      have HFIN := hid FIN
      clear FIN
      go_cut [] from 15 to 58 (fun wx => ∃ v', KerIn w X (w.heap.size + 1) n (memN im k) xs (k + 1) v' wx ∧ wx.heap[L]? = some (.cells #[.int .i64 xw.q, .int .u32 xw.bg, .slice ar xw.regs.length cr, .slice ap xw.prog.length cq] 83 (0, 0)))
      case first =>
        go_region_law
          (first
            | (refine step_call Try.func28 (by kernel_rfl) (by kernel_rfl) (by rfl) (by rfl) [.int .u32 xw.bg] (by rfl) ((begin_any xw.bg _).mono ?_); rintro e w2 ⟨rfl, hf2⟩; refine ⟨_, rfl, ?_⟩; have hK2 := HFA2.out w2 hf2; have gL2 := hf2.get HGL.out id; have cL12 : w2.cell? ⟨L, 1, none⟩ = some (.int .u32 xw.bg) := row_cell gL2 1; have cL22 : w2.cell? ⟨L, 2, none⟩ = some (.slice ar xw.regs.length cr) := row_cell gL2 2; have cX22 : w2.cell? ⟨X, 2, none⟩ = some vK := row_cell hK2.hx 2; have cX2a : ∀ o, (w2.alloc o).cell? ⟨X, 2, none⟩ = some vK := fun o => row_cell (get_alloc hK2.hx o) 2)
            | (refine step_app slKw (by rfl) _ _ (by rfl) w.heap.size vK k _ (by rfl) (hK2.hk.alloc _) w2.heap.size (kwCells (st0 xw.bg, .slice ar xw.regs.length cr)).toArray _ (by rfl) (heap_alloc_new w2 _) rfl (kwCells_one xw.bg ar (xw.regs.length, cr)) hk3 (by decide) (le_alloc hK2.fr.size _) ?_; intro gg cap w3 hown3 hf3 hat; have gX3 := hf3.getT (hK2.hk.alloc _) (get_alloc hK2.hx _) (by decide); have cX3 : w3.cell? ⟨X, 2, none⟩ = some vK := row_cell gX3 2; have fX3 := row_frozen gX3 2))
        all_goals
          have HR := hid (HFIN.out _ _ _ _ _ hf2 hown3 hf3)
          clear hown3 hf3 hat gX3 cX3 fX3 hK2 gL2 cL12 cL22 cX22 cX2a hf2
          go_wp2_with fail
          go_meet
          case rel => exact HR.out
      case rest =>
        obtain ⟨v', hK', gL'⟩ := hcut
        clear HFIN HFA2 HLX cL1 cL2 cX2 HKA HGL
        obtain ⟨gK, cpK, hvK, hgK1, hgK2⟩ := hK'.hk.form (by omega)
        subst hvK
        have cX2 : wc.cell? ⟨X, 2, none⟩ = some (.slice (some ⟨gK, 0, none⟩) (k + 1) cpK) := row_cell hK'.hx 2
        have HK1 := hid hK'
        have HG1 := hid gL'
        have hkk : (k : Int) < ((k + 1 : Nat) : Int) := by omega
        have hkk' : k < k + 1 := by omega
        have hkk2 : (k : Int) < (k : Int) + 1 := by omega
        have hkk0 : (0 : Int) ≤ (k : Int) := by omega
        have hmem : (memN im k).length = n := by have := memN_len im HFIT.out k (by omega); rw [this, HNM.out]; rfl
        have HMEM := hid hmem
        have hkern := HFIT.out.kern
        have hkn : 32 + 16 * k ≤ n := by have := HNM.out; omega
        clear hK' gL' hmem hkern
        go_wp2_with fail
        have hst : ∀ (wz : World), Fr (fun _ => False) wc wz → ∀ j u, (stCells (st0 xw.bg))[j]? = some u → wz.cell? ⟨gK, k * 14 + j, none⟩ = some u := by
          intro wz hf j u hu
          have h1 := (hf.ownsF _ HK1.out.hk)
          have hj : j < 13 := by
            have := (List.getElem?_eq_some_iff.1 hu).1
            simpa [stCells, st0] using this
          rw [h1.cellAt (k * 14 + j) (by omega)]
          have hl : (kws (xs.take (k + 1))).length = k + 1 := by simp [kws]; have := HHK.out; omega
          rw [flat_get14 (kws (xs.take (k + 1))) (fun x hx => by simp only [kws, List.mem_map] at hx; obtain ⟨y, _, rfl⟩ := hx; rfl) k j (by omega) (by omega)]
          have he : (kws (xs.take (k + 1)))[k]'(by omega) = (st0 xw.bg, vr) := by
            obtain ⟨h1, h2⟩ := List.getElem?_eq_some_iff.1 HXE.out
            simp [kws, h2]
          rw [he]
          unfold kwCells
          rw [List.getElem?_append_left (by simp [stCells, st0]; omega)]
          exact hu
        have HST := hid hst
        have hok : (st0 xw.bg).Ok := by simp [StV.Ok, st0]
        have HSOK := hid hok
        have hgM : gK ≠ w.heap.size + 1 := by
          intro e
          have h1 := owns_ne HK1.out.hk HK1.out.hm (by decide)
          exact h1 (by simp [Value.ownBlock, e])
        have hoff : 16 + 16 * k + 16 ≤ (memN im k).length := by rw [HMEM.out]; omega
        have hml : (memN im k).length ≤ 1024 := by rw [HMEM.out]; exact hn1
        have hcp : 16 ≤ n - (16 + 16 * k) := by omega
        have hxx := HK1.out.hx
        have hLM : L ≠ w.heap.size + 1 := by
          intro e
          have h1 := HK1.out.hm
          have h2 := HG1.out
          rw [e, h1] at h2
          simp only [Option.some.injEq, Obj.cells.injEq] at h2
          exact absurd h2.2.1 (by decide)
        clear hst hok
        go_region_held3 (fun w' => w'.cell? ⟨X, 2, none⟩ = some (.slice (some ⟨gK, 0, none⟩) (k + 1) cpK))
          (go_keep)
          (first
            | (go_at_call 30; refine (area_any X (w.heap.size + 1) n k 0 (.slice (some ⟨gK, 0, none⟩) (k + 1) cpK) _ ?_ hkn hn1).mono ?_; exact hxx; rintro e w5 ⟨rfl, rfl⟩)
            | (go_at_call 29; refine (save_any gK (k * 14) (w.heap.size + 1) (16 + 16 * k) (n - (16 + 16 * k)) (st0 xw.bg) (memN im k) _ HSOK.out hgM ?_ ?_ hoff hml hcp).mono ?_; exact HST.out _ ((Fr.refl _ wc).drew); exact HK1.out.hm; rintro e w6 ⟨rfl, hm6, hf6⟩; have hK6 := KerIn.wr HK1.out hm6 hf6.undrew; have cX26 : w6.cell? ⟨X, 2, none⟩ = some (.slice (some ⟨gK, 0, none⟩) (k + 1) cpK) := row_cell hK6.hx 2; have gL6 := hf6.get1 HG1.out hLM))
        obtain ⟨bb, hbb⟩ := Int.eq_ofNat_of_zero_le hr1.2.1
        have hreg := HXK.out.1
        have hprg := HXK.out.2
        rw [HAR.out] at hreg
        rw [HAP.out] at hprg
        obtain ⟨gr, cr', hvr, -, hgr2⟩ := hreg.form (by omega)
        simp only [Value.slice.injEq] at hvr
        obtain ⟨rfl, -, rfl⟩ := hvr
        have hgrM : gr ≠ w.heap.size + 1 := by omega
        have cR : w6.cell? ⟨gr, 2, none⟩ = some (.int .i64 (bb : Int)) := by
          have h1 := hK6.fr.ownsF _ hreg
          rw [h1.cellAt 2 (by omega), flat_base _ hr1.1, hbb]
        have cX0 : w6.cell? ⟨X, 0, none⟩ = some (.slice (some ⟨w.heap.size + 1, 0, none⟩) n n) := row_cell hK6.hx 0
        have cL2 : w6.cell? ⟨L, 2, none⟩ = some (.slice (some ⟨gr, 0, none⟩) xw.regs.length cr) := row_cell gL6 2
        have cL3 : w6.cell? ⟨L, 3, none⟩ = some (.slice ap xw.prog.length cq) := row_cell gL6 3
        have hL0 : (0 : Int) < (xw.regs.length : Int) := by omega
        have hL0' : 0 < xw.regs.length := by omega
        have hmm := HNM.out
        have hb1 : (bb : Int) < (n : Int) := by omega
        have hb1' : bb < n := by omega
        have hb1e : (bb : Int) ≤ (n : Int) := by omega
        have hb1e' : bb ≤ n := by omega
        have hnb : ¬ n = bb := by omega
        have hpl : bb + xw.prog.length ≤ n := by omega
        have hmem6 : (splice (memN im k) (16 + 16 * k) (stWords (st0 xw.bg))).length = n := by
          rw [length_splice _ _ _ (by simp [stWords, st0]; omega), HMEM.out]
        have hn7 : (wordCells xw.prog).length = Nat.min xw.prog.length (n - bb) := by rw [show Nat.min xw.prog.length (n - bb) = xw.prog.length from Nat.min_eq_left (by omega)]; simp [wordCells]
        have hfit7 : bb + (wordCells xw.prog).length ≤ (wordCells (splice (memN im k) (16 + 16 * k) (stWords (st0 xw.bg)))).length := by simp [wordCells, hmem6]; omega
        have hone7 : ∀ v ∈ wordCells xw.prog, v.oneCell' = true := ints_oneCell .u32 xw.prog
        have hpos7 : ∀ wz, Fr (fun _ => False) w6 wz → 0 < (wordCells xw.prog).length → ∃ ad, ap = some ad ∧ ∀ j v, (wordCells xw.prog)[j]? = some v → wz.cell? (ad.add j) = some v := by
          intro wz hf hp
          obtain ⟨gp, cp', hvp, -, hgp2⟩ := hprg.form (by simpa [wordCells] using hp)
          simp only [Value.slice.injEq] at hvp
          refine ⟨⟨gp, 0, none⟩, hvp.1, ?_⟩
          have h1 := (hK6.on hf).fr.ownsF _ hprg
          intro j v hj
          exact h1.cells (by rw [hvp.1]; rfl) j v hj
        have HP7 := hid hpos7
        have HK6 := hid hK6
        have HGL6 := hid gL6
        have HEND : Hid (∀ w7 : World, w7.heap[w.heap.size + 1]? = some (.cells (splice (wordCells (splice (memN im k) (16 + 16 * k) (stWords (st0 xw.bg)))) bb (wordCells xw.prog)).toArray 37 (0, 0)) → Fr (fun i => i = w.heap.size + 1) w6 w7 → KerIn w X (w.heap.size + 1) n (memN im (k + 1)) xs (k + 1) (.slice (some ⟨gK, 0, none⟩) (k + 1) cpK) w7) := by
          intro w7 hm7 hf7
          refine KerIn.wr HK6.out ?_ hf7
          have e1 : memN im (k + 1) = splice (splice (memN im k) (16 + 16 * k) (stWords (st0 xw.bg))) bb xw.prog := by
            have hwk' : im.ws[k]? = some xw := by rw [List.getElem?_eq_getElem hlt, hwk]
            simp only [memN, hwk', hbb]
            rfl
          rw [e1, hm7]
          unfold wordCells
          rw [splice_map]
        have hXM : X ≠ w.heap.size + 1 := by
          intro e
          have h1 := HK6.out.hx
          have h2 := HK6.out.hm
          rw [← e, h1] at h2
          simp only [Option.some.injEq, Obj.cells.injEq] at h2
          exact absurd h2.2.1 (by decide)
        clear hpos7 hK6 gL6 hreg hprg hr1 hf6 hm6 cX26 hmem6 hbb hmm hcp hml hoff hxx hwk
        go_wp2_with fail
        go_region_held3 (fun w' => w'.cell? ⟨X, 0, none⟩ = some (.slice (some ⟨w.heap.size + 1, 0, none⟩) n n) ∧ w'.cell? ⟨L, 2, none⟩ = some (.slice (some ⟨gr, 0, none⟩) xw.regs.length cr) ∧ w'.cell? ⟨L, 3, none⟩ = some (.slice ap xw.prog.length cq) ∧ w'.cell? ⟨gr, 2, none⟩ = some (.int .i64 (bb : Int)))
          (go_keep)
          ((refine step_copyF (by rfl) _ _ _ _ (by rfl) 37 Try.underlying75 (by kernel_rfl) (w.heap.size + 1) bb (n - bb) (n - bb) ap xw.prog.length cq (by rfl) (by rfl) (wordCells (splice (memN im k) (16 + 16 * k) (stWords (st0 xw.bg)))) 37 HK6.out.hm (wordCells xw.prog) hn7 (HP7.out _ ((Fr.refl _ w6).drew)) hfit7 hone7 ?_; intro w7 hm7 hf7; have hK7 := HEND.out w7 hm7 hf7.undrew; have dX0 : w7.cell? ⟨X, 0, none⟩ = some (.slice (some ⟨w.heap.size + 1, 0, none⟩) n n) := row_cell hK7.hx 0; have gL7 := hf7.get1 HGL6.out hLM; have dL2 : w7.cell? ⟨L, 2, none⟩ = some (.slice (some ⟨gr, 0, none⟩) xw.regs.length cr) := row_cell gL7 2; have dL3 : w7.cell? ⟨L, 3, none⟩ = some (.slice ap xw.prog.length cq) := row_cell gL7 3; have dR := (World.cell?_of_block (hf7.block gr (World.block_lt_of_cell? w6 _ cR) hgrM)).trans cR))
        have HK7 := hid hK7
        clear hK7 dX0 gL7 dL2 dL3 dR hm7 hf7
        go_wp2_with fail
        go_roundw
        case rel => exact ⟨k + 1, by omega, by go_num, _, HK7.out⟩
        case measure => simp [intOf]; omega
    · obtain rfl : k = im.ws.length := by omega
      go_wp2_with fail
      go_ret
      exact ⟨X, w.heap.size + 1, vK, rfl, by rw [Int.toNat_natCast]; exact hK⟩

end Go.Proofs.Ytoccdnimikifnaa
