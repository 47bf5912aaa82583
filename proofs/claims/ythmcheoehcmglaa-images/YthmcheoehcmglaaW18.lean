/- Boot of an image that is one. -/
import Derived.Test.YthmcheoehcmglaaW17
namespace Go.Proofs.Ythmcheoehcmglaa
open Go.RowKit
set_option linter.unusedVariables false
attribute [local go_sem ↓] Go.wp_at_zero Go.wp_at_succ

theorem splice_mem {α : Type} (L : List α) (off : Nat) (cs : List α) (x : α) (h : x ∈ splice L off cs) : x ∈ L ∨ x ∈ cs := by
  unfold splice at h
  rcases List.mem_append.1 h with h | h
  · exact .inl (List.mem_of_mem_take h)
  · rcases List.mem_append.1 h with h | h
    · exact .inr h
    · exact .inl (List.mem_of_mem_drop h)

theorem memN_bd (m : Img) (h : m.Ok) : ∀ k, ∀ v ∈ memN m k, 0 ≤ v ∧ v < 4294967296 := by
  intro k
  induction k with
  | zero =>
    intro v hv
    simp only [memN, List.mem_replicate] at hv
    omega
  | succ k ih =>
    intro v hv
    cases hx : m.ws[k]? with
    | none => simp only [memN, hx] at hv; exact ih v hv
    | some x =>
      simp only [memN, hx] at hv
      have hw := h.w x (List.mem_of_getElem? hx)
      rcases splice_mem _ _ _ _ hv with hv | hv
      · rcases splice_mem _ _ _ _ hv with hv | hv
        · exact ih v hv
        · simp only [stWords, st0, yWord, List.mem_append, List.mem_cons, List.not_mem_nil, or_false] at hv
          have := hw.2.2.1
          have := hw.2.2.2.1
          rcases hv with hv | hv
          · rcases hv with rfl | rfl | rfl | rfl | rfl | rfl | rfl | rfl <;> omega
          · rcases hv with rfl | rfl | rfl | rfl | rfl <;> first | omega | simp
      · exact hw.2.2.2.2.1 v hv

theorem kerAt_of {w w' : World} {X M D gK cK : Nat} {im : Img} {vI vQ : Value} {vD : List Value} {xs : List (WardV × Value × Value)} (h : KerDv w im vI X M im.mem.toNat D (memN im im.ws.length) xs im.ow.length vQ gK cK vD w') (hf : im.Fits) (hxs : xs.map (·.1) = im.ws) :
    KerAt w' X M im.mem.toNat (memN im im.ws.length) 0 (kws xs) (.slice (some ⟨gK, 0, none⟩) xs.length cK) := by
  have hl : xs.length = im.ws.length := by rw [← hxs]; simp
  have hkl : (kws xs).length = im.ws.length := by simp [kws, hl]
  have hk := hf.kern
  have h64 := hf.m64
  have hm1 := hf.ok.m1
  obtain ⟨cur, hc, hv⟩ := h.hk
  refine ⟨⟨_, h.hx, rfl, rfl, rfl⟩, h.hm, ⟨gK, cK, cur, by rw [hkl, hl], hc, ?_⟩, memN_len im hf _ (Nat.le_refl _), by omega, by omega, by rw [hkl]; omega, ?_, memN_bd im hf.ok _⟩
  · intro k y hy c v hcv
    simp only [kws, List.getElem?_map, Option.map_eq_some_iff] at hy
    obtain ⟨x, hx, rfl⟩ := hy
    refine hv k x hx c v ?_
    have hcl : c < 14 := by
      have := (List.getElem?_eq_some_iff.1 hcv).1
      simpa [kwCells, stCells, st0] using this
    have e : kwD x (vD.getD k nilV) = kwCells (st0 x.1.bg, x.2.1) ++ [vD.getD k nilV] := by simp [kwD, kwCells]
    rw [e, List.getElem?_append_left (by simpa [kwCells, stCells, st0] using hcl)]
    exact hcv
  · intro x hx
    simp only [kws, List.mem_map] at hx
    obtain ⟨y, _, rfl⟩ := hx
    simp [StV.Ok, st0]

/-- A kernel that was just booted, whole. -/
def BootK (m : Img) (xs : List (WardV × Value × Value)) (w : World) (X : Nat) : Prop := ∃ w0 vI M D vQ gK cK vD, KerDv w0 m vI X M m.mem.toNat D (memN m m.ws.length) xs m.ow.length vQ gK cK vD w ∧ w.ownsRow 0 143 2 vI m.wi.length (m.wi.flatMap wireCells) ∧ ∀ x ∈ xs, w.ownsRow 0 110 4 x.2.1 x.1.regs.length (x.1.regs.flatMap regCells)

set_option maxRecDepth 100000 in
set_option maxHeartbeats 2000000 in
theorem boot_yes (s : ByteArray) (hs : s.size ≤ maxLen) (w : World) (m : Img) (ok : Bool) (E : Hid (rimg s.data.toList = (m, ok))) (hm : m.Fits) (he : mkErr m ok = 0) :
    Calls Try.prog 7 #[.string s] w fun e w' => ∃ X xs, e = .returned (.tuple #[.pointer (some ⟨X, 0, none⟩), .int .i64 0]) ∧ xs.map (·.1) = m.ws ∧ booted0 m xs w' X ∧ Fr (fun _ => False) w w' ∧ BootK m xs w' X := by
  have HE := hid he
  have HM := hid hm
  clear he hm
  go_enter Try.func7, Try.ntmps7
  go_wp2_with fail
  refine (make_core s hs w m ok E HM.out.ok).mono ?_
  rw [HE.out]
  rintro e w1 ⟨vW, vI, vO, m', rfl, hf, hv, hmm⟩
  obtain rfl := hmm rfl
  obtain ⟨a1, q1, rfl⟩ := hv.ws.shape
  obtain ⟨a2, q2, rfl⟩ := owns_shape hv.wi
  obtain ⟨a3, q3, rfl⟩ := owns_shape hv.ow
  have HF := hid hf
  have HV := hid hv
  clear hv hf hmm
  go_wp2_with fail
  obtain ⟨xs, hxs, hown, hx⟩ := HV.out.ws
  refine (start_any _ m' w.heap.size _ _ _ (HV.out.fr ((Fr.refl _ w1).alloc _)) HM.out xs hxs (hown.alloc _) (fun x h => ⟨(hx x h).1.alloc _, (hx x h).2.alloc _⟩)).mono ?_
  rintro e w2 ⟨X, M, D, vQ, gK, cK, vD, rfl, hK⟩
  have HK := hid hK
  have HXS := hid hxs
  have HWI : Hid (w2.ownsRow 0 143 2 (.slice a2 m'.wi.length q2) m'.wi.length (m'.wi.flatMap wireCells)) := owns_base (hK.fr.ownsF _ (HV.out.wi.alloc _)) (Nat.zero_le _)
  have HRG : Hid (∀ x ∈ xs, w2.ownsRow 0 110 4 x.2.1 x.1.regs.length (x.1.regs.flatMap regCells)) := fun x h => owns_base (hK.fr.ownsF _ ((hx x h).1.alloc _)) (Nat.zero_le _)
  clear hK hxs hown hx
  go_wp2_with fail
  go_ret2
  exact ⟨X, xs, rfl, HXS.out, ⟨M, _, kerAt_of HK.out HM.out HXS.out⟩, (HF.out.alloc _).step HK.out.fr (fun _ h => .inl h), _, _, M, D, vQ, gK, cK, vD, HK.out, HWI.out, HRG.out⟩

end Go.Proofs.Ythmcheoehcmglaa
