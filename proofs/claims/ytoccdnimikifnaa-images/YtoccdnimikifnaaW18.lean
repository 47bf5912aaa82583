/- Boot of an image that is one. -/
import Derived.Test.YtoccdnimikifnaaW17
namespace Go.Proofs.Ytoccdnimikifnaa
open Go.RowKit
set_option linter.unusedVariables false
attribute [local go_sem ↓] Go.wp_at_zero Go.wp_at_succ

theorem splice_mem {α : Type} (L : List α) (off : Nat) (cs : List α) (x : α) (h : x ∈ splice L off cs) : x ∈ L ∨ x ∈ cs := by
  unfold splice at h
  rcases List.mem_append.1 h with h | h
  · exact .inl (List.mem_of_mem_take h)
  · rcases List.mem_append.1 h with h | h
    · exact .inr h
    · exact .inl (List.mem_of_mem_drop h)

theorem memN_bd (m : Img) (h : m.Ok) : ∀ k, ∀ v ∈ memN m k, 0 ≤ v ∧ v < 4294967296 := by
  intro k
  induction k with
  | zero =>
    intro v hv
    simp only [memN, List.mem_replicate] at hv
    omega
  | succ k ih =>
    intro v hv
    cases hx : m.ws[k]? with
    | none => simp only [memN, hx] at hv; exact ih v hv
    | some x =>
      simp only [memN, hx] at hv
      have hw := h.w x (List.mem_of_getElem? hx)
      rcases splice_mem _ _ _ _ hv with hv | hv
      · rcases splice_mem _ _ _ _ hv with hv | hv
        · exact ih v hv
        · simp only [stWords, st0, yWord, List.mem_append, List.mem_cons, List.not_mem_nil, or_false] at hv
          have := hw.2.2.1
          have := hw.2.2.2.1
          rcases hv with hv | hv
          · rcases hv with rfl | rfl | rfl | rfl | rfl | rfl | rfl | rfl <;> omega
          · rcases hv with rfl | rfl | rfl | rfl | rfl <;> first | omega | simp
      · exact hw.2.2.2.2.1 v hv

theorem kerAt_of {w w' : World} {X M : Nat} {im : Img} {xs : List (WardV × Value × Value)} {vK : Value} (h : KerIn w X M im.mem.toNat (memN im im.ws.length) xs im.ws.length vK w') (hf : im.Fits) (hxs : xs.map (·.1) = im.ws) :
    KerAt w' X M im.mem.toNat (memN im im.ws.length) 0 (kws xs) vK := by
  have hl : xs.length = im.ws.length := by rw [← hxs]; simp
  have hkl : (kws xs).length = im.ws.length := by simp [kws, hl]
  have hk := hf.kern
  have h64 := hf.m64
  have hm1 := hf.ok.m1
  refine ⟨h.hx, h.hm, ?_, memN_len im hf _ (Nat.le_refl _), by omega, by omega, by rw [hkl]; omega, ?_, memN_bd im hf.ok _⟩
  · have := owns_base h.hk (Nat.zero_le _)
    rw [List.take_of_length_le (by omega)] at this
    rw [hkl]
    exact this
  · intro x hx
    simp only [kws, List.mem_map] at hx
    obtain ⟨y, _, rfl⟩ := hx
    simp [StV.Ok, st0]

set_option maxRecDepth 100000 in
set_option maxHeartbeats 2000000 in
theorem boot_yes (s : ByteArray) (hs : s.size ≤ maxLen) (w : World) (m : Img) (ok : Bool) (E : Hid (rimg s.data.toList = (m, ok))) (hm : m.Fits) (he : mkErr m ok = 0) :
    Calls Try.prog 6 #[.string s] w fun e w' => ∃ X xs, e = .returned (.tuple #[.pointer (some ⟨X, 0, none⟩), .int .i64 0]) ∧ xs.map (·.1) = m.ws ∧ booted0 m xs w' X ∧ Fr (fun _ => False) w w' := by
  have HE := hid he
  have HM := hid hm
  clear he hm
  go_enter Try.func6, Try.ntmps6
  go_wp2_with fail
  refine (make_core s hs w m ok E HM.out.ok).mono ?_
  rw [HE.out]
  rintro e w1 ⟨vW, vI, vO, m', rfl, hf, hv, hmm⟩
  obtain rfl := hmm rfl
  obtain ⟨a1, q1, rfl⟩ := hv.ws.shape
  obtain ⟨a2, q2, rfl⟩ := owns_shape hv.wi
  obtain ⟨a3, q3, rfl⟩ := owns_shape hv.ow
  have HF := hid hf
  have HV := hid hv
  clear hv hf hmm
  go_wp2_with fail
  obtain ⟨xs, hxs, hown, hx⟩ := HV.out.ws
  refine (start_any _ m' w.heap.size _ _ _ (HV.out.fr ((Fr.refl _ w1).alloc _)) HM.out xs hxs (hown.alloc _) (fun x h => ⟨(hx x h).1.alloc _, (hx x h).2.alloc _⟩)).mono ?_
  rintro e w2 ⟨X, M, vK, rfl, hK⟩
  have HK := hid hK
  have HXS := hid hxs
  clear hK hxs hown hx
  go_wp2_with fail
  go_ret2
  exact ⟨X, xs, rfl, HXS.out, ⟨M, vK, kerAt_of HK.out HM.out HXS.out⟩, (HF.out.alloc _).step HK.out.fr (fun _ h => .inl h)⟩

end Go.Proofs.Ytoccdnimikifnaa
