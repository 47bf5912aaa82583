/- Boot: all blocks of the kernel are new. -/
import Derived.Test.YthmcheoehcmglaaGreatG11
import Derived.Test.YthmcheoehcmglaaGreatQ2
import Derived.Test.YthmcheoehcmglaaGreatG16
import Derived.Test.YthmcheoehcmglaaGreatG14
namespace Go.Proofs.YthmcheoehcmglaaGreat
open Go.RowKit
set_option linter.unusedVariables false
attribute [local go_sem ↓] Go.wp_at_zero Go.wp_at_succ

/-- A kernel that was just booted, whole, and where its plan lies. -/
def BootKF (m : Img) (xs : List (WardV × Value × Value)) (b : Nat) (w : World) (X : Nat) : Prop := ∃ (w0 : World) (vI : Value) (M D : Nat) (vQ : Value) (gK cK : Nat) (vD : List Value), b ≤ w0.heap.size ∧ KerDv w0 m vI X M m.mem.toNat D (memN m m.ws.length) xs m.ow.length vQ gK cK vD w ∧ w.ownsRow b 177 2 vI m.wi.length (m.wi.flatMap wireCells) ∧ ∀ x ∈ xs, w.ownsRow b 151 4 x.2.1 x.1.regs.length (x.1.regs.flatMap regCells)

set_option maxRecDepth 100000 in
set_option maxHeartbeats 2000000 in
theorem boot_yesF (s : ByteArray) (hs : s.size ≤ maxLen) (w : World) (m : Img) (ok : Bool) (E : Hid (rimg s.data.toList = (m, ok))) (hm : m.Fits) (he : mkErr m ok = 0) :
    Calls Tryz.prog 36 #[.string s] w fun e w' => ∃ X xs, e = .returned (.tuple #[.pointer (some ⟨X, 0, none⟩), .int .i64 0]) ∧ xs.map (·.1) = m.ws ∧ Fr (fun _ => False) w w' ∧ BootKF m xs w.heap.size w' X := by
  have HE := hid he
  have HM := hid hm
  clear he hm
  go_enter Tryz.func36, Tryz.ntmps36
  go_wp2_with fail
  refine (make_core s hs w m ok E HM.out.ok).mono ?_
  rw [HE.out]
  rintro e w1 ⟨vW, vI, vO, m', rfl, hf, hv, hmm⟩
  obtain rfl := hmm rfl
  obtain ⟨a1, q1, rfl⟩ := hv.ws.shape
  obtain ⟨a2, q2, rfl⟩ := owns_shape hv.wi
  obtain ⟨a3, q3, rfl⟩ := owns_shape hv.ow
  have HF := hid hf
  have HV := hid hv
  clear hv hf hmm
  go_wp2_with fail
  obtain ⟨xs, hxs, hown, hx⟩ := HV.out.ws
  refine (start_any _ m' w.heap.size _ _ _ (HV.out.fr ((Fr.refl _ w1).alloc _)) HM.out xs hxs (hown.alloc _) (fun x h => ⟨(hx x h).1.alloc _, (hx x h).2.alloc _⟩)).mono ?_
  rintro e w2 ⟨X, M, D, vQ, gK, cK, vD, rfl, hK⟩
  have HK := hid hK
  have HXS := hid hxs
  have HWI : Hid (w2.ownsRow w.heap.size 177 2 (.slice a2 m'.wi.length q2) m'.wi.length (m'.wi.flatMap wireCells)) := hK.fr.ownsF _ (HV.out.wi.alloc _)
  have HRG : Hid (∀ x ∈ xs, w2.ownsRow w.heap.size 151 4 x.2.1 x.1.regs.length (x.1.regs.flatMap regCells)) := fun x h => hK.fr.ownsF _ ((hx x h).1.alloc _)
  clear hK hxs hown hx
  go_wp2_with fail
  go_ret2
  exact ⟨X, xs, rfl, HXS.out, (HF.out.alloc _).step HK.out.fr (fun _ h => .inl h), _, _, M, D, vQ, gK, cK, vD, (HF.out.alloc _).size, HK.out, HWI.out, HRG.out⟩

theorem bootC_true : BootC True := by
  intro s hs w m ok E he
  have hg := good_of _ m ok E.out he
  have hok : ok = true := (mk_inv m ok he).1
  have hi : m.Is := img_of s.data.toList m (by rw [← hok]; exact E.out)
  refine (boot_yesF s hs w m ok E hg.f he).mono ?_
  rintro e w' ⟨X, xs, rfl, hxs, hf, hb⟩
  obtain ⟨w0, vI, M, D, vQ, gK, cK, vD, hbw, hKD, hwi, hrg⟩ := hb
  obtain ⟨hK, hfresh⟩ := bootKx m (imgK_of hg hi) xs hxs w.heap.size w' X w0 vI M D vQ gK cK vD hbw hKD (owns_base hwi (Nat.zero_le _)) (fun x hx => owns_base (hrg x hx) (Nat.zero_le _))
  refine ⟨_, _, rfl, ⟨hK, boot_sim m hg hi xs X M D vI vQ gK cK vD, boot_xs m hg hi xs X M D vI vQ gK cK vD⟩, ⟨rfl, rfl, rfl, rfl, rfl, rfl, rfl⟩, hf, hfresh, ?_⟩
  rintro - i (e | e | e | ⟨v, hv, e⟩ | e | e | ⟨v, hv, e⟩)
  · rw [e]; exact Nat.le_trans hbw hKD.x1
  · rw [e]; exact Nat.le_trans hbw hKD.m1
  · rw [e]; exact Nat.le_trans hbw hKD.g1
  · obtain ⟨x, hx, rfl⟩ := List.mem_map.1 (show v ∈ xs.map (·.2.1) from hv)
    exact ((hrg x hx).lt i e).1
  · exact (hwi.lt i e).1
  · exact Nat.le_trans hbw (hKD.hq.lt i e).1
  · have hv2 : v ∈ vD := hv
    obtain ⟨k, hk⟩ := List.getElem?_of_mem hv2
    have hkl : k < xs.length := by rw [← hKD.vl]; exact (List.getElem?_eq_some_iff.1 hk).1
    have := hKD.dv k hkl
    rw [getD_of hk] at this
    exact Nat.le_trans hbw (this.lt i e).1

end Go.Proofs.YthmcheoehcmglaaGreat
/- The statement All: the walk; texts, opened. -/
namespace Go.Proofs.YthmcheoehcmglaaGreat
open Go.ChangeShapes Go.WideShapes Go.ChangeAt Go.RowKit Go.Deep
set_option linter.unusedVariables false
attribute [local go_sem ↓] Go.wp_at_zero Go.wp_at_succ

theorem strs_open {H : Type} {enc : TypeId × Value → H} {W : World} {fuel : Nat} {v : Value} {x : DataW H × List MemPlace} (h : DataW.trod enc Tryz.prog W 0 (fun _ => true) true fuel 31 [v] = some x) :
    ∃ (a : Option Addr) (c : Nat) (ims : List ByteArray), v = .slice a ims.length c ∧ StrsAt W a ims ∧ (∀ s ∈ ims, s.size ≤ maxLen) ∧ (ims = [] ∨ ∃ el sp, x.1 = .slice el sp ∧ ims.length ≤ el.length) := by
  rcases open_slice1 Tryz.underlying31 (by kernel_rfl) h with ⟨h1, -⟩ | ⟨a, len, cap, m, n, V, D, Pl, h1, hb, hlc, hcm, hm, hx, hel⟩
  · simp only [List.cons.injEq, and_true] at h1
    subst h1
    exact ⟨none, 0, [], rfl, by intro h; simp at h, by simp, .inl rfl⟩
  · simp only [List.cons.injEq, and_true] at h1
    subst h1
    simp only [if_true] at hm
    have each : ∀ i, i < len → ∃ s : ByteArray, s.size ≤ maxLen ∧ W.cell? (a.add i) = some (.string s) := by
      intro i hi
      obtain ⟨h2, h3⟩ := hel i (by omega)
      obtain ⟨s, q, -, hsz⟩ := DataW.trod_string Tryz.underlying9 h3
      simp only [List.cons.injEq, and_true] at q
      rw [q] at h2
      exact ⟨s, hsz, h2⟩
    obtain ⟨f, hf⟩ := choose_lt each
    have hll : ((List.range len).map f).length = len := by simp
    refine ⟨some a, cap, (List.range len).map f, by rw [hll], ?_, ?_, .inr ⟨_, _, by rw [hx], by simp⟩⟩
    · intro h1
      rw [hll] at h1
      have hc0 := (hf 0 (by omega)).2
      obtain ⟨b, off, spot⟩ := a
      have hspot : spot = none := by simpa [Addr.add] using World.cell?_spot hc0
      subst hspot
      refine ⟨b, off, rfl, ?_⟩
      intro k s hk
      rw [List.getElem?_map] at hk
      simp only [Option.map_eq_some_iff] at hk
      obtain ⟨i, hi, hfi⟩ := hk
      obtain ⟨hil, hie⟩ := List.getElem?_eq_some_iff.1 hi
      simp only [List.length_range] at hil
      simp only [List.getElem_range] at hie
      subst hie
      have h2 := (hf k hil).2
      rw [hfi, add_plain] at h2
      exact h2
    · intro s hs
      simp only [List.mem_map, List.mem_range] at hs
      obtain ⟨i, hi, rfl⟩ := hs
      exact (hf i hi).1

set_option maxRecDepth 100000 in
set_option maxHeartbeats 1000000 in
theorem all_any (w : World) (a1 a2 : Option Addr) (c1 c2 : Nat) (ims : List ByteArray) (sc : List Stp) (h1 : StrsAt w a1 ims) (h2 : StepsAt w a2 sc) (hsz : ∀ s ∈ ims, s.size ≤ maxLen) (hl1 : ims.length ≤ 1048576) (hl2 : sc.length ≤ 1048576) :
    Calls Tryz.prog 11 #[.slice a1 ims.length c1, .slice a2 sc.length c2] w fun e w' => e = .returned (.bool true) ∧ Fr (fun _ => False) w w' := by
  have HP := hid (plays_510 bootC_true w a1 a2 c1 c2 ims sc h1 h2 hsz (by omega) (by omega) (.inr trivial) (.inl (by omega)))
  generalize sc.length = n at *
  generalize ims.length = l at *
  clear h1 h2 hsz
  go_enter Tryz.func11, Tryz.ntmps11
  go_wp2_with fail
  refine HP.out.mono ?_
  rintro e w3 ⟨rfl, hf3⟩
  have HF3 := hid hf3
  clear hf3 HP
  go_wp2_with fail
  go_ret
  exact ⟨rfl, HF3.out⟩

end Go.Proofs.YthmcheoehcmglaaGreat
