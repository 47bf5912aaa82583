/- The statement Images. -/
import Derived.Test.YthmcheoehcmglaaL3
namespace Go.Proofs.Ythmcheoehcmglaa
open Go.RowKit
set_option linter.unusedVariables false
attribute [local go_sem ↓] Go.wp_at_zero Go.wp_at_succ

theorem mk_inv (m : Img) (ok : Bool) (h : mkErr m ok = 0) : ok = true ∧ fitsB m = true ∧ apartB m = true ∧ wiresB m = true ∧ devsB m = true := by
  cases ok with
  | false => rw [mk1] at h; cases h
  | true =>
    cases h1 : (fitsB m && apartB m) with
    | false => rw [mk2 m h1] at h; cases h
    | true =>
      cases h2 : (wiresB m && devsB m) with
      | false => rw [mk3 m h1 h2] at h; cases h
      | true =>
        simp only [Bool.and_eq_true] at h1 h2
        exact ⟨rfl, h1.1, h1.2, h2.1, h2.2⟩

theorem good_of (l : List UInt8) (m : Img) (ok : Bool) (hm : rimg l = (m, ok)) (he : mkErr m ok = 0) : m.Good := by
  obtain ⟨rfl, h1, h2, _⟩ := mk_inv m ok he
  exact ⟨fits_of l m hm he, h1, h2, (img_of l m hm).w⟩

theorem st0_W (bg : Int) (h0 : 0 ≤ bg) (h1 : bg ≤ 65535) : StW (st0 bg) := ⟨rfl, by simp [st0], h0, by simp only [st0]; omega⟩

/-- What was booted agrees with what was read. -/
theorem agree_boot (w : World) (P X Y : Nat) (m : Img) (hg : m.Good) (xs : List (WardV × Value × Value)) (hxs : xs.map (·.1) = m.ws) (hk : booted0 m xs w X) (rws : List RWard) (wi : List (Int × Int × Int × Int)) (vW vI vD : Value) (hn : NetAt w Y m.gap m.mem 0 rws wi vW vI vD m.ow.length) (hN : NetOf m rws wi)
    (hp : PairAt w P X Y) : ∃ M vK, Agree w P X Y M m.mem.toNat (memN m m.ws.length) m.gap 0 0 (kws xs) vK rws wi vW vI vD m.ow.length := by
  obtain ⟨M, vK, hK⟩ := hk
  have h64 := hg.f.m64
  have hmem : ((m.mem.toNat : Nat) : Int) = m.mem := by omega
  refine ⟨M, vK, hp, hK, by rw [hmem]; exact hn, (regs_ok m hg.f.ok hg.w rws wi hN).1, by omega, ?_, ?_, ?_, ?_⟩
  · intro w1 h1
    exact turn_zero w1 Y m.gap m.mem rws wi vW vI vD m.ow.length (hn.fr h1)
  · intro a ha
    exact mem_word m hg rws wi hN a
  · have : xs.length = m.ws.length := by rw [← hxs]; simp
    rw [key_len hN.key, ← this]
    simp [kws]
  · intro k y hy
    have hk : k < rws.length := (List.getElem?_eq_some_iff.1 hy).1
    rw [key_len hN.key] at hk
    have hx : m.ws[k]? = some m.ws[k] := List.getElem?_eq_getElem hk
    have key := key_at hN.key k y _ hy hx
    simp only [rkey, wkey, Prod.mk.injEq] at key
    have hw := hg.f.ok.w _ (List.mem_of_getElem? hx)
    rw [key.2.1, view_boot m hg xs hxs k _ hx]
    exact ⟨rfl, st0_W _ hw.2.2.1 hw.2.2.2.1⟩

def exText : ByteArray := ⟨#[1, 1, 0, 128, 0, 0, 8, 1, 0, 0, 0, 0, 0, 16, 0, 64, 7, 0, 3, 1, 0, 0, 5, 1, 16, 0, 7, 4, 1, 0, 0]⟩
def exImg : Img := ⟨1, 128, [⟨8, 0, [(0, 16, 64, 7)], [16777221, 17825799, 67174400]⟩], [], []⟩
theorem ex_img : rimg exText.data.toList = (exImg, true) := by rfl
theorem ex_err : mkErr exImg true = 0 := by rfl
theorem ex_word : (memN exImg exImg.ws.length).getD 65 0 = 17825799 := by rfl

attribute [local go_sem] eq8u
set_option maxRecDepth 100000 in
set_option maxHeartbeats 2000000 in
theorem booted_any (w : World) : Calls Try.prog 5 #[] w fun e w' => e = .returned (.bool true) ∧ Fr (fun _ => False) w w' := by
  have hg := good_of _ _ _ ex_img ex_err
  have HG := hid hg
  have HB := hid (fun w => boot_yes exText (by unfold maxLen; decide) w exImg true ex_img hg.f ex_err)
  unfold exText at HB
  clear hg
  go_enter Try.func5, Try.ntmps5
  go_wp2_with fail
  refine (HB.out _).mono ?_
  rintro e w1 ⟨X, xs, rfl, hxs, hk, hf, -⟩
  have HF := hid hf
  have HX := hid hxs
  obtain ⟨M, vK, hK⟩ := hk
  have HK := hid hK
  have HL : Hid ((kws xs).length = 1) := by
    unfold Hid kws
    rw [List.length_map, ← List.length_map (f := fun x : WardV × Value × Value => x.1), hxs]
    rfl
  clear hf hxs hK HB
  go_wp2_with fail
  have HV : Hid (Calls Try.prog 19 #[.pointer (some ⟨X, 0, none⟩), .int .i64 0] w1 fun e w' => e = .returned (.tuple #[.agg #[.int .u32 0, .int .u32 0, .int .u32 0, .int .u32 0, .int .u32 0, .int .u32 0, .int .u32 0, .int .u32 0, .int .u32 0, .int .i64 0, .int .i64 0, .int .i64 0, .bool false], .int .i64 0]) ∧ Fr (fun _ => False) w1 w') := by
    have := kview_yes w1 X M _ _ 0 (kws xs) vK 0 HK.out (by rw [HL.out]; omega)
    rw [view_boot exImg HG.out xs HX.out 0 _ rfl] at this
    exact this
  refine HV.out.mono ?_
  rintro e w2 ⟨rfl, hf2⟩
  have HF2 := hid hf2
  clear hf2 HV
  go_wp2_with fail
  have HW : Hid (∀ wz, Fr (fun _ => False) w1 wz → Calls Try.prog 15 #[.pointer (some ⟨X, 0, none⟩), .int .i64 65] wz fun e w' => e = .returned (.tuple #[.int .u32 17825799, .int .i64 0]) ∧ w' = wz) := by
    intro wz hz
    have := word_any wz X M _ _ 0 (kws xs) vK 65 (HK.out.fr hz)
    rw [if_pos (by decide), if_pos (by decide)] at this
    exact this
  refine (HW.out _ (HF2.out.alloc _)).mono ?_
  rintro e w3 ⟨rfl, rfl⟩
  go_wp2_with fail
  go_ret
  exact ⟨rfl, (HF.out.step HF2.out (fun _ h => .inl h)).alloc _⟩

set_option maxRecDepth 100000 in
set_option maxHeartbeats 4000000 in
theorem images_any (s : ByteArray) (hs : s.size ≤ maxLen) (w : World) : Calls Try.prog 3 #[.string s] w fun e w' => e = .returned (.bool true) ∧ Fr (fun _ => False) w w' := by
  obtain ⟨m, ok, hE⟩ : ∃ m ok, rimg s.data.toList = (m, ok) := ⟨_, _, rfl⟩
  have HE := hid hE
  have HOK : Hid m.Ok := by
    have := rimg_ok s.data.toList
    rw [hE] at this
    exact this
  clear hE
  by_cases he : mkErr m ok = 0
  · have HER := hid he
    have HG := hid (good_of _ m ok HE.out he)
    have HBY := hid (fun w => boot_yes s hs w m ok HE HG.out.f he)
    have HRE : Hid (∀ w, Calls Try.prog 8 #[.string s] w fun e w' => Fr (fun _ => False) w w' ∧ ∃ Y rws wi vW vI vD, e = .returned (.tuple #[.pointer (some ⟨Y, 0, none⟩), .int .i64 0]) ∧ NetAt w' Y m.gap m.mem 0 rws wi vW vI vD m.ow.length ∧ NetOf m rws wi) := fun w => (rRead_any s hs w m ok HE).mono (fun e w' h => ⟨h.1, h.2.2 he⟩)
    have HCE : Hid (∀ w, Calls Try.prog 6 #[.string s] w fun e w' => e = .returned (.int .i64 0) ∧ Fr (fun _ => False) w w') := fun w => by have := check_any s hs w m ok HE HOK.out; rw [he] at this; exact this
    clear he HER
    go_enter Try.func3, Try.ntmps3
    go_wp2_with fail
    refine (booted_any _).mono ?_
    rintro e w1 ⟨rfl, hf1⟩
    have HF1 := hid hf1
    clear hf1
    go_wp2_with fail
    refine (HCE.out _).mono ?_
    rintro e w2 ⟨rfl, hf2⟩
    have HF2 := hid (HF1.out.step hf2 (fun _ h => .inl h))
    clear hf2 HF1
    go_wp2_with fail
    refine (HBY.out _).mono ?_
    rintro e w3 ⟨X, xs, rfl, hxs, hk, hf3, -⟩
    have HXS := hid hxs
    have HKB := hid hk
    have HF3 := hid (HF2.out.step hf3 (fun _ h => .inl h))
    clear hf3 HF2 hxs hk
    go_wp2_with fail
    refine (HRE.out _).mono ?_
    rintro e w4 ⟨hf4, Y, rws, wi, vW, vI, vD, rfl, hn, hN⟩
    have HNN := hid hN
    have HNA := hid hn
    have HF4 := hid (HF3.out.step hf4 (fun _ h => .inl h))
    have HKC : Hid (booted0 m xs w4 X) := HKB.out.elim fun M h => h.elim fun vK h => ⟨M, vK, h.fr hf4⟩
    clear hf4 HF3 HKB hn hN
    go_wp2_with fail
    refine (num_any _ _).mono ?_
    rintro e w5 ⟨rfl, rfl⟩
    go_wp2_with fail
    refine (num_any _ _).mono ?_
    rintro e w5 ⟨rfl, rfl⟩
    go_wp2_with fail
    obtain ⟨M, vK, hA⟩ := agree_boot (w5.alloc (.cells #[.pointer (some ⟨X, 0, none⟩), .pointer (some ⟨Y, 0, none⟩)] 34)) w5.heap.size X Y m HG.out xs HXS.out (HKC.out.elim fun M h => h.elim fun vK h => ⟨M, vK, h.fr ((Fr.refl _ _).alloc _)⟩) rws wi vW vI vD (HNA.out.fr ((Fr.refl _ _).alloc _)) HNN.out (heap_alloc_new w5 _)
    refine (looks_no _ _ _ _ _ _ _ _ _ _ _ _ _ _ _ _ _ _ hA).mono ?_
    rintro e w6 ⟨rfl, hf6⟩
    have HF6 := hid ((HF4.out.alloc _).step hf6 (fun _ h => .inl h))
    clear hf6 hA
    go_wp2_with fail
    go_ret
    exact ⟨rfl, HF6.out⟩
  · have HPE := hid (fun w => boot_no s hs w m ok HE HOK.out he)
    have HRE : Hid (∀ w, Calls Try.prog 8 #[.string s] w fun e w' => Fr (fun _ => False) w w' ∧ e = .returned (.tuple #[.pointer none, .int .i64 (mkErr m ok)])) := fun w => (rRead_any s hs w m ok HE).mono (fun e w' h => ⟨h.1, h.2.1 he⟩)
    have HCE := hid (fun w => check_any s hs w m ok HE HOK.out)
    clear he HE
    generalize mkErr m ok = k at *
    go_enter Try.func3, Try.ntmps3
    go_wp2_with fail
    refine (booted_any _).mono ?_
    rintro e w1 ⟨rfl, hf1⟩
    have HF1 := hid hf1
    clear hf1
    go_wp2_with fail
    refine (HCE.out _).mono ?_
    rintro e w2 ⟨rfl, hf2⟩
    have HF2 := hid (HF1.out.step hf2 (fun _ h => .inl h))
    clear hf2 HF1
    go_wp2_with fail
    refine (HPE.out _).mono ?_
    rintro e w3 ⟨rfl, hf3⟩
    have HF3 := hid (HF2.out.step hf3 (fun _ h => .inl h))
    clear hf3 HF2
    go_wp2_with fail
    refine (HRE.out _).mono ?_
    rintro e w4 ⟨hf4, rfl⟩
    have HF4 := hid (HF3.out.step hf4 (fun _ h => .inl h))
    clear hf4 HF3
    go_wp2_with fail
    refine (num_any _ _).mono ?_
    rintro e w5 ⟨rfl, rfl⟩
    go_wp2_with fail
    refine (num_any _ _).mono ?_
    rintro e w5 ⟨rfl, rfl⟩
    go_wp2_with fail
    go_ret
    exact ⟨rfl, HF4.out⟩

end Go.Proofs.Ythmcheoehcmglaa
