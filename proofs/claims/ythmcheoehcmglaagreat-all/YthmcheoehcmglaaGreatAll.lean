/- THE STATEMENT All, where what it reads is of bulk at most 1048576: several kernels beside one another, whatever their images and the script, answer as the document's nets: the law returns true. -/
import Derived.Test.YthmcheoehcmglaaGreatRows
import Derived.Test.YthmcheoehcmglaaGreatQ2
import Derived.JoinedCond
import Derived.ChangeSame
import Derived.Test.YthmcheoehcmglaaGreatH6
namespace Go.Proofs.YthmcheoehcmglaaGreat.all
open Go.ChangeShapes Go.WideShapes Go.ChangeAt Go.RowKit
set_option linter.unusedVariables false

theorem bulk_pos {H : Type} : ∀ d : DataW H, 1 ≤ Rows.uptoBulk d
  | .lit l => by cases l <;> simp [Rows.uptoBulk]
  | .nil => by simp [Rows.uptoBulk]
  | .ptr _ => by simp [Rows.uptoBulk]
  | .slice _ _ => by simp [Rows.uptoBulk]
  | .agg _ => by simp [Rows.uptoBulk]
  | .iface _ _ => by simp [Rows.uptoBulk]
  | .map _ => by simp [Rows.uptoBulk]
  | .held _ => by simp [Rows.uptoBulk]
theorem bulk_len {H : Type} : ∀ l : List (DataW H), l.length ≤ Rows.uptoBulkAll l
  | [] => by simp
  | d :: r => by
    have h1 := bulk_pos d
    have h2 := bulk_len r
    simp only [List.length_cons, Rows.uptoBulkAll]
    omega

set_option maxRecDepth 100000 in
theorem lifted (os : Os) (started : os.Started) (H : Type) (enc : TypeId × Value → H) (F0 : Stop.Interp) :
    ReturnsInHanded {} Tryz.checked os 11 .any ((Rows.OpenSpec.upto Rows.allSpec).pre6 enc Tryz.prog Tryz.f11 Rows.allUptoRow.domain false) (((Rows.OpenSpec.upto Rows.allSpec).at F0).post enc Tryz.prog Tryz.f11 false true false false) := by
  refine returnsInHanded_of_cond (C := Tryz.checked) (s := Rows.OpenSpec.upto Rows.allSpec) (k := Rows.uptoSmall) rfl ownK started (by kernel_rfl) Tryz.func11
    (OpenSpec.witness (enc := enc) (C := Tryz.checked) (s := Rows.OpenSpec.upto Rows.allSpec) (k := Rows.uptoSmall) rfl false ⟨#[], #[.slice none 0 0, .slice none 0 0], []⟩ 8 (by kernel_rfl) (by kernel_rfl) (by kernel_rfl)
      (x := ([.nil, .nil], [], [])) (by kernel_rfl) (by kernel_rfl) (by kernel_rfl)) ?_
  intro W base args ds gs before hval0 hW _ hbulk _
  have hval : ∀ (j : Nat) t v, Tryz.f11.params[j]? = some t → args[j]? = some v → Value.okWide Tryz.prog W .any base t v := hval0
  have hW' := hW
  obtain ⟨p, q, hA0, hV, rfl, hfz, hnd⟩ := hW
  have hA : DataW.TrodAll enc Tryz.prog W 0 (fun _ => true) true Tryz.f11.params.toList args.toList ds p := hA0
  rw [Tryz.params11] at hA hval
  obtain ⟨v0, vs0, d0, ds0, p0, q0, hargs, rfl, rfl, h0, r0⟩ := trodAll_cons hA
  obtain ⟨v1, vs1, d1, ds1, p1, q1, rfl, rfl, rfl, h1, r1⟩ := trodAll_cons r0
  obtain ⟨rfl, rfl, rfl⟩ := trodAll_nil r1
  obtain rfl : args = #[v0, v1] := by cases args; simp_all
  obtain ⟨rfl, rfl⟩ := trodVars_none hV
  obtain ⟨s0, len0, cap0, rfl⟩ := okWide_slice Tryz.underlying31 (hval 0 31 v0 rfl rfl)
  obtain ⟨s1, len1, cap1, rfl⟩ := okWide_slice Tryz.underlying25 (hval 1 25 v1 rfl rfl)
  obtain ⟨f0, hf0⟩ := h0
  obtain ⟨f1, hf1⟩ := h1
  obtain ⟨a1, c1, ims, hv0, hims, hsz, hD0⟩ := strs_open hf0
  obtain ⟨a2, c2, sc, hv1, hsc, hD1⟩ := steps_open hf1
  have hb01 : Rows.uptoBulk d0 + Rows.uptoBulk d1 ≤ 1048576 := by
    have h := of_decide_eq_true hbulk
    simp only [List.append_nil, Rows.uptoBulkAll] at h
    omega
  have hlen0 : ims.length ≤ 1048576 := by
    rcases hD0 with h | ⟨el, sp, hd, hl⟩
    · rw [h]; simp
    · have hd' : d0 = .slice el sp := hd
      rw [hd'] at hb01
      have := bulk_len el
      simp only [Rows.uptoBulk] at hb01
      omega
  have hlen1 : sc.length ≤ 1048576 := by
    rcases hD1 with h | ⟨el, sp, hd, hl⟩
    · rw [h]; simp
    · have hd' : d1 = .slice el sp := hd
      rw [hd'] at hb01
      have := bulk_len el
      simp only [Rows.uptoBulk] at hb01
      omega
  cases hv0
  cases hv1
  clear hA0 hval0
  refine (all_any W _ _ _ _ ims sc hims hsc hsz hlen0 hlen1).mono fun e W' ⟨he, hg⟩ => ?_
  subst he
  exact ⟨_, rfl, post_below laidOut hW' rfl (params_ok (by kernel_rfl)) (fun _ _ _ => trodAll_cons_mk (shut_bool Tryz.underlying4 _) trodAll_mk0) rfl rfl hg.below (ok_one (by kernel_rfl) rfl (okWide_bool_mk Tryz.underlying4 _))⟩

theorem over : Rows.allUptoRow.holds Tryz.pinned (Rows.OpenSpec.upto Rows.allSpec) :=
  OpenClaim.holds_of_cond 11 Tryz.f11 rfl rfl rfl rfl rfl rfl rfl ⟨rfl, rfl, rfl, rfl, rfl⟩ rfl rfl rfl rfl rfl (by kernel_rfl) Tryz.func11 (by kernel_rfl)
    (of_decide_eq_true (by kernel_rfl)) (by unfold Func.isWrapper; first | (rw [if_pos (by decide +kernel)]; kernel_rfl) | (rw [if_neg (by decide +kernel)]; exact ⟨rfl, rfl⟩))
    (fun os started H enc _ F0 => lifted os started H enc F0)

theorem proved : Rows.AllUptoSaid := over
end Go.Proofs.YthmcheoehcmglaaGreat.all
namespace Go.Proofs.YthmcheoehcmglaaGreat
theorem all_holds : Rows.AllUptoSaid := all.proved
end Go.Proofs.YthmcheoehcmglaaGreat
