/- THE STATEMENT Runs: whatever the image, without its devices, and whatever the script of Run, Word, View, Peek and Clock: the program answers as the document's net: the law returns true, for every input; no condition. -/
import Derived.Test.YthmcheoehcmglaaGreatRows
import Derived.Test.YthmcheoehcmglaaGreatQ2
import Derived.SizedLaws
import Derived.Test.YthmcheoehcmglaaGreatH2
namespace Go.Proofs.YthmcheoehcmglaaGreat.runs
open Go.ChangeShapes Go.WideShapes Go.ChangeAt Go.RowKit
open Go.ChangeMaps (open_string shut_string)
set_option linter.unusedVariables false

set_option maxRecDepth 100000 in
theorem lifted (os : Os) (started : os.Started) (H : Type) (enc : TypeId × Value → H) :
    ReturnsInHanded {} Tryz.checked os 5 .any (Rows.runsSpec.pre6 enc Tryz.prog Tryz.f5 Rows.runsRow.domain false) (Rows.runsSpec.post enc Tryz.prog Tryz.f5 false true false false) := by
  refine returnsInHanded_of_change_sized (C := Tryz.checked) ownK started (by kernel_rfl) Tryz.func5
    (ChangeSpec.witness6 (enc := enc) (C := Tryz.checked) false ⟨#[], #[.string ⟨#[]⟩, .slice none 0 0], []⟩ 8 (by kernel_rfl) (by kernel_rfl) (by kernel_rfl) (by kernel_rfl)) ?_
  intro W base args ds gs before hval0 hW hcnd hreach _
  have hval : ∀ (j : Nat) t v, Tryz.f5.params[j]? = some t → args[j]? = some v → Value.okWide Tryz.prog W .any base t v := hval0
  have hW' := hW
  obtain ⟨p, q, hA0, hV, rfl, hfz, hnd⟩ := hW
  have hA : DataW.TrodAll enc Tryz.prog W 0 (fun _ => true) true Tryz.f5.params.toList args.toList ds p := hA0
  rw [Tryz.params5] at hA hval
  obtain ⟨v0, vs0, d0, ds0, p0, q0, hargs, rfl, rfl, h0, r0⟩ := trodAll_cons hA
  obtain ⟨v1, vs1, d1, ds1, p1, q1, rfl, rfl, rfl, h1, r1⟩ := trodAll_cons r0
  obtain ⟨rfl, rfl, rfl⟩ := trodAll_nil r1
  obtain rfl : args = #[v0, v1] := by cases args; simp_all
  obtain ⟨rfl, rfl⟩ := trodVars_none hV
  obtain ⟨a0, rfl, rfl, rfl, w0⟩ := open_string Tryz.underlying9 (hval 0 9 v0 rfl rfl) h0
  obtain ⟨s2, len, cap, rfl⟩ := okWide_slice Tryz.underlying25 (hval 1 25 v1 rfl rfl)
  obtain ⟨fu, hfu⟩ := h1
  obtain ⟨a2, c2, sc, hv, hsc, hD⟩ := steps_open hfu
  have hlen : sc.length ≤ 80000000000000 := by
    rcases hD with h | ⟨el, sp, hd, hl⟩
    · rw [h]; simp
    · have hb : Tryz.prog.bytesOf 28 = 32 := by kernel_rfl
      have hr0 : (DataW.weightsEach Tryz.prog [9, 25] _).all (· ≤ reachBytes) = true := hreach
      have := sized_slice hr0 (j := 1) (t := 25) (e := 28) rfl (by exact congrArg some hd) Tryz.underlying25
      rw [hb] at this
      have hr := reachBytes_lt
      omega
  cases hv
  clear hA0 hval0
  refine (runs_any a0 w0 W _ _ sc hsc hlen).mono fun e W' ⟨he, hg⟩ => ?_
  subst he
  exact ⟨_, rfl, post_below laidOut hW' rfl (params_ok (by kernel_rfl)) (fun _ _ _ => trodAll_cons_mk (shut_bool Tryz.underlying4 _) trodAll_mk0) rfl rfl hg.below (ok_one (by kernel_rfl) rfl (okWide_bool_mk Tryz.underlying4 _))⟩

theorem over : Rows.runsRow.holds Tryz.pinned (OpenSpec.ofChange Rows.runsSpec) :=
  OpenClaim.holds_of_wide 5 Tryz.f5 rfl rfl rfl rfl rfl rfl rfl ⟨rfl, rfl, rfl, rfl, rfl⟩ rfl rfl rfl rfl rfl (by kernel_rfl) Tryz.func5 (by kernel_rfl)
    (of_decide_eq_true (by kernel_rfl)) (by unfold Func.isWrapper; first | (rw [if_pos (by decide +kernel)]; kernel_rfl) | (rw [if_neg (by decide +kernel)]; exact ⟨rfl, rfl⟩))
    (fun os started H enc _ => lifted os started H enc)

theorem proved : Rows.RunsSaid := over
end Go.Proofs.YthmcheoehcmglaaGreat.runs
namespace Go.Proofs.YthmcheoehcmglaaGreat
theorem runs_holds : Rows.RunsSaid := runs.proved
end Go.Proofs.YthmcheoehcmglaaGreat
