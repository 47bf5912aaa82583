/- THE STATEMENT Noted: whatever the gap, the quantum and the words, a ward that puts out what its device has latched, once a turn, leaves a log that is what was latched, turn by turn: the law returns true, for every input; no condition. -/
import Derived.Test.YthmcheoehcmglaaGreatRows
import Derived.Test.YthmcheoehcmglaaGreatK7
import Derived.SizedLaws
import Derived.Test.YthmcheoehcmglaaGreatNote2
namespace Go.Proofs.YthmcheoehcmglaaGreat.noted
open Go.ChangeShapes Go.WideShapes Go.ChangeAt Go.RowKit
set_option linter.unusedVariables false

/-- A slice of integers, opened, with its datum. -/
theorem ints_openD {H : Type} {enc : TypeId × Value → H} {W : World} {fuel : Nat} {v : Value} {x : DataW H × List MemPlace} (h : DataW.trod enc Tryz.prog W 0 (fun _ => true) true fuel 22 [v] = some x) :
    ∃ ws : List Int, IntsAt W v ws ∧ (∀ n ∈ ws, I64 n) ∧ (ws = [] ∨ ∃ el sp, x.1 = .slice el sp ∧ ws.length ≤ el.length) := by
  rcases open_ints Tryz.underlying22 Tryz.underlying3 (by kernel_rfl) h with ⟨h1, -⟩ | ⟨a, len, cap, zs, h1, -, hlc, hcm, hzl, hx, hcell, hwf⟩
  · simp only [List.cons.injEq, and_true] at h1
    subst h1
    exact ⟨[], ⟨none, 0, rfl, by simp, by omega, by simp⟩, by simp, .inl rfl⟩
  · simp only [List.cons.injEq, and_true] at h1
    subst h1
    simp only [if_true] at hzl
    have hl : (zs.take len).length = len := by simp; omega
    have hcap : cap ≤ 9223372036854775807 := by unfold maxLen at hcm; omega
    refine ⟨zs.take len, ⟨some a, cap, by rw [hl], by rw [hl]; exact hlc, hcap, ?_⟩, fun n hn => i64_of_wf (hwf n (List.mem_of_mem_take hn)), .inr ⟨_, _, by rw [hx], by simp [lits]⟩⟩
    intro h1
    obtain ⟨b, off, rfl, hc⟩ := _root_.Go.ints_at hcell (by omega)
    refine ⟨b, off, rfl, ?_⟩
    intro i n hi
    have hil := (List.getElem?_eq_some_iff.1 hi).1
    rw [hl] at hil
    have := hc i (by omega)
    rw [List.getElem?_take, if_pos hil] at hi
    rw [this, getD_of' hi]

set_option maxRecDepth 100000 in
theorem lifted (os : Os) (started : os.Started) (H : Type) (enc : TypeId × Value → H) :
    ReturnsInHanded {} Tryz.checked os 9 .any (Rows.notedSpec.pre6 enc Tryz.prog Tryz.f9 Rows.notedRow.domain false) (Rows.notedSpec.post enc Tryz.prog Tryz.f9 false true false false) := by
  refine returnsInHanded_of_change_sized (C := Tryz.checked) ownK started (by kernel_rfl) Tryz.func9
    (ChangeSpec.witness6 (enc := enc) (C := Tryz.checked) false ⟨#[], #[.int .i64 0, .int .i64 0, .slice none 0 0], []⟩ 8 (by kernel_rfl) (by kernel_rfl) (by kernel_rfl) (by kernel_rfl)) ?_
  intro W base args ds gs before hval0 hW hcnd hreach _
  have hval : ∀ (j : Nat) t v, Tryz.f9.params[j]? = some t → args[j]? = some v → Value.okWide Tryz.prog W .any base t v := hval0
  have hW' := hW
  obtain ⟨p, q, hA0, hV, rfl, hfz, hnd⟩ := hW
  have hA : DataW.TrodAll enc Tryz.prog W 0 (fun _ => true) true Tryz.f9.params.toList args.toList ds p := hA0
  rw [Tryz.params9] at hA hval
  obtain ⟨v0, vs0, d0, ds0, p0, q0, hargs, rfl, rfl, h0, r0⟩ := trodAll_cons hA
  obtain ⟨v1, vs1, d1, ds1, p1, q1, rfl, rfl, rfl, h1, r1⟩ := trodAll_cons r0
  obtain ⟨v2, vs2, d2, ds2, p2, q2, rfl, rfl, rfl, h2, r2⟩ := trodAll_cons r1
  obtain ⟨rfl, rfl, rfl⟩ := trodAll_nil r2
  obtain rfl : args = #[v0, v1, v2] := by cases args; simp_all
  obtain ⟨rfl, rfl⟩ := trodVars_none hV
  obtain ⟨a0, rfl, rfl, rfl, w0⟩ := open_int Tryz.underlying3 (hval 0 3 v0 rfl rfl) h0
  obtain ⟨a1, rfl, rfl, rfl, w1⟩ := open_int Tryz.underlying3 (hval 1 3 v1 rfl rfl) h1
  obtain ⟨s2, len, cap, rfl⟩ := okWide_slice Tryz.underlying22 (hval 2 22 v2 rfl rfl)
  obtain ⟨fu, hfu⟩ := h2
  obtain ⟨ws, hws, hwi, hD⟩ := ints_openD hfu
  have hlen : ws.length ≤ 17592186044416 := by
    rcases hD with h | ⟨el, sp, hd, hl⟩
    · rw [h]; simp
    · have hb : Tryz.prog.bytesOf 3 = 8 := by kernel_rfl
      have hr0 : (DataW.weightsEach Tryz.prog [3, 3, 22] _).all (· ≤ reachBytes) = true := hreach
      have := sized_slice hr0 (j := 2) (t := 22) (e := 3) rfl (by exact congrArg some hd) Tryz.underlying22
      rw [hb] at this
      have hr := reachBytes_lt
      omega
  clear hA0 hval0
  refine (noted_any W a0 a1 (i64_of_wf w0) (i64_of_wf w1) _ ws hws hwi hlen).mono fun e W' ⟨he, hg⟩ => ?_
  subst he
  exact ⟨_, rfl, post_below laidOut hW' rfl (params_ok (by kernel_rfl)) (fun _ _ _ => trodAll_cons_mk (shut_bool Tryz.underlying4 _) trodAll_mk0) rfl rfl hg.below (ok_one (by kernel_rfl) rfl (okWide_bool_mk Tryz.underlying4 _))⟩

theorem over : Rows.notedRow.holds Tryz.pinned (OpenSpec.ofChange Rows.notedSpec) :=
  OpenClaim.holds_of_wide 9 Tryz.f9 rfl rfl rfl rfl rfl rfl rfl ⟨rfl, rfl, rfl, rfl, rfl⟩ rfl rfl rfl rfl rfl (by kernel_rfl) Tryz.func9 (by kernel_rfl)
    (of_decide_eq_true (by kernel_rfl)) (by unfold Func.isWrapper; first | (rw [if_pos (by decide +kernel)]; kernel_rfl) | (rw [if_neg (by decide +kernel)]; exact ⟨rfl, rfl⟩))
    (fun os started H enc _ => lifted os started H enc)

theorem proved : Rows.NotedSaid := over
end Go.Proofs.YthmcheoehcmglaaGreat.noted
namespace Go.Proofs.YthmcheoehcmglaaGreat
theorem noted_holds : Rows.NotedSaid := noted.proved
end Go.Proofs.YthmcheoehcmglaaGreat
