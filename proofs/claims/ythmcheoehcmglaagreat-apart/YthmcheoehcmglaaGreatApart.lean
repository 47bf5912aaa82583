/- THE STATEMENT Apart, where what it reads is of bulk at most 1048576: what a ward is hangs on nothing that other wards are or do: the law returns true. -/
import Derived.Test.YthmcheoehcmglaaGreatRows
import Derived.Test.YthmcheoehcmglaaGreatK7
import Derived.JoinedCond
import Derived.ChangeSame
import Derived.Test.YthmcheoehcmglaaGreatA4
namespace Go.Proofs.YthmcheoehcmglaaGreat.apart
open Go.ChangeShapes Go.WideShapes Go.ChangeAt Go.RowKit
set_option linter.unusedVariables false

/-- A slice of integers, opened, with its datum. -/
theorem ints_openD {H : Type} {enc : TypeId × Value → H} {W : World} {fuel : Nat} {v : Value} {x : DataW H × List MemPlace} (h : DataW.trod enc Tryz.prog W 0 (fun _ => true) true fuel 22 [v] = some x) :
    ∃ ws : List Int, IntsAt W v ws ∧ (∀ n ∈ ws, I64 n) ∧ (ws = [] ∨ ∃ el sp, x.1 = .slice el sp ∧ ws.length ≤ el.length) := by
  rcases open_ints Tryz.underlying22 Tryz.underlying3 (by kernel_rfl) h with ⟨h1, -⟩ | ⟨a, len, cap, zs, h1, -, hlc, hcm, hzl, hx, hcell, hwf⟩
  · simp only [List.cons.injEq, and_true] at h1
    subst h1
    exact ⟨[], ⟨none, 0, rfl, by simp, by omega, by simp⟩, by simp, .inl rfl⟩
  · simp only [List.cons.injEq, and_true] at h1
    subst h1
    simp only [if_true] at hzl
    have hl : (zs.take len).length = len := by simp; omega
    have hcap : cap ≤ 9223372036854775807 := by unfold maxLen at hcm; omega
    refine ⟨zs.take len, ⟨some a, cap, by rw [hl], by rw [hl]; exact hlc, hcap, ?_⟩, fun n hn => i64_of_wf (hwf n (List.mem_of_mem_take hn)), .inr ⟨_, _, by rw [hx], by simp [lits]⟩⟩
    intro h1
    obtain ⟨b, off, rfl, hc⟩ := _root_.Go.ints_at hcell (by omega)
    refine ⟨b, off, rfl, ?_⟩
    intro i n hi
    have hil := (List.getElem?_eq_some_iff.1 hi).1
    rw [hl] at hil
    have := hc i (by omega)
    rw [List.getElem?_take, if_pos hil] at hi
    rw [this, getD_of' hi]

theorem bulk_pos {H : Type} : ∀ d : DataW H, 1 ≤ Rows.uptoBulk d
  | .lit l => by cases l <;> simp [Rows.uptoBulk]
  | .nil => by simp [Rows.uptoBulk]
  | .ptr _ => by simp [Rows.uptoBulk]
  | .slice _ _ => by simp [Rows.uptoBulk]
  | .agg _ => by simp [Rows.uptoBulk]
  | .iface _ _ => by simp [Rows.uptoBulk]
  | .map _ => by simp [Rows.uptoBulk]
  | .held _ => by simp [Rows.uptoBulk]
theorem bulk_len {H : Type} : ∀ l : List (DataW H), l.length ≤ Rows.uptoBulkAll l
  | [] => by simp
  | d :: r => by
    have h1 := bulk_pos d
    have h2 := bulk_len r
    simp only [List.length_cons, Rows.uptoBulkAll]
    omega

set_option maxRecDepth 100000 in
theorem lifted (os : Os) (started : os.Started) (H : Type) (enc : TypeId × Value → H) (F0 : Stop.Interp) :
    ReturnsInHanded {} Tryz.checked os 10 .any ((Rows.OpenSpec.upto Rows.apartSpec).pre6 enc Tryz.prog Tryz.f10 Rows.apartUptoRow.domain false) (((Rows.OpenSpec.upto Rows.apartSpec).at F0).post enc Tryz.prog Tryz.f10 false true false false) := by
  refine returnsInHanded_of_cond (C := Tryz.checked) (s := Rows.OpenSpec.upto Rows.apartSpec) (k := Rows.uptoSmall) rfl ownK started (by kernel_rfl) Tryz.func10
    (OpenSpec.witness (enc := enc) (C := Tryz.checked) (s := Rows.OpenSpec.upto Rows.apartSpec) (k := Rows.uptoSmall) rfl false ⟨#[], #[.int .i64 0, .slice none 0 0, .slice none 0 0, .int .i64 0, .slice none 0 0, .slice none 0 0], []⟩ 8 (by kernel_rfl) (by kernel_rfl) (by kernel_rfl)
      (x := ([.lit (.int .i64 0), .nil, .nil, .lit (.int .i64 0), .nil, .nil], [], [])) (by kernel_rfl) (by kernel_rfl) (by kernel_rfl)) ?_
  intro W base args ds gs before hval0 hW _ hbulk _
  have hval : ∀ (j : Nat) t v, Tryz.f10.params[j]? = some t → args[j]? = some v → Value.okWide Tryz.prog W .any base t v := hval0
  have hW' := hW
  obtain ⟨p, q, hA0, hV, rfl, hfz, hnd⟩ := hW
  have hA : DataW.TrodAll enc Tryz.prog W 0 (fun _ => true) true Tryz.f10.params.toList args.toList ds p := hA0
  rw [Tryz.params10] at hA hval
  obtain ⟨v0, vs0, d0, ds0, p0, q0, hargs, rfl, rfl, h0, r0⟩ := trodAll_cons hA
  obtain ⟨v1, vs1, d1, ds1, p1, q1, rfl, rfl, rfl, h1, r1⟩ := trodAll_cons r0
  obtain ⟨v2, vs2, d2, ds2, p2, q2, rfl, rfl, rfl, h2, r2⟩ := trodAll_cons r1
  obtain ⟨v3, vs3, d3, ds3, p3, q3, rfl, rfl, rfl, h3, r3⟩ := trodAll_cons r2
  obtain ⟨v4, vs4, d4, ds4, p4, q4, rfl, rfl, rfl, h4, r4⟩ := trodAll_cons r3
  obtain ⟨v5, vs5, d5, ds5, p5, q5, rfl, rfl, rfl, h5, r5⟩ := trodAll_cons r4
  obtain ⟨rfl, rfl, rfl⟩ := trodAll_nil r5
  obtain rfl : args = #[v0, v1, v2, v3, v4, v5] := by cases args; simp_all
  obtain ⟨rfl, rfl⟩ := trodVars_none hV
  obtain ⟨a0, rfl, rfl, rfl, w0⟩ := open_int Tryz.underlying3 (hval 0 3 v0 rfl rfl) h0
  obtain ⟨a3, rfl, rfl, rfl, w3⟩ := open_int Tryz.underlying3 (hval 3 3 v3 rfl rfl) h3
  obtain ⟨s1, len1, cap1, rfl⟩ := okWide_slice Tryz.underlying42 (hval 1 42 v1 rfl rfl)
  obtain ⟨s2, len2, cap2, rfl⟩ := okWide_slice Tryz.underlying70 (hval 2 70 v2 rfl rfl)
  obtain ⟨s4, len4, cap4, rfl⟩ := okWide_slice Tryz.underlying22 (hval 4 22 v4 rfl rfl)
  obtain ⟨s5, len5, cap5, rfl⟩ := okWide_slice Tryz.underlying22 (hval 5 22 v5 rfl rfl)
  obtain ⟨f1, hf1⟩ := h1
  obtain ⟨f2, hf2⟩ := h2
  obtain ⟨f4, hf4⟩ := h4
  obtain ⟨f5, hf5⟩ := h5
  obtain ⟨l, hl, -⟩ := wards_open hf1
  obtain ⟨oth, hoth⟩ := rows_open hf2
  obtain ⟨cy, hcy, hcyi, hcyD⟩ := ints_openD hf4
  obtain ⟨lt, hlt, hlti, -⟩ := ints_openD hf5
  have hb4 : Rows.uptoBulk d4 ≤ 1048576 := by
    have h := of_decide_eq_true hbulk
    simp only [List.append_nil, Rows.uptoBulkAll] at h
    omega
  have hlen : cy.length ≤ 1048576 := by
    rcases hcyD with h | ⟨el, sp, hd, hl⟩
    · rw [h]; simp
    · have hd' : d4 = .slice el sp := hd
      rw [hd'] at hb4
      have := bulk_len el
      simp only [Rows.uptoBulk] at hb4
      omega
  clear hA0 hval0
  refine (apart_any W a0 a3 (i64_of_wf w0) (i64_of_wf w3) _ _ _ _ l oth cy lt hl hoth hcy hlt hcyi hlti hlen).mono fun e W' ⟨he, hg⟩ => ?_
  subst he
  exact ⟨_, rfl, post_below laidOut hW' rfl (params_ok (by kernel_rfl)) (fun _ _ _ => trodAll_cons_mk (shut_bool Tryz.underlying4 _) trodAll_mk0) rfl rfl hg.below (ok_one (by kernel_rfl) rfl (okWide_bool_mk Tryz.underlying4 _))⟩

theorem over : Rows.apartUptoRow.holds Tryz.pinned (Rows.OpenSpec.upto Rows.apartSpec) :=
  OpenClaim.holds_of_cond 10 Tryz.f10 rfl rfl rfl rfl rfl rfl rfl ⟨rfl, rfl, rfl, rfl, rfl⟩ rfl rfl rfl rfl rfl (by kernel_rfl) Tryz.func10 (by kernel_rfl)
    (of_decide_eq_true (by kernel_rfl)) (by unfold Func.isWrapper; first | (rw [if_pos (by decide +kernel)]; kernel_rfl) | (rw [if_neg (by decide +kernel)]; exact ⟨rfl, rfl⟩))
    (fun os started H enc _ F0 => lifted os started H enc F0)

theorem proved : Rows.ApartUptoSaid := over
end Go.Proofs.YthmcheoehcmglaaGreat.apart
namespace Go.Proofs.YthmcheoehcmglaaGreat
theorem apart_holds : Rows.ApartUptoSaid := apart.proved
end Go.Proofs.YthmcheoehcmglaaGreat
