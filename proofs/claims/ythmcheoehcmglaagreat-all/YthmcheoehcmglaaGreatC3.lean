/- The kernel's calls: answer, halt, yield, who, time; a wire's cell. -/
import Derived.Test.YthmcheoehcmglaaGreatP6
import Derived.Test.YthmcheoehcmglaaGreatP7
namespace Go.Proofs.YthmcheoehcmglaaGreat
open Go.RowKit
set_option linter.unusedVariables false
attribute [local go_sem ↓] Go.wp_at_zero Go.wp_at_succ

theorem WorkAt.setStatus {w : World} {B : Nat} {s : StV} {c a b n : Int} {o : Value} (h : WorkAt w B s c a b n o) (h8 : s.regs.length = 8) (v : Int) : WorkAt (w.setCell ⟨B, 9, none⟩ (.int .i64 v)) B { s with status := v } c a b n o := by
  unfold WorkAt at h ⊢
  obtain ⟨r0, r1, r2, r3, r4, r5, r6, r7, hr, hc⟩ := work_lit s h8 c a b n o
  have hc2 : workCells { s with status := v } c a b n o = [.int .u32 r0, .int .u32 r1, .int .u32 r2, .int .u32 r3, .int .u32 r4, .int .u32 r5, .int .u32 r6, .int .u32 r7, .int .u32 s.place, .int .i64 v, .int .i64 s.cause, .int .i64 s.busy, .bool s.y, .int .i64 c, .int .i64 a, .int .i64 b, .int .u32 n, o] := by unfold workCells stCells; simp only [hr]; rfl
  rw [row_set h, hc, hc2]
  rfl
theorem WorkAt.setY {w : World} {B : Nat} {s : StV} {c a b n : Int} {o : Value} (h : WorkAt w B s c a b n o) (h8 : s.regs.length = 8) (v : Bool) : WorkAt (w.setCell ⟨B, 12, none⟩ (.bool v)) B { s with y := v } c a b n o := by
  unfold WorkAt at h ⊢
  obtain ⟨r0, r1, r2, r3, r4, r5, r6, r7, hr, hc⟩ := work_lit s h8 c a b n o
  have hc2 : workCells { s with y := v } c a b n o = [.int .u32 r0, .int .u32 r1, .int .u32 r2, .int .u32 r3, .int .u32 r4, .int .u32 r5, .int .u32 r6, .int .u32 r7, .int .u32 s.place, .int .i64 s.status, .int .i64 s.cause, .int .i64 s.busy, .bool v, .int .i64 c, .int .i64 a, .int .i64 b, .int .u32 n, o] := by unfold workCells stCells; simp only [hr]; rfl
  rw [row_set h, hc, hc2]
  rfl

set_option maxRecDepth 100000 in
set_option maxHeartbeats 1000000 in
theorem answer_any (w : World) (B : Nat) (s : StV) (c a b n : Int) (o : Value) (h : WorkAt w B s c a b n o) (h8 : s.regs.length = 8) (v : Int) :
    Calls Tryz.prog 179 #[.pointer (some ⟨B, 0, none⟩), .int .u32 v] w fun e w' => e = .returned (.int .i64 0) ∧ w' = w.setCell ⟨B, 0, none⟩ (.int .u32 v) := by
  obtain ⟨r, hr⟩ : ∃ r, s.regs[0]? = some r := ⟨_, List.getElem?_eq_getElem (by omega)⟩
  have c0 : w.cell? ⟨B, 0, none⟩ = some (.int .u32 r) := h.reg 0 r hr
  have f0 : w.frozen? ⟨B, 0, none⟩ = false := row_frozen h 0
  clear h hr
  go_enter Tryz.func179, Tryz.ntmps179
  go_wp2_with fail
  go_ret
  exact ⟨rfl, rfl⟩

set_option maxRecDepth 100000 in
set_option maxHeartbeats 1000000 in
theorem halt_any (w : World) (rx : Value) (k : Nat) (B : Nat) (s : StV) (c a b n : Int) (o : Value) (h : WorkAt w B s c a b n o) (h8 : s.regs.length = 8) :
    Calls Tryz.prog 168 #[.agg #[rx, .int .i64 k], .pointer (some ⟨B, 0, none⟩)] w fun e w' => e = .returned (.int .i64 0) ∧ WorkAt w' B { s with status := 1 } c a b n o ∧ Fr (fun i => i = B) w w' := by
  have HF0 : Hid (Fr (fun _ => False) w (w.alloc (.cells #[rx, .int .i64 k] 139))) := (Fr.refl _ w).alloc _
  have hw := h.fr HF0.out
  have c0 : (w.alloc (.cells #[rx, .int .i64 k] 139)).cell? ⟨B, 9, none⟩ = some (.int .i64 s.status) := hw.at h8 1
  have f0 : (w.alloc (.cells #[rx, .int .i64 k] 139)).frozen? ⟨B, 9, none⟩ = false := row_frozen hw 9
  have HW := hid (hw.setStatus h8 1)
  clear h hw
  go_enter Tryz.func168, Tryz.ntmps168
  go_wp2_with fail
  go_ret
  exact ⟨rfl, HW.out, ((HF0.out.toS (S := fun i => i = B)).setCell (p := ⟨B, 9, none⟩) (.inl rfl) _)⟩

set_option maxRecDepth 100000 in
set_option maxHeartbeats 1000000 in
theorem yield_any (w : World) (rx : Value) (k : Nat) (B : Nat) (s : StV) (c a b n : Int) (o : Value) (h : WorkAt w B s c a b n o) (h8 : s.regs.length = 8) :
    Calls Tryz.prog 169 #[.agg #[rx, .int .i64 k], .pointer (some ⟨B, 0, none⟩)] w fun e w' => e = .returned (.int .i64 0) ∧ WorkAt w' B { s with y := true } c a b n o ∧ Fr (fun i => i = B) w w' := by
  have HF0 : Hid (Fr (fun _ => False) w (w.alloc (.cells #[rx, .int .i64 k] 139))) := (Fr.refl _ w).alloc _
  have hw := h.fr HF0.out
  have c0 : (w.alloc (.cells #[rx, .int .i64 k] 139)).cell? ⟨B, 12, none⟩ = some (.bool s.y) := hw.at h8 4
  have f0 : (w.alloc (.cells #[rx, .int .i64 k] 139)).frozen? ⟨B, 12, none⟩ = false := row_frozen hw 12
  have HW := hid (hw.setY h8 true)
  clear h hw
  go_enter Tryz.func169, Tryz.ntmps169
  go_wp2_with fail
  go_ret
  exact ⟨rfl, HW.out, ((HF0.out.toS (S := fun i => i = B)).setCell (p := ⟨B, 12, none⟩) (.inl rfl) _)⟩

set_option maxRecDepth 100000 in
set_option maxHeartbeats 1000000 in
theorem who_any (w : World) (rx : Value) (k : Nat) (hk : k ≤ 4) (B : Nat) (s : StV) (c a b n : Int) (o : Value) (h : WorkAt w B s c a b n o) (h8 : s.regs.length = 8) :
    Calls Tryz.prog 170 #[.agg #[rx, .int .i64 k], .pointer (some ⟨B, 0, none⟩)] w fun e w' => e = .returned (.int .i64 0) ∧ WorkAt w' B { s with regs := s.regs.set 0 k } c a b n o ∧ Fr (fun i => i = B) w w' := by
  have HF0 : Hid (Fr (fun _ => False) w (w.alloc (.cells #[rx, .int .i64 k] 139))) := (Fr.refl _ w).alloc _
  have HW := hid (h.fr HF0.out)
  clear h
  go_enter Tryz.func170, Tryz.ntmps170
  go_wp2_with fail
  refine (answer_any _ B s c a b n o HW.out h8 _).mono ?_
  rintro e w1 ⟨rfl, rfl⟩
  have HW1 := hid (HW.out.setReg 0 (by omega) k)
  go_wp2_with fail
  go_ret
  exact ⟨rfl, HW1.out, ((HF0.out.toS (S := fun i => i = B)).setCell (p := ⟨B, 0, none⟩) (.inl rfl) _)⟩

set_option maxRecDepth 100000 in
set_option maxHeartbeats 1000000 in
theorem time_any (x : KX) (ck : Int) (mem : List Int) (w : World) (hR : KerR x ck mem w) (k : Nat) (B : Nat) (s : StV) (c a b n : Int) (o : Value) (h : WorkAt w B s c a b n o) (h8 : s.regs.length = 8) (hck : ck ≤ 9223372036854775807) :
    Calls Tryz.prog 174 #[.agg #[.pointer (some ⟨x.X, 0, none⟩), .int .i64 k], .pointer (some ⟨B, 0, none⟩)] w fun e w' => e = .returned (.int .i64 0) ∧ WorkAt w' B { s with regs := s.regs.set 0 (ck % 4294967296) } c a b n o ∧ Fr (fun i => i = B) w w' := by
  have HF0 : Hid (Fr (fun _ => False) w (w.alloc (.cells #[.pointer (some ⟨x.X, 0, none⟩), .int .i64 k] 139))) := (Fr.refl _ w).alloc _
  have HW := hid (h.fr HF0.out)
  have hc0 := hR.c0
  have kc : (w.alloc (.cells #[.pointer (some ⟨x.X, 0, none⟩), .int .i64 k] 139)).cell? ⟨x.X, 1, none⟩ = some (.int .i64 ck) := row_cell (hR.frF HF0.out).hx _
  clear h hR
  go_enter Tryz.func174, Tryz.ntmps174
  go_wp2_with fail
  refine (answer_any _ B s c a b n o HW.out h8 _).mono ?_
  rintro e w1 ⟨rfl, rfl⟩
  have HW1 := hid (HW.out.setReg 0 (by omega) (ck % 4294967296))
  go_wp2_with fail
  go_ret
  exact ⟨rfl, HW1.out, ((HF0.out.toS (S := fun i => i = B)).setCell (p := ⟨B, 0, none⟩) (.inl rfl) _)⟩

end Go.Proofs.YthmcheoehcmglaaGreat
