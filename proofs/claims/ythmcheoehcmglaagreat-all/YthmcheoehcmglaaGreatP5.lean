/- The processor: Get, Put and Call by what a ward reaches; every code. -/
import Derived.Test.YthmcheoehcmglaaGreatP4
namespace Go.Proofs.YthmcheoehcmglaaGreat
open Go.RowKit
set_option linter.unusedVariables false
attribute [local go_sem ↓] Go.wp_at_zero Go.wp_at_succ

/-- A state whose words are words. -/
structure StB (s : StV) : Prop where
  l : s.regs.length = 8
  r : ∀ r ∈ s.regs, 0 ≤ r ∧ r < 4294967296
  p0 : 0 ≤ s.place
  p1 : s.place < 4294967296
  s0 : 0 ≤ s.status
  s1 : s.status ≤ 2
  c0 : 0 ≤ s.cause
  c1 : s.cause ≤ 5
  b0 : 0 ≤ s.busy
  b1 : s.busy ≤ 4

/-- What a ward reaches, as mathematics. -/
structure Ops (σ : Type) where
  fetch : σ → Int → Option Int
  get : σ → Int → Option Int
  put : σ → Int → Int → Option σ
  call : σ → StV → Int → Int × StV × σ

/-- .. and that the value rv is such a thing: its state lies in the blocks S. -/
structure OutOk {σ : Type} (O : Ops σ) (rv : Value) (S W : Nat → Prop) (R Q : σ → World → Prop) : Prop where
  toQ : ∀ m w, R m w → Q m w
  frQ : ∀ m w w' T, Q m w → Fr T w w' → (∀ i, T i → ∃ cs, w.heap[i]? = some (.cells cs 191 (0, 0))) → Q m w'
  fr : ∀ m w w' T, R m w → Fr T w w' → (∀ i, T i → ¬ S i) → R m w'
  fetch : ∀ m w a, R m w → 0 ≤ a → a < 4294967296 → Calls Tryz.prog 165 #[rv, .int .u32 a] w fun e w' => e = .returned (.tuple #[.int .u32 ((O.fetch m a).getD 0), .bool (O.fetch m a).isSome]) ∧ Fr (fun _ => False) w w'
  get : ∀ m w a, R m w → 0 ≤ a → a < 4294967296 → Calls Tryz.prog 166 #[rv, .int .u32 a] w fun e w' => e = .returned (.tuple #[.int .u32 ((O.get m a).getD 0), .bool (O.get m a).isSome]) ∧ Fr (fun _ => False) w w'
  put : ∀ m w a v, R m w → 0 ≤ a → a < 4294967296 → 0 ≤ v → v < 4294967296 → Calls Tryz.prog 167 #[rv, .int .u32 a, .int .u32 v] w fun e w' => e = .returned (.bool (O.put m a v).isSome) ∧ Q ((O.put m a v).getD m) w' ∧ Fr W w w'
  call : ∀ m w B s c a b n o nn, R m w → ¬ S B → WorkAt w B s c a b n o → StB s → 0 ≤ nn → nn < 65536 →
    Calls Tryz.prog 164 #[rv, .pointer (some ⟨B, 0, none⟩), .int .u32 nn] w fun e w' => e = .returned (.int .i64 (O.call m s nn).1) ∧ WorkAt w' B (O.call m s nn).2.1 c a b n o ∧ Q (O.call m s nn).2.2 w' ∧ Fr (fun i => W i ∨ i = B) w w'
  lt : ∀ m w i, R m w → S i → i < w.heap.size
  sub : ∀ i, W i → S i
  fetchB : ∀ m w a v, R m w → O.fetch m a = some v → 0 ≤ v ∧ v < 4294967296
  getB : ∀ m w a v, R m w → O.get m a = some v → 0 ≤ v ∧ v < 4294967296
  callB : ∀ m w s n, R m w → StB s → StB (O.call m s n).2.1
  callC : ∀ m w s n, R m w → StB s → 0 ≤ (O.call m s n).1 ∧ (O.call m s n).1 ≤ 5

/-- What a code does (the first one's number is 0): the cause, the state, what it reached. -/
def workM {σ : Type} (O : Ops σ) (code a b : Nat) (n : Int) (s : StV) (m : σ) : Int × StV × σ :=
  let x := s.regs.getD a 0
  let y := s.regs.getD b 0
  let set (v : Int) : Int × StV × σ := (0, { s with regs := s.regs.set a v }, m)
  match code with
  | 0 => set n
  | 1 => set ((x * 65536 + n) % 4294967296)
  | 2 => set y
  | 3 => set ((x + y) % 4294967296)
  | 4 => set ((x - y) % 4294967296)
  | 5 => set (x * y % 4294967296)
  | 6 => if y = 0 then (2, s, m) else set (x / y)
  | 7 => set ((x.toNat &&& y.toNat : Nat) : Int)
  | 8 => set ((x.toNat ||| y.toNat : Nat) : Int)
  | 9 => set ((x.toNat ^^^ y.toNat : Nat) : Int)
  | 10 => set (x * 2 ^ (y % 32).toNat % 4294967296)
  | 11 => set (x / 2 ^ (y % 32).toNat)
  | 12 => match O.get m ((y + n) % 4294967296) with
    | some v => set v
    | none => (3, s, m)
  | 13 => match O.put m ((y + n) % 4294967296) x with
    | some m' => (0, s, m')
    | none => (3, s, m)
  | 14 => (0, { s with place := jmp true n s.place }, m)
  | 15 => (0, { s with place := jmp (x == 0) n s.place }, m)
  | 16 => (0, { s with place := jmp (x / 2147483648 == 1) n s.place }, m)
  | _ => O.call m s n

theorem inv_fetch (v : Value) (w : World) : (method (Tryz.prog.types.size + Made.depth) 139 v "Fetch").run Tryz.prog w = .ok (165, v) w := by kernel_rfl
theorem inv_get (v : Value) (w : World) : (method (Tryz.prog.types.size + Made.depth) 139 v "Get").run Tryz.prog w = .ok (166, v) w := by kernel_rfl
theorem inv_put (v : Value) (w : World) : (method (Tryz.prog.types.size + Made.depth) 139 v "Put").run Tryz.prog w = .ok (167, v) w := by kernel_rfl
theorem inv_call (v : Value) (w : World) : (method (Tryz.prog.types.size + Made.depth) 139 v "Call").run Tryz.prog w = .ok (164, v) w := by kernel_rfl

set_option maxRecDepth 100000 in
set_option maxHeartbeats 2000000 in
theorem get_any {σ : Type} {O : Ops σ} {rv : Value} {S W : Nat → Prop} {R Q : σ → World → Prop} (ok : OutOk O rv S W R Q) (w : World) (m : σ) (hR : R m w) (B : Nat) (hB : ¬ S B) (s : StV) (c n : Int) (a b : Nat) (h : WorkAt w B s c a b n (.iface 139 rv)) (h8 : s.regs.length = 8) (ha : a < 8) (y : Int) (hy : s.regs[b]? = some y) :
    Calls Tryz.prog 138 #[.pointer (some ⟨B, 0, none⟩)] w fun e w' => match O.get m ((y + n) % 4294967296) with
      | some v => e = .returned (.int .i64 0) ∧ WorkAt w' B { s with regs := s.regs.set a v } c a b n (.iface 139 rv) ∧ Fr (fun i => i = B) w w'
      | none => e = .returned (.int .i64 3) ∧ Fr (fun _ => False) w w' := by
  have H := hid h
  have HY := hid hy
  have HOK := hid ok
  have HR := hid hR
  have co : w.drew.cell? ⟨B, 17, none⟩ = some (.iface 139 rv) := h.at h8 9
  have co2 : ∀ k, (w.drewN k).cell? ⟨B, 17, none⟩ = some (.iface 139 rv) := fun k => h.at h8 9
  have hz0 : 0 ≤ (y + n) % 4294967296 := by omega
  have hz1 : (y + n) % 4294967296 < 4294967296 := by omega
  obtain ⟨g, hg⟩ : ∃ g, O.get m ((y + n) % 4294967296) = g := ⟨_, rfl⟩
  have HG : Hid (∀ w1, R m w1 → Calls Tryz.prog 166 #[rv, .int .u32 ((y + n) % 4294967296)] w1 fun e w' => e = .returned (.tuple #[.int .u32 (g.getD 0), .bool g.isSome]) ∧ Fr (fun _ => False) w1 w') := fun w1 h1 => by rw [← hg]; exact ok.get m w1 _ h1 hz0 hz1
  rw [hg]
  clear h hy hR ok hg
  go_enter Tryz.func138, Tryz.ntmps138
  go_wp2_with fail
  go_region_law
    (first
      | (refine step_call Tryz.func147 (by kernel_rfl) (by kernel_rfl) (by rfl) (by rfl) [.pointer (some ⟨B, 0, none⟩)] (by rfl) ((address_any _ B s c a n b (.iface 139 rv) ?_ h8 y HY.out).mono ?_); exact H.out; rintro e w1 ⟨rfl, m1, rfl⟩; refine ⟨_, rfl, ?_⟩)
      | (refine step_invoke Tryz.func166 (by kernel_rfl) (by kernel_rfl) (by rfl) (by rfl) (by rfl) (inv_get rv _) [.int .u32 ((y + n) % 4294967296)] (by rfl) ((HG.out _ ?_).mono ?_); exact HOK.out.fr m w _ (fun _ => False) HR.out ⟨rfl, rfl, rfl, Nat.le_refl _, fun _ _ _ => rfl⟩ (fun _ h => h.elim); rintro e w2 ⟨rfl, hf2⟩; refine ⟨_, rfl, ?_⟩))
  all_goals
    have HF2 : Hid (Fr (fun _ => False) w w2) := ⟨hf2.os, hf2.tape, hf2.output, hf2.size, hf2.block⟩
    have HW2 := hid (H.out.fr HF2.out)
    clear hf2 co co2
    cases g with
    | none =>
      go_wp2_with fail
      go_ret
      exact ⟨rfl, HF2.out⟩
    | some v =>
      go_wp2_with fail
      refine (become_any _ B s c b n a (.iface 139 rv) HW2.out h8 ha _).mono ?_
      rintro e w3 ⟨rfl, hw3, hf3⟩
      have HW3 := hid hw3
      have HF3 := hid ((HF2.out.mono (fun _ h => h.elim)).step hf3 (fun i hi => .inl hi))
      clear hw3 hf3
      go_wp2_with fail
      go_ret
      exact ⟨rfl, HW3.out, HF3.out⟩

set_option maxRecDepth 100000 in
set_option maxHeartbeats 2000000 in
theorem put_any {σ : Type} {O : Ops σ} {rv : Value} {S W : Nat → Prop} {R Q : σ → World → Prop} (ok : OutOk O rv S W R Q) (w : World) (m : σ) (hR : R m w) (B : Nat) (hB : ¬ S B) (s : StV) (c n : Int) (a b : Nat) (h : WorkAt w B s c a b n (.iface 139 rv)) (h8 : s.regs.length = 8) (x y : Int) (hx : s.regs[a]? = some x) (hy : s.regs[b]? = some y) (x0 : 0 ≤ x) (x1 : x < 4294967296) :
    Calls Tryz.prog 139 #[.pointer (some ⟨B, 0, none⟩)] w fun e w' => e = .returned (.int .i64 (if (O.put m ((y + n) % 4294967296) x).isSome then 0 else 3)) ∧ Q ((O.put m ((y + n) % 4294967296) x).getD m) w' ∧ Fr W w w' := by
  have H := hid h
  have HX := hid hx
  have HY := hid hy
  have HOK := hid ok
  have HR := hid hR
  have co : w.drew.cell? ⟨B, 17, none⟩ = some (.iface 139 rv) := h.at h8 9
  have co2 : ∀ k, (w.drewN k).cell? ⟨B, 17, none⟩ = some (.iface 139 rv) := fun k => h.at h8 9
  have hz0 : 0 ≤ (y + n) % 4294967296 := by omega
  have hz1 : (y + n) % 4294967296 < 4294967296 := by omega
  obtain ⟨g, hg⟩ : ∃ g, O.put m ((y + n) % 4294967296) x = g := ⟨_, rfl⟩
  have HG : Hid (∀ w1, R m w1 → Calls Tryz.prog 167 #[rv, .int .u32 ((y + n) % 4294967296), .int .u32 x] w1 fun e w' => e = .returned (.bool g.isSome) ∧ Q (g.getD m) w' ∧ Fr W w1 w') := fun w1 h1 => by rw [← hg]; exact ok.put m w1 _ x h1 hz0 hz1 x0 x1
  rw [hg]
  clear h hx hy hR ok hg
  go_enter Tryz.func139, Tryz.ntmps139
  go_wp2_with fail
  go_region_law
    (first
      | (refine step_call Tryz.func147 (by kernel_rfl) (by kernel_rfl) (by rfl) (by rfl) [.pointer (some ⟨B, 0, none⟩)] (by rfl) ((address_any _ B s c a n b (.iface 139 rv) ?_ h8 y HY.out).mono ?_); exact H.out; rintro e w1 ⟨rfl, m1, rfl⟩; refine ⟨_, rfl, ?_⟩)
      | (refine step_call Tryz.func145 (by kernel_rfl) (by kernel_rfl) (by rfl) (by rfl) [.pointer (some ⟨B, 0, none⟩)] (by rfl) ((first_any _ B s c b n a (.iface 139 rv) ?_ h8 x HX.out).mono ?_); exact H.out; rintro e w1 ⟨rfl, m2, rfl⟩; refine ⟨_, rfl, ?_⟩)
      | (refine step_invoke Tryz.func167 (by kernel_rfl) (by kernel_rfl) (by rfl) (by rfl) (by rfl) (inv_put rv _) [.int .u32 ((y + n) % 4294967296), .int .u32 x] (by rfl) ((HG.out _ ?_).mono ?_); exact HOK.out.fr m w _ (fun _ => False) HR.out ⟨rfl, rfl, rfl, Nat.le_refl _, fun _ _ _ => rfl⟩ (fun _ h => h.elim); rintro e w2 ⟨rfl, hr2, hf2⟩; refine ⟨_, rfl, ?_⟩))
  all_goals
    have HF2 : Hid (Fr W w w2) := ⟨hf2.os, hf2.tape, hf2.output, hf2.size, hf2.block⟩
    have HR2 := hid hr2
    clear hf2 co co2 hr2
    cases g with
    | none =>
      go_wp2_with fail
      go_ret
      exact ⟨rfl, HR2.out, HF2.out⟩
    | some v =>
      go_wp2_with fail
      go_ret
      exact ⟨rfl, HR2.out, HF2.out⟩

set_option maxRecDepth 100000 in
set_option maxHeartbeats 2000000 in
theorem call_any {σ : Type} {O : Ops σ} {rv : Value} {S W : Nat → Prop} {R Q : σ → World → Prop} (ok : OutOk O rv S W R Q) (w : World) (m : σ) (hR : R m w) (B : Nat) (hB : ¬ S B) (s : StV) (c n : Int) (a b : Nat) (h : WorkAt w B s c a b n (.iface 139 rv)) (hs : StB s) (n0 : 0 ≤ n) (n1 : n < 65536) :
    Calls Tryz.prog 143 #[.pointer (some ⟨B, 0, none⟩)] w fun e w' => e = .returned (.int .i64 (O.call m s n).1) ∧ WorkAt w' B (O.call m s n).2.1 c a b n (.iface 139 rv) ∧ Q (O.call m s n).2.2 w' ∧ Fr (fun i => W i ∨ i = B) w w' := by
  have HOK := hid ok
  have HR := hid hR
  have co : w.drew.cell? ⟨B, 17, none⟩ = some (.iface 139 rv) := h.at hs.l 9
  have cn : w.drew.cell? ⟨B, 16, none⟩ = some (.int .u32 n) := h.at hs.l 8
  have HG : Hid (Calls Tryz.prog 164 #[rv, .pointer (some ⟨B, 0, none⟩), .int .u32 n] w.drew fun e w' => e = .returned (.int .i64 (O.call m s n).1) ∧ WorkAt w' B (O.call m s n).2.1 c a b n (.iface 139 rv) ∧ Q (O.call m s n).2.2 w' ∧ Fr (fun i => W i ∨ i = B) w.drew w') := ok.call m _ B s c a b n _ n (ok.fr m w _ (fun _ => False) hR ⟨rfl, rfl, rfl, Nat.le_refl _, fun _ _ _ => rfl⟩ (fun _ h => h.elim)) hB h hs n0 n1
  generalize O.call m s n = g at *
  clear h hR ok
  go_enter Tryz.func143, Tryz.ntmps143
  go_wp2_with fail
  go_region_law
    (first
      | (refine step_invoke Tryz.func164 (by kernel_rfl) (by kernel_rfl) (by rfl) (by rfl) (by rfl) (inv_call rv _) [.pointer (some ⟨B, 0, none⟩), .int .u32 n] (by rfl) (HG.out.mono ?_); rintro e w2 ⟨rfl, hw2, hr2, hf2⟩; refine ⟨_, rfl, ?_⟩))
  all_goals
    have HF2 : Hid (Fr (fun i => W i ∨ i = B) w w2) := ⟨hf2.os, hf2.tape, hf2.output, hf2.size, hf2.block⟩
    have HR2 := hid hr2
    have HW2 := hid hw2
    clear hf2 co cn hr2 hw2
    go_wp2_with fail
    go_ret
    exact ⟨rfl, HW2.out, HR2.out, HF2.out⟩

end Go.Proofs.YthmcheoehcmglaaGreat
