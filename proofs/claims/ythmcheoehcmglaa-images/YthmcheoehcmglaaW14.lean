/- The processor's state in memory: Begin, Save, area. -/
import Derived.Test.YthmcheoehcmglaaW13
import Derived.Test.YthmcheoehcmglaaS0
import Derived.Test.YthmcheoehcmglaaS1
import Derived.Test.YthmcheoehcmglaaS2
import Derived.Laws.CopyOwn
namespace Go.Proofs.Ythmcheoehcmglaa
open Go.RowKit
set_option linter.unusedVariables false
attribute [local go_sem ↓] Go.wp_at_zero Go.wp_at_succ

set_option maxRecDepth 100000 in
set_option maxHeartbeats 1000000 in
theorem begin_any (p : Int) (w : World) :
    Calls Try.prog 40 #[.int .u32 p] w fun e w' => e = .returned (.agg #[.int .u32 0, .int .u32 0, .int .u32 0, .int .u32 0, .int .u32 0, .int .u32 0, .int .u32 0, .int .u32 0, .int .u32 p, .int .i64 0, .int .i64 0, .int .i64 0, .bool false]) ∧ Fr (fun _ => False) w w' := by
  go_enter Try.func40, Try.ntmps40
  go_wp2_with fail
  refine bodyPost_ret (v := .agg #[.int .u32 0, .int .u32 0, .int .u32 0, .int .u32 0, .int .u32 0, .int .u32 0, .int .u32 0, .int .u32 0, .int .u32 p, .int .i64 0, .int .i64 0, .int .i64 0, .bool false]) ?_ rfl ⟨rfl, ?_⟩
  · simp [results, Try.results40, go_sem]
  · exact (Fr.refl _ _).alloc _

set_option maxRecDepth 100000 in
set_option maxHeartbeats 1000000 in
theorem area_any (X M n k : Nat) (w : World) (c0 : w.cell? ⟨X, 0, none⟩ = some (.slice (some ⟨M, 0, none⟩) n n)) (hn : 32 + 16 * k ≤ n) (hn2 : n ≤ 1024) :
    Calls Try.prog 42 #[.pointer (some ⟨X, 0, none⟩), .int .i64 k] w fun e w' => e = .returned (.slice (some ⟨M, 16 + 16 * k, none⟩) 16 (n - (16 + 16 * k))) ∧ w' = w := by
  have hn3 : (32 : Int) + 16 * k ≤ n := by omega
  go_enter Try.func42, Try.ntmps42
  go_wp2_with (go_at_call 67; refine (area_num _ _ (by omega) (by omega)).mono ?_; rintro e w1 ⟨rfl, rfl⟩)
  go_ret
  exact ⟨by rw [show 16 + 16 * k + 16 - (16 + 16 * k) = 16 from by omega]; rfl, rfl⟩

end Go.Proofs.Ythmcheoehcmglaa
