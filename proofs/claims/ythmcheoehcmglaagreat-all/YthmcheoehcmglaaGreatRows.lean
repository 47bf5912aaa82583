/-
  No cell of these rows narrows 'for every input' (looked for: loops, veiled, ifaces, maps, wideKeys, modest, calm, conditions, laid).
  DERIVED. THE GIVEN ROWS OF THIS SEAT. 9 by the template 'for every input the law returns true; each argument reads behind the call as it read before'; 0 by the template 'total and deterministic' (their statements: YthmcheoehcmglaaGreatTotals.lean).
  GIVEN WITH THE SEED: the statements are not yours to turn. If you find one false, say at which input.
  Laid BY PROGRAM, IN A SANDBOX (cutbox-rows.mjs): the forced cells as the released guide's own fill.sh prints them over the translation 864ed77871cdc231… (all of the seat's roots in one cut). By AI agents, Wed Nov 11 2026. No macro, syntax, notation, axiom, sorry.
-/
import Derived.Test.YthmcheoehcmglaaGreatChecked
import GoSem.Claim
import GoSem.ClaimJoined
import GoSem.ClaimMapViews
import Derived.JoinedTies
import Derived.KernelRfl
namespace Go.Proofs.YthmcheoehcmglaaGreat
/- THE CELL 'sum', in the pinned program and in every row, IS THE sha256 OF THE DUMP (.gsa) THAT YthmcheoehcmglaaGreatProg.lean LOADS. Nothing in Lean hashes anything: it is a label: what it is worth is what the hold of that sum in a sandbox is worth. -/
noncomputable def Tryz.pinned : Pinned := { name := "ythmcheoehcmglaagreat", sum := "864ed77871cdc231fa03b026035afe0ca158434e96665c32d41057b509a0f5a5", checked := Tryz.checked }
namespace Rows
def none {H : Type} : Left H := { results := [], args := [] }

/-- 'wardslaw.Deeds': WHATEVER THE INPUT: true; the input reads as it did. -/
def deedsSpec : ChangeSpec := { name := "deeds", fn := fun _ => fun
  | [d1, d2, d3, d4] => { results := [.lit (.bool true)], args := [d1, d2, d3, d4] }
  | _ => none }
def deedsRow : OpenClaim := { program := "ythmcheoehcmglaagreat", sum := "864ed77871cdc231fa03b026035afe0ca158434e96665c32d41057b509a0f5a5", func := "wards/wardslaw.Deeds", spec := "deeds", unfollowed := true, recurses := true, apart := false }
def DeedsSaid : Prop := deedsRow.holds Tryz.pinned (OpenSpec.ofChange deedsSpec)

/-- ITS FALSE NEIGHBOUR: 'it returns false'. Refute it at one input. -/
def deedsWrong : ChangeSpec := { name := "deeds", fn := fun _ => fun
  | [d1, d2, d3, d4] => { results := [.lit (.bool false)], args := [d1, d2, d3, d4] }
  | _ => none }
def DeedsWrongFalsely : Prop := deedsRow.holds Tryz.pinned (OpenSpec.ofChange deedsWrong)

/-- 'wardskeep.Reckoned': WHATEVER THE INPUT: true; the input reads as it did. -/
def reckonedSpec : ChangeSpec := { name := "reckoned", fn := fun _ => fun
  | [d1, d2] => { results := [.lit (.bool true)], args := [d1, d2] }
  | _ => none }
def reckonedRow : OpenClaim := { program := "ythmcheoehcmglaagreat", sum := "864ed77871cdc231fa03b026035afe0ca158434e96665c32d41057b509a0f5a5", func := "wards/wardskeep.Reckoned", spec := "reckoned", unfollowed := true, recurses := true, apart := false }
def ReckonedSaid : Prop := reckonedRow.holds Tryz.pinned (OpenSpec.ofChange reckonedSpec)

/-- ITS FALSE NEIGHBOUR: 'it returns false'. Refute it at one input. -/
def reckonedWrong : ChangeSpec := { name := "reckoned", fn := fun _ => fun
  | [d1, d2] => { results := [.lit (.bool false)], args := [d1, d2] }
  | _ => none }
def ReckonedWrongFalsely : Prop := reckonedRow.holds Tryz.pinned (OpenSpec.ofChange reckonedWrong)

/-- 'wardslaw.Runs': WHATEVER THE INPUT: true; the input reads as it did. -/
def runsSpec : ChangeSpec := { name := "runs", fn := fun _ => fun
  | [d1, d2] => { results := [.lit (.bool true)], args := [d1, d2] }
  | _ => none }
def runsRow : OpenClaim := { program := "ythmcheoehcmglaagreat", sum := "864ed77871cdc231fa03b026035afe0ca158434e96665c32d41057b509a0f5a5", func := "wards/wardslaw.Runs", spec := "runs", unfollowed := true, recurses := true, apart := false }
def RunsSaid : Prop := runsRow.holds Tryz.pinned (OpenSpec.ofChange runsSpec)

/-- ITS FALSE NEIGHBOUR: 'it returns false'. Refute it at one input. -/
def runsWrong : ChangeSpec := { name := "runs", fn := fun _ => fun
  | [d1, d2] => { results := [.lit (.bool false)], args := [d1, d2] }
  | _ => none }
def RunsWrongFalsely : Prop := runsRow.holds Tryz.pinned (OpenSpec.ofChange runsWrong)

/-- 'wardskeep.Saved': WHATEVER THE INPUT: true; the input reads as it did. -/
def savedSpec : ChangeSpec := { name := "saved", fn := fun _ => fun
  | [d1, d2, d3] => { results := [.lit (.bool true)], args := [d1, d2, d3] }
  | _ => none }
def savedRow : OpenClaim := { program := "ythmcheoehcmglaagreat", sum := "864ed77871cdc231fa03b026035afe0ca158434e96665c32d41057b509a0f5a5", func := "wards/wardskeep.Saved", spec := "saved", unfollowed := true, recurses := true, apart := false }
def SavedSaid : Prop := savedRow.holds Tryz.pinned (OpenSpec.ofChange savedSpec)

/-- ITS FALSE NEIGHBOUR: 'it returns false'. Refute it at one input. -/
def savedWrong : ChangeSpec := { name := "saved", fn := fun _ => fun
  | [d1, d2, d3] => { results := [.lit (.bool false)], args := [d1, d2, d3] }
  | _ => none }
def SavedWrongFalsely : Prop := savedRow.holds Tryz.pinned (OpenSpec.ofChange savedWrong)

/-- 'wardskeep.Guarded': WHATEVER THE INPUT: true; the input reads as it did. -/
def guardedSpec : ChangeSpec := { name := "guarded", fn := fun _ => fun
  | [d1, d2, d3, d4] => { results := [.lit (.bool true)], args := [d1, d2, d3, d4] }
  | _ => none }
def guardedRow : OpenClaim := { program := "ythmcheoehcmglaagreat", sum := "864ed77871cdc231fa03b026035afe0ca158434e96665c32d41057b509a0f5a5", func := "wards/wardskeep.Guarded", spec := "guarded", unfollowed := true, recurses := true, apart := false }
def GuardedSaid : Prop := guardedRow.holds Tryz.pinned (OpenSpec.ofChange guardedSpec)

/-- ITS FALSE NEIGHBOUR: 'it returns false'. Refute it at one input. -/
def guardedWrong : ChangeSpec := { name := "guarded", fn := fun _ => fun
  | [d1, d2, d3, d4] => { results := [.lit (.bool false)], args := [d1, d2, d3, d4] }
  | _ => none }
def GuardedWrongFalsely : Prop := guardedRow.holds Tryz.pinned (OpenSpec.ofChange guardedWrong)

/-- 'wardskeep.Told': WHATEVER THE INPUT: true; the input reads as it did. -/
def toldSpec : ChangeSpec := { name := "told", fn := fun _ => fun
  | [d1, d2, d3] => { results := [.lit (.bool true)], args := [d1, d2, d3] }
  | _ => none }
def toldRow : OpenClaim := { program := "ythmcheoehcmglaagreat", sum := "864ed77871cdc231fa03b026035afe0ca158434e96665c32d41057b509a0f5a5", func := "wards/wardskeep.Told", spec := "told", unfollowed := true, recurses := true, apart := false }
def ToldSaid : Prop := toldRow.holds Tryz.pinned (OpenSpec.ofChange toldSpec)

/-- ITS FALSE NEIGHBOUR: 'it returns false'. Refute it at one input. -/
def toldWrong : ChangeSpec := { name := "told", fn := fun _ => fun
  | [d1, d2, d3] => { results := [.lit (.bool false)], args := [d1, d2, d3] }
  | _ => none }
def ToldWrongFalsely : Prop := toldRow.holds Tryz.pinned (OpenSpec.ofChange toldWrong)

/-- 'wardskeep.Noted': WHATEVER THE INPUT: true; the input reads as it did. -/
def notedSpec : ChangeSpec := { name := "noted", fn := fun _ => fun
  | [d1, d2, d3] => { results := [.lit (.bool true)], args := [d1, d2, d3] }
  | _ => none }
def notedRow : OpenClaim := { program := "ythmcheoehcmglaagreat", sum := "864ed77871cdc231fa03b026035afe0ca158434e96665c32d41057b509a0f5a5", func := "wards/wardskeep.Noted", spec := "noted", unfollowed := true, recurses := true, apart := false }
def NotedSaid : Prop := notedRow.holds Tryz.pinned (OpenSpec.ofChange notedSpec)

/-- ITS FALSE NEIGHBOUR: 'it returns false'. Refute it at one input. -/
def notedWrong : ChangeSpec := { name := "noted", fn := fun _ => fun
  | [d1, d2, d3] => { results := [.lit (.bool false)], args := [d1, d2, d3] }
  | _ => none }
def NotedWrongFalsely : Prop := notedRow.holds Tryz.pinned (OpenSpec.ofChange notedWrong)

/-- 'wardskeep.Apart': WHATEVER THE INPUT: true; the input reads as it did. -/
def apartSpec : ChangeSpec := { name := "apart", fn := fun _ => fun
  | [d1, d2, d3, d4, d5, d6] => { results := [.lit (.bool true)], args := [d1, d2, d3, d4, d5, d6] }
  | _ => none }
def apartRow : OpenClaim := { program := "ythmcheoehcmglaagreat", sum := "864ed77871cdc231fa03b026035afe0ca158434e96665c32d41057b509a0f5a5", func := "wards/wardskeep.Apart", spec := "apart", unfollowed := true, recurses := true, apart := false }
def ApartSaid : Prop := apartRow.holds Tryz.pinned (OpenSpec.ofChange apartSpec)

/-- ITS FALSE NEIGHBOUR: 'it returns false'. Refute it at one input. -/
def apartWrong : ChangeSpec := { name := "apart", fn := fun _ => fun
  | [d1, d2, d3, d4, d5, d6] => { results := [.lit (.bool false)], args := [d1, d2, d3, d4, d5, d6] }
  | _ => none }
def ApartWrongFalsely : Prop := apartRow.holds Tryz.pinned (OpenSpec.ofChange apartWrong)

/-- 'wardslaw.All': WHATEVER THE INPUT: true; the input reads as it did. -/
def allSpec : ChangeSpec := { name := "all", fn := fun _ => fun
  | [d1, d2] => { results := [.lit (.bool true)], args := [d1, d2] }
  | _ => none }
def allRow : OpenClaim := { program := "ythmcheoehcmglaagreat", sum := "864ed77871cdc231fa03b026035afe0ca158434e96665c32d41057b509a0f5a5", func := "wards/wardslaw.All", spec := "all", unfollowed := true, recurses := true, apart := false }
def AllSaid : Prop := allRow.holds Tryz.pinned (OpenSpec.ofChange allSpec)

/-- ITS FALSE NEIGHBOUR: 'it returns false'. Refute it at one input. -/
def allWrong : ChangeSpec := { name := "all", fn := fun _ => fun
  | [d1, d2] => { results := [.lit (.bool false)], args := [d1, d2] }
  | _ => none }
def AllWrongFalsely : Prop := allRow.holds Tryz.pinned (OpenSpec.ofChange allWrong)

/- THE SECOND FORM. 'bulk': how many values and letters a reading holds, each counted each time it is reached (what is shared counts as often as it is met; a slice's spare places count too). A statement '..UptoSaid' is the law's where the arguments, and the package variables that the reading takes, are together of bulk at most 1048576: NARROWER than '..Said'. Prove '..Said' where nothing that the law and all that it calls make is longer than what came in: it says more and counts as full. Else prove '..UptoSaid'. A law counts once. -/
mutual
def uptoBulk {H : Type} : DataW H → Nat
  | .lit (.string bytes) => bytes.length + 1
  | .lit _ => 1
  | .nil => 1
  | .ptr d => uptoBulk d + 1
  | .slice elems spare => uptoBulkAll elems + uptoBulkAll spare + 1
  | .agg parts => uptoBulkAll parts + 1
  | .iface _ d => uptoBulk d + 1
  | .map entries => uptoBulkEntries entries + 1
  | .held _ => 1
def uptoBulkAll {H : Type} : List (DataW H) → Nat
  | [] => 0
  | d :: r => uptoBulk d + uptoBulkAll r
def uptoBulkEntries {H : Type} : List (Lit × DataW H) → Nat
  | [] => 0
  | x :: r => uptoBulkEntry x + uptoBulkEntries r
def uptoBulkEntry {H : Type} : Lit × DataW H → Nat
  | (.string bytes, d) => bytes.length + uptoBulk d + 1
  | (_, d) => uptoBulk d + 1
 end
def uptoSmall : (H : Type) → List (DataW H) → Bool := fun _ ds => decide (uptoBulkAll ds ≤ 1048576)
def OpenSpec.upto (s : _root_.Go.ChangeSpec) : _root_.Go.OpenSpec := { _root_.Go.OpenSpec.ofChange s with cond := some uptoSmall }

/-- 'wardslaw.Deeds', WHERE WHAT IT READS IS OF BULK AT MOST 1048576: true; the input reads as it did. -/
def deedsUptoRow : OpenClaim := { program := "ythmcheoehcmglaagreat", sum := "864ed77871cdc231fa03b026035afe0ca158434e96665c32d41057b509a0f5a5", func := "wards/wardslaw.Deeds", spec := "deeds", unfollowed := true, recurses := true, apart := false, narrowed := true }
def DeedsUptoSaid : Prop := deedsUptoRow.holds Tryz.pinned (OpenSpec.upto deedsSpec)

/-- 'wardskeep.Reckoned', WHERE WHAT IT READS IS OF BULK AT MOST 1048576: true; the input reads as it did. -/
def reckonedUptoRow : OpenClaim := { program := "ythmcheoehcmglaagreat", sum := "864ed77871cdc231fa03b026035afe0ca158434e96665c32d41057b509a0f5a5", func := "wards/wardskeep.Reckoned", spec := "reckoned", unfollowed := true, recurses := true, apart := false, narrowed := true }
def ReckonedUptoSaid : Prop := reckonedUptoRow.holds Tryz.pinned (OpenSpec.upto reckonedSpec)

/-- 'wardslaw.Runs', WHERE WHAT IT READS IS OF BULK AT MOST 1048576: true; the input reads as it did. -/
def runsUptoRow : OpenClaim := { program := "ythmcheoehcmglaagreat", sum := "864ed77871cdc231fa03b026035afe0ca158434e96665c32d41057b509a0f5a5", func := "wards/wardslaw.Runs", spec := "runs", unfollowed := true, recurses := true, apart := false, narrowed := true }
def RunsUptoSaid : Prop := runsUptoRow.holds Tryz.pinned (OpenSpec.upto runsSpec)

/-- 'wardskeep.Saved', WHERE WHAT IT READS IS OF BULK AT MOST 1048576: true; the input reads as it did. -/
def savedUptoRow : OpenClaim := { program := "ythmcheoehcmglaagreat", sum := "864ed77871cdc231fa03b026035afe0ca158434e96665c32d41057b509a0f5a5", func := "wards/wardskeep.Saved", spec := "saved", unfollowed := true, recurses := true, apart := false, narrowed := true }
def SavedUptoSaid : Prop := savedUptoRow.holds Tryz.pinned (OpenSpec.upto savedSpec)

/-- 'wardskeep.Guarded', WHERE WHAT IT READS IS OF BULK AT MOST 1048576: true; the input reads as it did. -/
def guardedUptoRow : OpenClaim := { program := "ythmcheoehcmglaagreat", sum := "864ed77871cdc231fa03b026035afe0ca158434e96665c32d41057b509a0f5a5", func := "wards/wardskeep.Guarded", spec := "guarded", unfollowed := true, recurses := true, apart := false, narrowed := true }
def GuardedUptoSaid : Prop := guardedUptoRow.holds Tryz.pinned (OpenSpec.upto guardedSpec)

/-- 'wardskeep.Told', WHERE WHAT IT READS IS OF BULK AT MOST 1048576: true; the input reads as it did. -/
def toldUptoRow : OpenClaim := { program := "ythmcheoehcmglaagreat", sum := "864ed77871cdc231fa03b026035afe0ca158434e96665c32d41057b509a0f5a5", func := "wards/wardskeep.Told", spec := "told", unfollowed := true, recurses := true, apart := false, narrowed := true }
def ToldUptoSaid : Prop := toldUptoRow.holds Tryz.pinned (OpenSpec.upto toldSpec)

/-- 'wardskeep.Noted', WHERE WHAT IT READS IS OF BULK AT MOST 1048576: true; the input reads as it did. -/
def notedUptoRow : OpenClaim := { program := "ythmcheoehcmglaagreat", sum := "864ed77871cdc231fa03b026035afe0ca158434e96665c32d41057b509a0f5a5", func := "wards/wardskeep.Noted", spec := "noted", unfollowed := true, recurses := true, apart := false, narrowed := true }
def NotedUptoSaid : Prop := notedUptoRow.holds Tryz.pinned (OpenSpec.upto notedSpec)

/-- 'wardskeep.Apart', WHERE WHAT IT READS IS OF BULK AT MOST 1048576: true; the input reads as it did. -/
def apartUptoRow : OpenClaim := { program := "ythmcheoehcmglaagreat", sum := "864ed77871cdc231fa03b026035afe0ca158434e96665c32d41057b509a0f5a5", func := "wards/wardskeep.Apart", spec := "apart", unfollowed := true, recurses := true, apart := false, narrowed := true }
def ApartUptoSaid : Prop := apartUptoRow.holds Tryz.pinned (OpenSpec.upto apartSpec)

/-- 'wardslaw.All', WHERE WHAT IT READS IS OF BULK AT MOST 1048576: true; the input reads as it did. -/
def allUptoRow : OpenClaim := { program := "ythmcheoehcmglaagreat", sum := "864ed77871cdc231fa03b026035afe0ca158434e96665c32d41057b509a0f5a5", func := "wards/wardslaw.All", spec := "all", unfollowed := true, recurses := true, apart := false, narrowed := true }
def AllUptoSaid : Prop := allUptoRow.holds Tryz.pinned (OpenSpec.upto allSpec)

end Rows
end Go.Proofs.YthmcheoehcmglaaGreat
