/- How a ward is: the words, and the cells. -/
import Derived.Test.YthmcheoehcmglaaBase
namespace Go.Proofs.Ythmcheoehcmglaa
open Go.RowKit

/-- How a ward is. -/
structure StV where
  regs : List Int
  place : Int
  status : Int
  cause : Int
  busy : Int
  y : Bool
def StV.Ok (s : StV) : Prop := s.regs.length = 8 ∧ 0 ≤ s.status ∧ s.status < 4294967296 ∧ 0 ≤ s.cause ∧ s.cause < 4294967296 ∧ 0 ≤ s.busy ∧ s.busy < 4294967296
def stCells (s : StV) : List Value := s.regs.map (Value.int .u32) ++ [.int .u32 s.place, .int .i64 s.status, .int .i64 s.cause, .int .i64 s.busy, .bool s.y]
def yWord (b : Bool) : Int := if b then 1 else 0
def stWords (s : StV) : List Int := s.regs ++ [s.place, s.status, s.cause, s.busy, yWord s.y]
def wordCells (l : List Int) : List Value := l.map (Value.int .u32)

theorem st13 (s : StV) (h : s.regs.length = 8) : ∃ r0 r1 r2 r3 r4 r5 r6 r7, s.regs = [r0, r1, r2, r3, r4, r5, r6, r7] := by
  match hs : s.regs, h with
  | [r0, r1, r2, r3, r4, r5, r6, r7], _ => exact ⟨r0, r1, r2, r3, r4, r5, r6, r7, rfl⟩

end Go.Proofs.Ythmcheoehcmglaa
