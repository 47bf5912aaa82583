/- Told: the three wards, cycle by cycle. -/
import Derived.Test.YthmcheoehcmglaaGreatGuard0
import Derived.Test.YthmcheoehcmglaaGreatGuard1
namespace Go.Proofs.YthmcheoehcmglaaGreat
open Go.RowKit
set_option linter.unusedVariables false

theorem cyc_halt (x : KX) (k : Nat) (ck : Int) (b : Int) (hr : x.regs.getD k [] = rsK b) (rg : List Int) (p : Nat) (hp : p < 64) (L : List Int) (wi : List (Int × Int)) (devs : List DevV) (hv : L.getD p 0 = 301989888) :
    cycleM (opsN x k ck) (stAt rg p) ([L], wi, devs) = (⟨rg, ((p + 1 : Nat) : Int), 1, 0, 0, false⟩, ([L], wi, devs)) := by
  have hf : readN (rsK b) 4 [L] (p : Int) = some 301989888 := by
    unfold rsK
    rw [readK b 4 (by omega) L p (by omega), if_pos (by omega), ← hv]
    simp
  rw [← hr] at hf
  unfold cycleM
  rw [if_neg (by simp [goes, stAt]), if_neg (by simp [stAt])]
  unfold stepM instrM
  have e0 : (opsN x k ck).fetch ([L], wi, devs) (stAt rg p).place = some 301989888 := hf
  rw [e0]
  have e4 : ((p : Int) + 1) % 4294967296 = ((p + 1 : Nat) : Int) := by omega
  rw [← e4]
  rfl

theorem cyc_park (x : KX) (k : Nat) (ck : Int) (b : Int) (hr : x.regs.getD k [] = rsK b) (rg : List Int) (p : Nat) (hp : p < 64) (L : List Int) (wi : List (Int × Int)) (devs : List DevV) (cz : Int) (hcz : cz ≠ 0) (v : Int) (hv : L.getD p 0 = v) (code cyc f : Nat) (hcv : (v / 16777216).toNat = code + 1) (hc : codeL[code]? = some (f, cyc))
    (hw : (workM (opsN x k ck) code (v / 1048576 % 8).toNat (v / 65536 % 8).toNat (v % 65536) (stAt rg ((p : Int) + 1)) ([L], wi, devs)).1 = cz) (hm : (workM (opsN x k ck) code (v / 1048576 % 8).toNat (v / 65536 % 8).toNat (v % 65536) (stAt rg ((p : Int) + 1)) ([L], wi, devs)).2.2 = ([L], wi, devs)) :
    cycleM (opsN x k ck) (stAt rg p) ([L], wi, devs) = (⟨rg, p, 2, cz, 0, false⟩, ([L], wi, devs)) := by
  have hf : readN (rsK b) 4 [L] (p : Int) = some v := by
    unfold rsK
    rw [readK b 4 (by omega) L p (by omega), if_pos (by omega), ← hv]
    simp
  rw [← hr] at hf
  unfold cycleM
  rw [if_neg (by simp [goes, stAt]), if_neg (by simp [stAt])]
  unfold stepM instrM
  have e0 : (opsN x k ck).fetch ([L], wi, devs) (stAt rg p).place = some v := hf
  rw [e0]
  simp only
  have e2 : (v / 16777216).toNat - 1 = code := by omega
  rw [e2, hc]
  simp only
  rw [if_neg (show ¬ (v / 16777216).toNat = 0 by omega)]
  have e5 : ({ stAt rg p with place := ((stAt rg p).place + 1) % 4294967296 } : StV) = stAt rg ((p : Int) + 1) := by
    have : ((p : Int) + 1) % 4294967296 = (p : Int) + 1 := by omega
    show stAt rg (((p : Int) + 1) % 4294967296) = _
    rw [this]
  rw [e5, hw, if_neg hcz, hw, if_neg hcz, hm]
  rfl

/-- The three programs. -/
def toldA (v : Int) : List Int := wordI 2 v ++ [301989891, 301989888]
def toldB : List Int := [301989892, 19922944, 70254592, 271581189, 251658240, 237436968, 301989892, 301989888]
def toldC : List Int := [301989893, 301989888]

/-- The sender behind i cycles of its turns. -/
def toA (v : Int) : Nat → StV
  | 0 => stAt regs0 0
  | 1 => stAt [0, 0, v / 65536 % 65536, 0, 0, 0, 0, 0] 1
  | 2 => stAt [0, 0, v % 4294967296, 0, 0, 0, 0, 0] 2
  | 3 => { stAt [0, 0, v % 4294967296, 0, 0, 0, 0, 0] 3 with busy := ((3 : Nat) : Int) }
  | 4 => { stAt [0, 0, v % 4294967296, 0, 0, 0, 0, 0] 3 with busy := ((2 : Nat) : Int) }
  | 5 => { stAt [0, 0, v % 4294967296, 0, 0, 0, 0, 0] 3 with busy := ((1 : Nat) : Int) }
  | 6 => stAt [0, 0, v % 4294967296, 0, 0, 0, 0, 0] 3
  | _ => ⟨[0, 0, v % 4294967296, 0, 0, 0, 0, 0], 4, 1, 0, 0, false⟩
/-- The third ward. -/
def toC : Nat → StV
  | 0 => stAt regs0 0
  | _ => ⟨regs0, 0, 2, 5, 0, false⟩
def bR (r0 r2 r3 : Int) : List Int := [r0, 0, r2, r3, 0, 0, 0, 0]
/-- The receiver, by how many cycles it still has to go (14: it asks; more: it will ask). -/
def Ph1 (V : Int) (L : List Int) : Nat → StV → List (List Int) → Prop
  | 0, s, ws => s = ⟨bR 1 V 0, 8, 1, 0, 0, false⟩ ∧ ws = [L.set 40 V]
  | 1, s, ws => s = stAt (bR 1 V 0) 7 ∧ ws = [L.set 40 V]
  | 2, s, ws => s = { stAt (bR 1 V 0) 7 with busy := ((1 : Nat) : Int) } ∧ ws = [L.set 40 V]
  | 3, s, ws => s = { stAt (bR 1 V 0) 7 with busy := ((2 : Nat) : Int) } ∧ ws = [L.set 40 V]
  | 4, s, ws => s = { stAt (bR 1 V 0) 7 with busy := ((3 : Nat) : Int) } ∧ ws = [L.set 40 V]
  | 5, s, ws => s = stAt (bR 0 V 0) 6 ∧ ws = [L.set 40 V]
  | 6, s, ws => s = { stAt (bR 0 V 0) 6 with busy := ((1 : Nat) : Int) } ∧ ws = [L.set 40 V]
  | 7, s, ws => s = stAt (bR 0 V 0) 5 ∧ ws = [L]
  | 8, s, ws => s = stAt (bR 0 V 0) 3 ∧ ws = [L]
  | 9, s, ws => s = stAt (bR 0 V 0) 2 ∧ ws = [L]
  | 10, s, ws => ∃ r3, s = stAt (bR 0 V r3) 1 ∧ ws = [L]
  | 11, s, ws => ∃ r3, s = { stAt (bR 0 V r3) 1 with busy := ((1 : Nat) : Int) } ∧ ws = [L]
  | 12, s, ws => ∃ r3, s = { stAt (bR 0 V r3) 1 with busy := ((2 : Nat) : Int) } ∧ ws = [L]
  | 13, s, ws => ∃ r3, s = { stAt (bR 0 V r3) 1 with busy := ((3 : Nat) : Int) } ∧ ws = [L]
  | 14, s, ws => ∃ r0 r3, s = stAt (bR r0 0 r3) 0 ∧ ws = [L]
  | 15, s, ws => s = stAt (bR 1 0 1) 4 ∧ ws = [L]
  | 16, s, ws => s = stAt (bR 1 0 1) 3 ∧ ws = [L]
  | 17, s, ws => s = stAt (bR 1 0 0) 2 ∧ ws = [L]
  | 18, s, ws => ∃ r3, s = stAt (bR 1 0 r3) 1 ∧ ws = [L]
  | 19, s, ws => ∃ r3, s = { stAt (bR 1 0 r3) 1 with busy := ((1 : Nat) : Int) } ∧ ws = [L]
  | 20, s, ws => ∃ r3, s = { stAt (bR 1 0 r3) 1 with busy := ((2 : Nat) : Int) } ∧ ws = [L]
  | 21, s, ws => ∃ r3, s = { stAt (bR 1 0 r3) 1 with busy := ((3 : Nat) : Int) } ∧ ws = [L]
  | _, _, _ => False
def wireF (V : Int) (i r : Nat) : Int × Int := if i < 3 then (0, 0) else if 14 ≤ r then (1, V) else (0, V)
def nxt (i r : Nat) : Nat := if r = 14 ∧ i < 3 then 21 else r - 1

theorem toldB_at (p : Nat) (hp : p < 8) : (keepW toldB).getD p 0 = toldB.getD p 0 := by
  rw [keepW_get toldB (by simp [toldB]), if_pos (by simpa [toldB] using hp)]
  match p, hp with
  | 0, _ => rfl
  | 1, _ => rfl
  | 2, _ => rfl
  | 3, _ => rfl
  | 4, _ => rfl
  | 5, _ => rfl
  | 6, _ => rfl
  | 7, _ => rfl
theorem toldB_at' (V : Int) (p : Nat) (hp : p < 8) : ((keepW toldB).set 40 V).getD p 0 = toldB.getD p 0 := by
  rw [getD_set_eq, if_neg (by omega), toldB_at p hp]
theorem toldC_at : (keepW toldC).getD 0 0 = 301989893 := by
  rw [keepW_get toldC (by simp [toldC]), if_pos (by simp [toldC])]
  rfl
theorem toldA_at0 (v : Int) : (keepW (toldA v)).getD 0 0 = 16777216 + 2 * 1048576 + v / 65536 % 65536 := by
  rw [keepW_get (toldA v) (by simp [toldA, wordI]), if_pos (by simp [toldA, wordI])]
  show (16777216 + 2 * 1048576 + v / 65536 % 65536) % 4294967296 = _
  omega
theorem toldA_at1 (v : Int) : (keepW (toldA v)).getD 1 0 = 33554432 + 2 * 1048576 + v % 65536 := by
  rw [keepW_get (toldA v) (by simp [toldA, wordI]), if_pos (by simp [toldA, wordI])]
  show (33554432 + 2 * 1048576 + v % 65536) % 4294967296 = _
  omega
theorem toldA_at2 (v : Int) : (keepW (toldA v)).getD 2 0 = 301989891 := by
  rw [keepW_get (toldA v) (by simp [toldA, wordI]), if_pos (by simp [toldA, wordI])]
  rfl
theorem toldA_at3 (v : Int) : (keepW (toldA v)).getD 3 0 = 301989888 := by
  rw [keepW_get (toldA v) (by simp [toldA, wordI]), if_pos (by simp [toldA, wordI])]
  rfl

/-- What the three wards share. -/
structure ToldX (x : KX) : Prop where
  r0 : ∃ b, x.regs.getD 0 [] = rsK b
  r1 : ∃ b, x.regs.getD 1 [] = rsK b
  r2 : ∃ b, x.regs.getD 2 [] = rsK b
  w : x.wires = [(0, 1)]
  q : x.qs.length = 3

theorem a_step (x : KX) (h : ToldX x) (v ck : Int) (devs : List DevV) (i r : Nat) (hi : i ≤ 7) (hr : i < 3 → 14 ≤ r) :
    cycleM (opsN x 0 ck) (toA v i) ([keepW (toldA v)], [wireF (v % 4294967296) i r], devs) = (toA v (min (i + 1) 7), ([keepW (toldA v)], [wireF (v % 4294967296) (min (i + 1) 7) r], devs)) := by
  obtain ⟨b, hb⟩ := h.r0
  match i, hi, hr with
  | 0, _, _ => exact cyc_exec x 0 ck b hb regs0 0 (by omega) _ _ devs 0 2 0 (v / 65536 % 65536) (by omega) (by omega) (by omega) (by omega) (by omega) 1 _ rfl (by rw [toldA_at0]; omega) [0, 0, v / 65536 % 65536, 0, 0, 0, 0, 0] 1 ([keepW (toldA v)], [(0, 0)], devs) rfl
  | 1, _, _ =>
    refine cyc_exec x 0 ck b hb [0, 0, v / 65536 % 65536, 0, 0, 0, 0, 0] 1 (by omega) _ _ devs 1 2 0 (v % 65536) (by omega) (by omega) (by omega) (by omega) (by omega) 1 _ rfl (by rw [toldA_at1]; omega) [0, 0, v % 4294967296, 0, 0, 0, 0, 0] 2 ([keepW (toldA v)], [(0, 0)], devs) ?_
    show (0, stAt [0, 0, (v / 65536 % 65536 * 65536 + v % 65536) % 4294967296, 0, 0, 0, 0, 0] 2, ([keepW (toldA v)], [(0, 0)], devs)) = _
    rw [show (v / 65536 % 65536 * 65536 + v % 65536) % 4294967296 = v % 4294967296 by omega]
  | 2, _, hr =>
    have hr' := hr (by omega)
    have e : wireF (v % 4294967296) (min (2 + 1) 7) r = (1, v % 4294967296) := by unfold wireF; rw [if_neg (by omega), if_pos hr']
    rw [e]
    refine cyc_exec x 0 ck b hb [0, 0, v % 4294967296, 0, 0, 0, 0, 0] 2 (by omega) _ _ devs 17 0 0 3 (by omega) (by omega) (by omega) (by omega) (by omega) 4 _ rfl (by rw [toldA_at2]; rfl) [0, 0, v % 4294967296, 0, 0, 0, 0, 0] 3 ([keepW (toldA v)], [(1, v % 4294967296)], devs) ?_
    have hs : sendN x 0 (stAt [0, 0, v % 4294967296, 0, 0, 0, 0, 0] 3) [(0, 0)] = (0, stAt [0, 0, v % 4294967296, 0, 0, 0, 0, 0] 3, [(1, v % 4294967296)]) := by
      unfold sendN wireOf
      rw [h.w]
      rfl
    show ((sendN x 0 (stAt [0, 0, v % 4294967296, 0, 0, 0, 0, 0] 3) [(0, 0)]).1, (sendN x 0 (stAt [0, 0, v % 4294967296, 0, 0, 0, 0, 0] 3) [(0, 0)]).2.1, ([keepW (toldA v)], (sendN x 0 (stAt [0, 0, v % 4294967296, 0, 0, 0, 0, 0] 3) [(0, 0)]).2.2, devs)) = _
    rw [hs]
  | 3, _, _ => exact cyc_busy x 0 ck _ 3 _ 2
  | 4, _, _ => exact cyc_busy x 0 ck _ 3 _ 1
  | 5, _, _ => exact cyc_busy x 0 ck _ 3 _ 0
  | 6, _, _ => exact cyc_halt x 0 ck b hb _ 3 (by omega) _ _ devs (toldA_at3 v)
  | 7, _, _ => exact cyc_rest x 0 ck _ _ (by simp [toA])

theorem c_step (x : KX) (h : ToldX x) (ck : Int) (devs : List DevV) (c : Int × Int) (d : Nat) (hd : d ≤ 1) :
    cycleM (opsN x 2 ck) (toC d) ([keepW toldC], [c], devs) = (toC 1, ([keepW toldC], [c], devs)) := by
  obtain ⟨b, hb⟩ := h.r2
  have hl : lookN x 2 (stAt regs0 1) [c] = (5, stAt regs0 1, [c]) := by
    unfold lookN wireOf
    rw [h.w]
    rfl
  match d, hd with
  | 0, _ =>
    refine cyc_park x 2 ck b hb regs0 0 (by omega) _ _ devs 5 (by omega) 301989893 toldC_at 17 4 _ (by decide) rfl ?_ ?_
    · show (lookN x 2 (stAt regs0 1) [c]).1 = 5
      rw [hl]
    · show ([keepW toldC], (lookN x 2 (stAt regs0 1) [c]).2.2, devs) = _
      rw [hl]
  | 1, _ => exact cyc_rest x 2 ck _ _ (by simp [toC])

theorem put40 (x : KX) (h : ToldX x) (L : List Int) (c : List (Int × Int)) (devs : List DevV) (V : Int) : putN x 1 ([L], c, devs) 40 V = some ([L.set 40 V], c, devs) := by
  obtain ⟨b, hb⟩ := h.r1
  unfold putN
  rw [findDev_I]
  have e : devI (x.dvs.getD 1 []).length 1 40 = none := by unfold devI; rw [if_neg (by omega)]
  have hI : regI (rsK b) 40 = some 0 := by
    unfold regI rsK
    rw [List.findIdx?_cons]
    have : inR (0, 64, b, 7) 40 = true := by simp [inR]
    rw [this]
    rfl
  have hh : hasR (regAt (rsK b) 0) 2 = true := by
    have : regAt (rsK b) 0 = (0, 64, b, 7) := rfl
    rw [this]
    unfold hasR
    simp only
    decide
  rw [e, hb]
  simp only [Option.map_none, hI, hh, if_true]
  rfl

theorem b_step (x : KX) (h : ToldX x) (V : Int) (v0 : 0 ≤ V) (v1 : V < 4294967296) (ck : Int) (devs : List DevV) (i r : Nat) (hr : i < 3 → 14 ≤ r) (hr1 : r ≤ 21) (s : StV) (ws : List (List Int)) (hp : Ph1 V (keepW toldB) r s ws) :
    ∃ s' ws', cycleM (opsN x 1 ck) s (ws, [wireF V i r], devs) = (s', (ws', [wireF V i (nxt i r)], devs)) ∧ Ph1 V (keepW toldB) (nxt i r) s' ws' := by
  obtain ⟨b, hb⟩ := h.r1
  have hw : ∀ r r', (14 ≤ r ↔ 14 ≤ r') → wireF V i r = wireF V i r' := by
    intro r r' h1
    unfold wireF
    by_cases h2 : 14 ≤ r
    · rw [if_pos h2, if_pos (h1.1 h2)]
    · rw [if_neg h2, if_neg (fun h3 => h2 (h1.2 h3))]
  have hrec : ∀ s wv, s.regs.getD 1 0 = 0 → receiveN x 1 s [(0, wv)] = (0, set0 s 1, [(0, wv)]) := by
    intro s wv hs
    unfold receiveN wireOf w1
    rw [h.w, hs]
    rfl
  have hrec1 : ∀ s wv, s.regs.getD 1 0 = 0 → receiveN x 1 s [(1, wv)] = (0, set0 { s with regs := s.regs.set 2 wv } 0, [(0, wv)]) := by
    intro s wv hs
    unfold receiveN wireOf w1
    rw [h.w, hs]
    rfl
  have hn : ∀ r, r ≠ 14 → nxt i r = r - 1 := by intro r h1; unfold nxt; rw [if_neg (fun h2 => h1 h2.1)]
  match r, hr, hr1, hp with
  | 0, hr, _, hp =>
    obtain ⟨rfl, rfl⟩ := hp
    exact ⟨_, _, cyc_rest x 1 ck _ _ (by simp), rfl, rfl⟩
  | 1, hr, _, hp =>
    obtain ⟨rfl, rfl⟩ := hp
    rw [hn 1 (by omega), hw 1 0 (by omega)]
    exact ⟨_, _, cyc_halt x 1 ck b hb _ 7 (by omega) _ _ devs (by rw [toldB_at' V 7 (by omega)]; rfl), rfl, rfl⟩
  | 2, hr, _, hp =>
    obtain ⟨rfl, rfl⟩ := hp
    rw [hn 2 (by omega), hw 2 1 (by omega)]
    exact ⟨_, _, cyc_busy x 1 ck _ 7 _ 0, rfl, rfl⟩
  | 3, hr, _, hp =>
    obtain ⟨rfl, rfl⟩ := hp
    rw [hn 3 (by omega), hw 3 2 (by omega)]
    exact ⟨_, _, cyc_busy x 1 ck _ 7 _ 1, rfl, rfl⟩
  | 4, hr, _, hp =>
    obtain ⟨rfl, rfl⟩ := hp
    rw [hn 4 (by omega), hw 4 3 (by omega)]
    exact ⟨_, _, cyc_busy x 1 ck _ 7 _ 2, rfl, rfl⟩
  | 5, hr, _, hp =>
    obtain ⟨rfl, rfl⟩ := hp
    have hi : ¬ i < 3 := by omega
    rw [hn 5 (by omega), hw 5 4 (by omega)]
    have e : wireF V i 4 = (0, V) := by unfold wireF; rw [if_neg hi, if_neg (by omega)]
    rw [e]
    refine ⟨_, _, cyc_exec x 1 ck b hb (bR 0 V 0) 6 (by omega) _ _ devs 17 0 0 4 (by omega) (by omega) (by omega) (by omega) (by omega) 4 _ rfl (by rw [toldB_at' V 6 (by omega)]; rfl) (bR 1 V 0) 7 ([(keepW toldB).set 40 V], [(0, V)], devs) ?_, rfl, rfl⟩
    show ((receiveN x 1 (stAt (bR 0 V 0) 7) [(0, V)]).1, (receiveN x 1 (stAt (bR 0 V 0) 7) [(0, V)]).2.1, ([(keepW toldB).set 40 V], (receiveN x 1 (stAt (bR 0 V 0) 7) [(0, V)]).2.2, devs)) = _
    rw [hrec _ _ rfl]
    rfl
  | 6, hr, _, hp =>
    obtain ⟨rfl, rfl⟩ := hp
    rw [hn 6 (by omega), hw 6 5 (by omega)]
    exact ⟨_, _, cyc_busy x 1 ck _ 6 _ 0, rfl, rfl⟩
  | 7, hr, _, hp =>
    obtain ⟨rfl, rfl⟩ := hp
    rw [hn 7 (by omega), hw 7 6 (by omega)]
    refine ⟨_, _, cyc_exec x 1 ck b hb (bR 0 V 0) 5 (by omega) _ _ devs 13 2 7 40 (by omega) (by omega) (by omega) (by omega) (by omega) 2 _ rfl (by rw [toldB_at 5 (by omega)]; rfl) (bR 0 V 0) 6 ([(keepW toldB).set 40 V], [wireF V i 6], devs) ?_, rfl, rfl⟩
    have hpp : (opsN x 1 ck).put ([keepW toldB], [wireF V i 6], devs) (((stAt (bR 0 V 0) (((5 : Nat) : Int) + 1)).regs.getD 7 0 + 40) % 4294967296) ((stAt (bR 0 V 0) (((5 : Nat) : Int) + 1)).regs.getD 2 0) = some ([(keepW toldB).set 40 V], [wireF V i 6], devs) := put40 x h _ _ _ _
    unfold workM
    dsimp only
    rw [hpp]
    rfl
  | 8, hr, _, hp =>
    obtain ⟨rfl, rfl⟩ := hp
    rw [hn 8 (by omega), hw 8 7 (by omega)]
    exact ⟨_, _, cyc_exec x 1 ck b hb (bR 0 V 0) 3 (by omega) _ _ devs 15 3 0 5 (by omega) (by omega) (by omega) (by omega) (by omega) 1 _ rfl (by rw [toldB_at 3 (by omega)]; rfl) (bR 0 V 0) 5 ([keepW toldB], [wireF V i 7], devs) rfl, rfl, rfl⟩
  | 9, hr, _, hp =>
    obtain ⟨rfl, rfl⟩ := hp
    rw [hn 9 (by omega), hw 9 8 (by omega)]
    exact ⟨_, _, cyc_exec x 1 ck b hb (bR 0 V 0) 2 (by omega) _ _ devs 3 3 0 0 (by omega) (by omega) (by omega) (by omega) (by omega) 1 _ rfl (by rw [toldB_at 2 (by omega)]; rfl) (bR 0 V 0) 3 ([keepW toldB], [wireF V i 8], devs) rfl, rfl, rfl⟩
  | 10, hr, _, hp =>
    obtain ⟨r3, rfl, rfl⟩ := hp
    rw [hn 10 (by omega), hw 10 9 (by omega)]
    exact ⟨_, _, cyc_exec x 1 ck b hb (bR 0 V r3) 1 (by omega) _ _ devs 0 3 0 0 (by omega) (by omega) (by omega) (by omega) (by omega) 1 _ rfl (by rw [toldB_at 1 (by omega)]; rfl) (bR 0 V 0) 2 ([keepW toldB], [wireF V i 9], devs) rfl, rfl, rfl⟩
  | 11, hr, _, hp =>
    obtain ⟨r3, rfl, rfl⟩ := hp
    rw [hn 11 (by omega), hw 11 10 (by omega)]
    exact ⟨_, _, cyc_busy x 1 ck _ 1 _ 0, r3, rfl, rfl⟩
  | 12, hr, _, hp =>
    obtain ⟨r3, rfl, rfl⟩ := hp
    rw [hn 12 (by omega), hw 12 11 (by omega)]
    exact ⟨_, _, cyc_busy x 1 ck _ 1 _ 1, r3, rfl, rfl⟩
  | 13, hr, _, hp =>
    obtain ⟨r3, rfl, rfl⟩ := hp
    rw [hn 13 (by omega), hw 13 12 (by omega)]
    exact ⟨_, _, cyc_busy x 1 ck _ 1 _ 2, r3, rfl, rfl⟩
  | 14, hr, _, hp =>
    obtain ⟨r0, r3, rfl, rfl⟩ := hp
    by_cases hi : i < 3
    · have e1 : nxt i 14 = 21 := by unfold nxt; rw [if_pos ⟨rfl, hi⟩]
      have e2 : ∀ r, wireF V i r = (0, 0) := by intro r; unfold wireF; rw [if_pos hi]
      rw [e1, e2, e2]
      refine ⟨_, _, cyc_exec x 1 ck b hb (bR r0 0 r3) 0 (by omega) _ _ devs 17 0 0 4 (by omega) (by omega) (by omega) (by omega) (by omega) 4 _ rfl (by rw [toldB_at 0 (by omega)]; rfl) (bR 1 0 r3) 1 ([keepW toldB], [(0, 0)], devs) ?_, r3, rfl, rfl⟩
      show ((receiveN x 1 (stAt (bR r0 0 r3) 1) [(0, 0)]).1, (receiveN x 1 (stAt (bR r0 0 r3) 1) [(0, 0)]).2.1, ([keepW toldB], (receiveN x 1 (stAt (bR r0 0 r3) 1) [(0, 0)]).2.2, devs)) = _
      rw [hrec _ _ rfl]
      rfl
    · have e1 : nxt i 14 = 13 := by unfold nxt; rw [if_neg (fun h2 => hi h2.2)]
      have e2 : wireF V i 14 = (1, V) := by unfold wireF; rw [if_neg hi, if_pos (by omega)]
      have e3 : wireF V i 13 = (0, V) := by unfold wireF; rw [if_neg hi, if_neg (by omega)]
      rw [e1, e2, e3]
      refine ⟨_, _, cyc_exec x 1 ck b hb (bR r0 0 r3) 0 (by omega) _ _ devs 17 0 0 4 (by omega) (by omega) (by omega) (by omega) (by omega) 4 _ rfl (by rw [toldB_at 0 (by omega)]; rfl) (bR 0 V r3) 1 ([keepW toldB], [(0, V)], devs) ?_, r3, rfl, rfl⟩
      show ((receiveN x 1 (stAt (bR r0 0 r3) 1) [(1, V)]).1, (receiveN x 1 (stAt (bR r0 0 r3) 1) [(1, V)]).2.1, ([keepW toldB], (receiveN x 1 (stAt (bR r0 0 r3) 1) [(1, V)]).2.2, devs)) = _
      rw [hrec1 _ _ rfl]
      rfl
  | 15, hr, _, hp =>
    obtain ⟨rfl, rfl⟩ := hp
    rw [hn 15 (by omega), hw 15 14 (by omega)]
    exact ⟨_, _, cyc_exec x 1 ck b hb (bR 1 0 1) 4 (by omega) _ _ devs 14 0 0 0 (by omega) (by omega) (by omega) (by omega) (by omega) 1 _ rfl (by rw [toldB_at 4 (by omega)]; rfl) (bR 1 0 1) 0 ([keepW toldB], [wireF V i 14], devs) rfl, 1, 1, rfl, rfl⟩
  | 16, hr, _, hp =>
    obtain ⟨rfl, rfl⟩ := hp
    rw [hn 16 (by omega), hw 16 15 (by omega)]
    exact ⟨_, _, cyc_exec x 1 ck b hb (bR 1 0 1) 3 (by omega) _ _ devs 15 3 0 5 (by omega) (by omega) (by omega) (by omega) (by omega) 1 _ rfl (by rw [toldB_at 3 (by omega)]; rfl) (bR 1 0 1) 4 ([keepW toldB], [wireF V i 15], devs) rfl, rfl, rfl⟩
  | 17, hr, _, hp =>
    obtain ⟨rfl, rfl⟩ := hp
    rw [hn 17 (by omega), hw 17 16 (by omega)]
    exact ⟨_, _, cyc_exec x 1 ck b hb (bR 1 0 0) 2 (by omega) _ _ devs 3 3 0 0 (by omega) (by omega) (by omega) (by omega) (by omega) 1 _ rfl (by rw [toldB_at 2 (by omega)]; rfl) (bR 1 0 1) 3 ([keepW toldB], [wireF V i 16], devs) rfl, rfl, rfl⟩
  | 18, hr, _, hp =>
    obtain ⟨r3, rfl, rfl⟩ := hp
    rw [hn 18 (by omega), hw 18 17 (by omega)]
    exact ⟨_, _, cyc_exec x 1 ck b hb (bR 1 0 r3) 1 (by omega) _ _ devs 0 3 0 0 (by omega) (by omega) (by omega) (by omega) (by omega) 1 _ rfl (by rw [toldB_at 1 (by omega)]; rfl) (bR 1 0 0) 2 ([keepW toldB], [wireF V i 17], devs) rfl, rfl, rfl⟩
  | 19, hr, _, hp =>
    obtain ⟨r3, rfl, rfl⟩ := hp
    rw [hn 19 (by omega), hw 19 18 (by omega)]
    exact ⟨_, _, cyc_busy x 1 ck _ 1 _ 0, r3, rfl, rfl⟩
  | 20, hr, _, hp =>
    obtain ⟨r3, rfl, rfl⟩ := hp
    rw [hn 20 (by omega), hw 20 19 (by omega)]
    exact ⟨_, _, cyc_busy x 1 ck _ 1 _ 1, r3, rfl, rfl⟩
  | 21, hr, _, hp =>
    obtain ⟨r3, rfl, rfl⟩ := hp
    rw [hn 21 (by omega), hw 21 20 (by omega)]
    exact ⟨_, _, cyc_busy x 1 ck _ 1 _ 2, r3, rfl, rfl⟩

end Go.Proofs.YthmcheoehcmglaaGreat
