/- A ward of the statements' images by itself: some instructions. -/
import Derived.Test.YthmcheoehcmglaaGreatK8
namespace Go.Proofs.YthmcheoehcmglaaGreat
open Go.RowKit
set_option linter.unusedVariables false

def rsK (b : Int) : List Reg := [(0, 64, b, 7)]

/-- An instruction of theirs, at a place p. -/
theorem execK (b : Int) (k : Nat) (rg : List Int) (p : Nat) (hp : p < 64) (L : List Int) (dv : List DevV) (code ra rb : Nat) (n : Int) (hn0 : 0 ≤ n) (hn1 : n < 65536) (hra : ra < 8) (hrb : rb < 8) (hcode : code < 18) (cyc f : Nat) (hc : codeL[code]? = some (f, cyc)) (c1 : 1 ≤ cyc)
    (hv : L.getD p 0 = ((code : Int) + 1) * 16777216 + (ra : Int) * 1048576 + (rb : Int) * 65536 + n) (rg' : List Int) (p' : Int) (m' : PS)
    (hw : ∀ ck, workM (opsP (rsK b) k ck) code ra rb n (stAt rg ((p : Int) + 1)) ([L], dv) = (0, stAt rg' p', m')) : Tr (rsK b) k cyc (stAt rg p, ([L], dv)) (stAt rg' p', m') := by
  have hf : readN (rsK b) 4 [L] (p : Int) = some (L.getD p 0) := by
    unfold rsK
    rw [readK b 4 (by omega) L p (by omega), if_pos (by omega)]
    simp
  rw [hv] at hf
  refine exec (rsK b) k rg p ([L], dv) _ code cyc f hf (by omega) hc c1 rg' p' m' ?_
  intro ck
  have e1 : ((((code : Int) + 1) * 16777216 + (ra : Int) * 1048576 + (rb : Int) * 65536 + n) / 1048576 % 8).toNat = ra := by omega
  have e2 : ((((code : Int) + 1) * 16777216 + (ra : Int) * 1048576 + (rb : Int) * 65536 + n) / 65536 % 8).toNat = rb := by omega
  have e3 : (((code : Int) + 1) * 16777216 + (ra : Int) * 1048576 + (rb : Int) * 65536 + n) % 65536 = n := by omega
  have e4 : ((p : Int) + 1) % 4294967296 = (p : Int) + 1 := by omega
  rw [e1, e2, e3, e4]
  exact hw ck

theorem parkK (b : Int) (k : Nat) (rg : List Int) (p : Nat) (hp : p < 64) (L : List Int) (dv : List DevV) (code ra rb : Nat) (n : Int) (hn0 : 0 ≤ n) (hn1 : n < 65536) (hra : ra < 8) (hrb : rb < 8) (hcode : code < 18) (cyc f : Nat) (hc : codeL[code]? = some (f, cyc)) (cz : Int) (hcz : cz ≠ 0) (s' : StV)
    (hv : L.getD p 0 = ((code : Int) + 1) * 16777216 + (ra : Int) * 1048576 + (rb : Int) * 65536 + n)
    (hw : ∀ ck, workM (opsP (rsK b) k ck) code ra rb n (stAt rg ((p : Int) + 1)) ([L], dv) = (cz, s', ([L], dv))) : Tr (rsK b) k 1 (stAt rg p, ([L], dv)) (⟨rg, p, 2, cz, 0, false⟩, ([L], dv)) := by
  have hf : readN (rsK b) 4 [L] (p : Int) = some (L.getD p 0) := by
    unfold rsK
    rw [readK b 4 (by omega) L p (by omega), if_pos (by omega)]
    simp
  rw [hv] at hf
  refine exec_park (rsK b) k rg p ([L], dv) _ code cyc f hf (by omega) hc cz hcz s' ?_
  intro ck
  have e1 : ((((code : Int) + 1) * 16777216 + (ra : Int) * 1048576 + (rb : Int) * 65536 + n) / 1048576 % 8).toNat = ra := by omega
  have e2 : ((((code : Int) + 1) * 16777216 + (ra : Int) * 1048576 + (rb : Int) * 65536 + n) / 65536 % 8).toNat = rb := by omega
  have e3 : (((code : Int) + 1) * 16777216 + (ra : Int) * 1048576 + (rb : Int) * 65536 + n) % 65536 = n := by omega
  have e4 : ((p : Int) + 1) % 4294967296 = (p : Int) + 1 := by omega
  rw [e1, e2, e3, e4]
  exact hw ck

/-- A register's number, made by two instructions. -/
theorem tr_word (b : Int) (k : Nat) (rg : List Int) (hrg : rg.length = 8) (p : Nat) (hp : p + 1 < 64) (L : List Int) (dv : List DevV) (ra : Nat) (hra : ra < 8) (v : Int)
    (h1 : L.getD p 0 = 16777216 + (ra : Int) * 1048576 + v / 65536 % 65536) (h2 : L.getD (p + 1) 0 = 33554432 + (ra : Int) * 1048576 + v % 65536) :
    Tr (rsK b) k 2 (stAt rg p, ([L], dv)) (stAt (rg.set ra (v % 4294967296)) ((p + 2 : Nat) : Int), ([L], dv)) := by
  have t1 : Tr (rsK b) k 1 (stAt rg p, ([L], dv)) (stAt (rg.set ra (v / 65536 % 65536)) ((p + 1 : Nat) : Int), ([L], dv)) := by
    refine execK b k rg p (by omega) L dv 0 ra 0 (v / 65536 % 65536) (by omega) (by omega) hra (by omega) (by omega) 1 _ rfl (by omega) (by rw [h1]; omega) _ _ _ ?_
    intro ck
    rfl
  have t2 : Tr (rsK b) k 1 (stAt (rg.set ra (v / 65536 % 65536)) ((p + 1 : Nat) : Int), ([L], dv)) (stAt (rg.set ra (v % 4294967296)) ((p + 2 : Nat) : Int), ([L], dv)) := by
    refine execK b k _ (p + 1) hp L dv 1 ra 0 (v % 65536) (by omega) (by omega) hra (by omega) (by omega) 1 _ rfl (by omega) (by rw [h2]; omega) _ _ _ ?_
    intro ck
    unfold workM
    dsimp only
    have e : ((stAt (rg.set ra (v / 65536 % 65536)) ((p + 1 : Nat) + 1 : Int)).regs.getD ra 0 * 65536 + v % 65536) % 4294967296 = v % 4294967296 := by
      have : (stAt (rg.set ra (v / 65536 % 65536)) ((p + 1 : Nat) + 1 : Int)).regs.getD ra 0 = v / 65536 % 65536 := by
        show (rg.set ra (v / 65536 % 65536)).getD ra 0 = _
        rw [getD_set_eq, if_pos ⟨rfl, by omega⟩]
      rw [this]
      omega
    rw [e]
    show (0, stAt ((rg.set ra (v / 65536 % 65536)).set ra (v % 4294967296)) ((p + 1 : Nat) + 1 : Int), ([L], dv)) = _
    rw [List.set_set]
    rfl
  exact t1.trans t2

theorem haltK (b : Int) (k : Nat) (rg : List Int) (p : Nat) (hp : p < 64) (L : List Int) (dv : List DevV) (hv : L.getD p 0 = 301989888) : Tr (rsK b) k 1 (stAt rg p, ([L], dv)) (⟨rg, ((p + 1 : Nat) : Int), 1, 0, 0, false⟩, ([L], dv)) := by
  have hf : readN (rsK b) 4 [L] (p : Int) = some 301989888 := by
    unfold rsK
    rw [readK b 4 (by omega) L p (by omega), if_pos (by omega), ← hv]
    simp
  have := exec_halt (rsK b) k rg p ([L], dv) hf
  have e4 : ((p : Int) + 1) % 4294967296 = ((p + 1 : Nat) : Int) := by omega
  rw [e4] at this
  exact this

/-- What a Put of such a ward does. -/
theorem putK (b : Int) (L : List Int) (d : DevV) (a v : Int) (a0 : 0 ≤ a) : putP (rsK b) ([L], [d]) a v = if a < 64 then some ([L.set a.toNat v], [d]) else if a = 32769 then some ([L], [(d.1, d.2 ++ [v])]) else none := by
  unfold putP devI
  simp only [List.length_cons, List.length_nil]
  by_cases h1 : a = 32769
  · subst h1
    rw [if_neg (by omega : ¬ (32769 : Int) < 64), if_pos rfl]
    rfl
  · rw [if_neg (by omega), if_neg h1]
    have hI : regI (rsK b) a = if a < 64 then some 0 else none := by
      unfold regI rsK
      rw [List.findIdx?_cons]
      have : inR (0, 64, b, 7) a = decide (a < 64) := by
        unfold inR
        simp only
        rw [decide_eq_true a0]
        simp
      rw [this]
      by_cases h : a < 64
      · rw [decide_eq_true h, if_pos h]; rfl
      · rw [decide_eq_false h, if_neg h]; rfl
    simp only [hI]
    by_cases h : a < 64
    · rw [if_pos h, if_pos h]
      have : regAt (rsK b) 0 = (0, 64, b, 7) := rfl
      have hh : hasR (0, 64, b, 7) 2 = true := by unfold hasR; simp only; decide
      simp only [this, hh, if_true]
      simp
    · rw [if_neg h, if_neg h]

end Go.Proofs.YthmcheoehcmglaaGreat
/- A cycle of a ward of the net, with wires: one instruction (for Told). -/
namespace Go.Proofs.YthmcheoehcmglaaGreat
open Go.RowKit
set_option linter.unusedVariables false

theorem cyc_exec (x : KX) (k : Nat) (ck : Int) (b : Int) (hr : x.regs.getD k [] = rsK b) (rg : List Int) (p : Nat) (hp : p < 64) (L : List Int) (wi : List (Int × Int)) (devs : List DevV) (code ra rb : Nat) (n : Int) (hn0 : 0 ≤ n) (hn1 : n < 65536) (hra : ra < 8) (hrb : rb < 8) (hcode : code < 18) (cyc f : Nat) (hc : codeL[code]? = some (f, cyc))
    (hv : L.getD p 0 = ((code : Int) + 1) * 16777216 + (ra : Int) * 1048576 + (rb : Int) * 65536 + n) (rg' : List Int) (p' : Int) (m' : NS)
    (hw : workM (opsN x k ck) code ra rb n (stAt rg ((p : Int) + 1)) ([L], wi, devs) = (0, stAt rg' p', m')) :
    cycleM (opsN x k ck) (stAt rg p) ([L], wi, devs) = ({ stAt rg' p' with busy := (cyc : Int) - 1 }, m') := by
  have hf : readN (rsK b) 4 [L] (p : Int) = some (L.getD p 0) := by
    unfold rsK
    rw [readK b 4 (by omega) L p (by omega), if_pos (by omega)]
    simp
  rw [hv, ← hr] at hf
  unfold cycleM
  rw [if_neg (by simp [goes, stAt]), if_neg (by simp [stAt])]
  unfold stepM instrM
  have e0 : (opsN x k ck).fetch ([L], wi, devs) (stAt rg p).place = some (((code : Int) + 1) * 16777216 + (ra : Int) * 1048576 + (rb : Int) * 65536 + n) := hf
  rw [e0]
  simp only
  have e2 : ((((code : Int) + 1) * 16777216 + (ra : Int) * 1048576 + (rb : Int) * 65536 + n) / 16777216).toNat - 1 = code := by omega
  have e1 : ((((code : Int) + 1) * 16777216 + (ra : Int) * 1048576 + (rb : Int) * 65536 + n) / 1048576 % 8).toNat = ra := by omega
  have e3 : ((((code : Int) + 1) * 16777216 + (ra : Int) * 1048576 + (rb : Int) * 65536 + n) / 65536 % 8).toNat = rb := by omega
  have e4 : (((code : Int) + 1) * 16777216 + (ra : Int) * 1048576 + (rb : Int) * 65536 + n) % 65536 = n := by omega
  rw [e2, hc]
  simp only
  have e6 : ¬ ((((code : Int) + 1) * 16777216 + (ra : Int) * 1048576 + (rb : Int) * 65536 + n) / 16777216).toNat = 0 := by omega
  rw [if_neg e6, e1, e3, e4]
  have e5 : ({ stAt rg p with place := ((stAt rg p).place + 1) % 4294967296 } : StV) = stAt rg ((p : Int) + 1) := by
    have : ((p : Int) + 1) % 4294967296 = (p : Int) + 1 := by omega
    show stAt rg (((p : Int) + 1) % 4294967296) = _
    rw [this]
  rw [e5, hw]
  simp [goes, stAt]

theorem cyc_busy (x : KX) (k : Nat) (ck : Int) (rg : List Int) (p : Int) (m : NS) (b : Nat) : cycleM (opsN x k ck) ({ stAt rg p with busy := ((b + 1 : Nat) : Int) }) m = ({ stAt rg p with busy := (b : Int) }, m) := by
  unfold cycleM
  rw [if_neg (by simp [goes, stAt]), if_pos (by simp only; omega)]
  simp

/-- A ward that doesn't go on. -/
theorem cyc_rest (x : KX) (k : Nat) (ck : Int) (s : StV) (m : NS) (h : s.status ≠ 0) : cycleM (opsN x k ck) s m = (s, m) := by
  unfold cycleM
  rw [if_pos (by simp [goes, h])]

end Go.Proofs.YthmcheoehcmglaaGreat
/- wardskeep.Guarded: the wards by themselves. -/
namespace Go.Proofs.YthmcheoehcmglaaGreat
open Go.RowKit
set_option linter.unusedVariables false

/-- The first ward's program: it puts v at an address. -/
def guardA (ad v : Int) : List Int := wordI 1 ad ++ wordI 2 v ++ [237043712, 301989888]
def guardB : List Int := [301989888, 77]
def guardL (q ad v : Int) : List (Int × List Int) := [(q, guardA ad v), (1, guardB)]

theorem keepW_len (ws : List Int) : (keepW ws).length = 64 := by
  unfold keepW
  rw [length_splice _ _ _ (by simp; omega)]
  simp
theorem keepW_get (ws : List Int) (hl : ws.length ≤ 64) (i : Nat) : (keepW ws).getD i 0 = if i < ws.length then ws.getD i 0 % 4294967296 else 0 := by
  unfold keepW
  rw [getD_splice _ _ _ (by simp; omega), List.take_of_length_le hl]
  simp only [Nat.zero_le, true_and, Nat.zero_add, List.length_map, Nat.sub_zero]
  by_cases h : i < ws.length
  · rw [if_pos h, if_pos h, List.getD_eq_getElem?_getD, List.getElem?_map, List.getD_eq_getElem?_getD, List.getElem?_eq_getElem h]
    rfl
  · rw [if_neg h, if_neg h, List.getD_eq_getElem?_getD, List.getElem?_replicate]
    split <;> rfl

theorem work_put {σ : Type} (O : Ops σ) (a b : Nat) (n : Int) (s : StV) (m : σ) : workM O 13 a b n s m = match O.put m ((s.regs.getD b 0 + n) % 4294967296) (s.regs.getD a 0) with
    | some m' => (0, s, m')
    | none => (3, s, m) := rfl
def regs0 : List Int := [0, 0, 0, 0, 0, 0, 0, 0]
theorem st0_at : st0 0 = stAt regs0 ((0 : Nat) : Int) := rfl

/-- What comes of the first ward. -/
def guardEnd (L : List Int) (ad v : Int) : SP :=
  if ad < 64 then (⟨[0, ad, v % 4294967296, 0, 0, 0, 0, 0], 6, 1, 0, 0, false⟩, ([L.set ad.toNat (v % 4294967296)], [zeroD]))
  else if ad = 32769 then (⟨[0, ad, v % 4294967296, 0, 0, 0, 0, 0], 6, 1, 0, 0, false⟩, ([L], [(0, [v % 4294967296])]))
  else (⟨[0, ad, v % 4294967296, 0, 0, 0, 0, 0], 4, 2, 3, 0, false⟩, ([L], [zeroD]))

theorem guard_tr (b : Int) (ad v : Int) (t0 : 0 ≤ ad) (t1 : ad < 4294967296) (h5 : ad ≠ 5) : ∃ m, m ≤ 7 ∧ Tr (rsK b) 0 m (st0 0, ([keepW (guardA ad v)], [zeroD])) (guardEnd (keepW (guardA ad v)) ad v) := by
  have hlen : (guardA ad v).length ≤ 64 := by simp [guardA, wordI]
  have hg : ∀ i, (keepW (guardA ad v)).getD i 0 = if i < 6 then (guardA ad v).getD i 0 % 4294967296 else 0 := fun i => keepW_get _ hlen i
  have g0 : (keepW (guardA ad v)).getD 0 0 = 16777216 + ((1 : Nat) : Int) * 1048576 + ad / 65536 % 65536 := by rw [hg]; simp [guardA, wordI]; omega
  have g1 : (keepW (guardA ad v)).getD 1 0 = 33554432 + ((1 : Nat) : Int) * 1048576 + ad % 65536 := by rw [hg]; simp [guardA, wordI]; omega
  have g2 : (keepW (guardA ad v)).getD 2 0 = 16777216 + ((2 : Nat) : Int) * 1048576 + v / 65536 % 65536 := by rw [hg]; simp [guardA, wordI]; omega
  have g3 : (keepW (guardA ad v)).getD 3 0 = 33554432 + ((2 : Nat) : Int) * 1048576 + v % 65536 := by rw [hg]; simp [guardA, wordI]; omega
  have g4 : (keepW (guardA ad v)).getD 4 0 = 237043712 := by rw [hg]; simp [guardA, wordI]
  have g5 : (keepW (guardA ad v)).getD 5 0 = 301989888 := by rw [hg]; simp [guardA, wordI]
  have hl64 := keepW_len (guardA ad v)
  generalize keepW (guardA ad v) = L at *
  have e1 : ad % 4294967296 = ad := Int.emod_eq_of_lt t0 t1
  have t_1 := tr_word b 0 regs0 rfl 0 (by omega) L [zeroD] 1 (by omega) ad g0 g1
  rw [e1] at t_1
  have t_2 := tr_word b 0 (regs0.set 1 ad) (by simp [regs0]) 2 (by omega) L [zeroD] 2 (by omega) v g2 g3
  have hr : (regs0.set 1 ad).set 2 (v % 4294967296) = [0, ad, v % 4294967296, 0, 0, 0, 0, 0] := rfl
  rw [hr] at t_2
  have t12 := t_1.trans t_2
  have hput : ∀ ck, (opsP (rsK b) 0 ck).put ([L], [zeroD]) ((ad + 0) % 4294967296) (v % 4294967296) = if ad < 64 then some ([L.set ad.toNat (v % 4294967296)], [zeroD]) else if ad = 32769 then some ([L], [(0, [v % 4294967296])]) else none := by
    intro ck
    show putP (rsK b) ([L], [zeroD]) _ _ = _
    rw [show (ad + 0) % 4294967296 = ad by omega, putK b L zeroD ad _ t0]
    rfl
  by_cases h64 : ad < 64
  · unfold guardEnd
    rw [if_pos h64]
    have t3 : Tr (rsK b) 0 2 (stAt [0, ad, v % 4294967296, 0, 0, 0, 0, 0] ((4 : Nat) : Int), ([L], [zeroD])) (stAt [0, ad, v % 4294967296, 0, 0, 0, 0, 0] ((5 : Nat) : Int), ([L.set ad.toNat (v % 4294967296)], [zeroD])) := by
      refine execK b 0 _ 4 (by omega) L [zeroD] 13 2 1 0 (by omega) (by omega) (by omega) (by omega) (by omega) 2 _ rfl (by omega) (by rw [g4]; rfl) _ _ _ ?_
      intro ck
      have := hput ck
      rw [if_pos h64] at this
      rw [work_put]
      have e2 : (opsP (rsK b) 0 ck).put ([L], [zeroD]) (((stAt [0, ad, v % 4294967296, 0, 0, 0, 0, 0] (((4 : Nat) : Int) + 1)).regs.getD 1 0 + 0) % 4294967296) ((stAt [0, ad, v % 4294967296, 0, 0, 0, 0, 0] (((4 : Nat) : Int) + 1)).regs.getD 2 0) = _ := this
      rw [e2]
      rfl
    have t4 := haltK b 0 [0, ad, v % 4294967296, 0, 0, 0, 0, 0] 5 (by omega) (L.set ad.toNat (v % 4294967296)) [zeroD] (by rw [getD_set_eq, if_neg (by omega)]; exact g5)
    exact ⟨2 + 2 + (2 + 1), by omega, t12.trans (t3.trans t4)⟩
  · by_cases hd : ad = 32769
    · unfold guardEnd
      rw [if_neg h64, if_pos hd]
      have t3 : Tr (rsK b) 0 2 (stAt [0, ad, v % 4294967296, 0, 0, 0, 0, 0] ((4 : Nat) : Int), ([L], [zeroD])) (stAt [0, ad, v % 4294967296, 0, 0, 0, 0, 0] ((5 : Nat) : Int), ([L], [(0, [v % 4294967296])])) := by
        refine execK b 0 _ 4 (by omega) L [zeroD] 13 2 1 0 (by omega) (by omega) (by omega) (by omega) (by omega) 2 _ rfl (by omega) (by rw [g4]; rfl) _ _ _ ?_
        intro ck
        have := hput ck
        rw [if_neg h64, if_pos hd] at this
        rw [work_put]
        have e2 : (opsP (rsK b) 0 ck).put ([L], [zeroD]) (((stAt [0, ad, v % 4294967296, 0, 0, 0, 0, 0] (((4 : Nat) : Int) + 1)).regs.getD 1 0 + 0) % 4294967296) ((stAt [0, ad, v % 4294967296, 0, 0, 0, 0, 0] (((4 : Nat) : Int) + 1)).regs.getD 2 0) = _ := this
        rw [e2]
        rfl
      have t4 := haltK b 0 [0, ad, v % 4294967296, 0, 0, 0, 0, 0] 5 (by omega) L [(0, [v % 4294967296])] g5
      exact ⟨2 + 2 + (2 + 1), by omega, t12.trans (t3.trans t4)⟩
    · unfold guardEnd
      rw [if_neg h64, if_neg hd]
      have t3 := parkK b 0 [0, ad, v % 4294967296, 0, 0, 0, 0, 0] 4 (by omega) L [zeroD] 13 2 1 0 (by omega) (by omega) (by omega) (by omega) (by omega) 2 _ rfl 3 (by omega) (stAt [0, ad, v % 4294967296, 0, 0, 0, 0, 0] (((4 : Nat) : Int) + 1)) (by rw [g4]; rfl) (by
        intro ck
        have := hput ck
        rw [if_neg h64, if_neg hd] at this
        rw [work_put]
        have e2 : (opsP (rsK b) 0 ck).put ([L], [zeroD]) (((stAt [0, ad, v % 4294967296, 0, 0, 0, 0, 0] (((4 : Nat) : Int) + 1)).regs.getD 1 0 + 0) % 4294967296) ((stAt [0, ad, v % 4294967296, 0, 0, 0, 0, 0] (((4 : Nat) : Int) + 1)).regs.getD 2 0) = _ := this
        rw [e2])
      exact ⟨2 + 2 + 1, by omega, t12.trans t3⟩

theorem guardB_tr (b : Int) : Tr (rsK b) 1 1 (st0 0, ([keepW guardB], [zeroD])) (⟨regs0, 1, 1, 0, 0, false⟩, ([keepW guardB], [zeroD])) :=
  haltK b 1 regs0 0 (by omega) (keepW guardB) [zeroD] (by rw [keepW_get guardB (by simp [guardB])]; rfl)

/-- The timetable suffices. -/
theorem guard_cnt (gap q ad v : Int) (x : KX) (hx : XOf (keepImg gap (guardL q ad v) 2) x) (hX : KXs x) : 7 ≤ cnt x 0 0 400 ∧ 1 ≤ cnt x 1 0 400 := by
  have hqs := keep_qs gap (guardL q ad v) 2 rfl x hx
  have hg := withinM_bd gap 1 16 (by omega)
  have hq := withinM_bd q 1 64 (by omega)
  have hgap : x.gap = withinM gap 1 16 := hx.gap
  have hq0 : x.qs = [withinM q 1 64, withinM 1 1 64] := hqs
  have h1 : withinM 1 1 64 = 1 := rfl
  rw [h1] at hq0
  obtain ⟨G, hG⟩ := Int.eq_ofNat_of_zero_le (show 0 ≤ withinM gap 1 16 by omega)
  obtain ⟨Q, hQ⟩ := Int.eq_ofNat_of_zero_le (show 0 ≤ withinM q 1 64 by omega)
  rw [hQ] at hq0
  rw [hG] at hgap
  have hR : roundK x = ((Q + G + (1 + G) : Nat) : Int) := by
    unfold roundK
    rw [hq0, hgap]
    simp only [List.length_cons, List.length_nil, accN]
    simp
  have c0 := fun j h => cnt_ge hX 0 (by rw [hq0]; simp) _ hR Q (by rw [hq0]; rfl) j 400 h
  have c1 := fun j h => cnt_ge hX 1 (by rw [hq0]; simp) _ hR 1 (by rw [hq0]; rfl) j 400 h
  refine ⟨?_, ?_⟩
  · by_cases hQ1 : Q = 1
    · have := c0 7 (by omega)
      omega
    · have := c0 4 (by omega)
      omega
  · have := c1 1 (by omega)
    omega

end Go.Proofs.YthmcheoehcmglaaGreat
