/- A ward of the statements' images by itself: some instructions. -/
import Derived.Test.YthmcheoehcmglaaGreatK8
import Derived.Deep.RegionHeld3
namespace Go.Proofs.YthmcheoehcmglaaGreat
open Go.RowKit
set_option linter.unusedVariables false

def rsK (b : Int) : List Reg := [(0, 64, b, 7)]

/-- An instruction of theirs, at a place p. -/
theorem execK (b : Int) (k : Nat) (rg : List Int) (p : Nat) (hp : p < 64) (L : List Int) (dv : List DevV) (code ra rb : Nat) (n : Int) (hn0 : 0 ≤ n) (hn1 : n < 65536) (hra : ra < 8) (hrb : rb < 8) (hcode : code < 18) (cyc f : Nat) (hc : codeL[code]? = some (f, cyc)) (c1 : 1 ≤ cyc)
    (hv : L.getD p 0 = ((code : Int) + 1) * 16777216 + (ra : Int) * 1048576 + (rb : Int) * 65536 + n) (rg' : List Int) (p' : Int) (m' : PS)
    (hw : ∀ ck, workM (opsP (rsK b) k ck) code ra rb n (stAt rg ((p : Int) + 1)) ([L], dv) = (0, stAt rg' p', m')) : Tr (rsK b) k cyc (stAt rg p, ([L], dv)) (stAt rg' p', m') := by
  have hf : readN (rsK b) 4 [L] (p : Int) = some (L.getD p 0) := by
    unfold rsK
    rw [readK b 4 (by omega) L p (by omega), if_pos (by omega)]
    simp
  rw [hv] at hf
  refine exec (rsK b) k rg p ([L], dv) _ code cyc f hf (by omega) hc c1 rg' p' m' ?_
  intro ck
  have e1 : ((((code : Int) + 1) * 16777216 + (ra : Int) * 1048576 + (rb : Int) * 65536 + n) / 1048576 % 8).toNat = ra := by omega
  have e2 : ((((code : Int) + 1) * 16777216 + (ra : Int) * 1048576 + (rb : Int) * 65536 + n) / 65536 % 8).toNat = rb := by omega
  have e3 : (((code : Int) + 1) * 16777216 + (ra : Int) * 1048576 + (rb : Int) * 65536 + n) % 65536 = n := by omega
  have e4 : ((p : Int) + 1) % 4294967296 = (p : Int) + 1 := by omega
  rw [e1, e2, e3, e4]
  exact hw ck

theorem parkK (b : Int) (k : Nat) (rg : List Int) (p : Nat) (hp : p < 64) (L : List Int) (dv : List DevV) (code ra rb : Nat) (n : Int) (hn0 : 0 ≤ n) (hn1 : n < 65536) (hra : ra < 8) (hrb : rb < 8) (hcode : code < 18) (cyc f : Nat) (hc : codeL[code]? = some (f, cyc)) (cz : Int) (hcz : cz ≠ 0) (s' : StV)
    (hv : L.getD p 0 = ((code : Int) + 1) * 16777216 + (ra : Int) * 1048576 + (rb : Int) * 65536 + n)
    (hw : ∀ ck, workM (opsP (rsK b) k ck) code ra rb n (stAt rg ((p : Int) + 1)) ([L], dv) = (cz, s', ([L], dv))) : Tr (rsK b) k 1 (stAt rg p, ([L], dv)) (⟨rg, p, 2, cz, 0, false⟩, ([L], dv)) := by
  have hf : readN (rsK b) 4 [L] (p : Int) = some (L.getD p 0) := by
    unfold rsK
    rw [readK b 4 (by omega) L p (by omega), if_pos (by omega)]
    simp
  rw [hv] at hf
  refine exec_park (rsK b) k rg p ([L], dv) _ code cyc f hf (by omega) hc cz hcz s' ?_
  intro ck
  have e1 : ((((code : Int) + 1) * 16777216 + (ra : Int) * 1048576 + (rb : Int) * 65536 + n) / 1048576 % 8).toNat = ra := by omega
  have e2 : ((((code : Int) + 1) * 16777216 + (ra : Int) * 1048576 + (rb : Int) * 65536 + n) / 65536 % 8).toNat = rb := by omega
  have e3 : (((code : Int) + 1) * 16777216 + (ra : Int) * 1048576 + (rb : Int) * 65536 + n) % 65536 = n := by omega
  have e4 : ((p : Int) + 1) % 4294967296 = (p : Int) + 1 := by omega
  rw [e1, e2, e3, e4]
  exact hw ck

/-- A register's number, made by two instructions. -/
theorem tr_word (b : Int) (k : Nat) (rg : List Int) (hrg : rg.length = 8) (p : Nat) (hp : p + 1 < 64) (L : List Int) (dv : List DevV) (ra : Nat) (hra : ra < 8) (v : Int)
    (h1 : L.getD p 0 = 16777216 + (ra : Int) * 1048576 + v / 65536 % 65536) (h2 : L.getD (p + 1) 0 = 33554432 + (ra : Int) * 1048576 + v % 65536) :
    Tr (rsK b) k 2 (stAt rg p, ([L], dv)) (stAt (rg.set ra (v % 4294967296)) ((p + 2 : Nat) : Int), ([L], dv)) := by
  have t1 : Tr (rsK b) k 1 (stAt rg p, ([L], dv)) (stAt (rg.set ra (v / 65536 % 65536)) ((p + 1 : Nat) : Int), ([L], dv)) := by
    refine execK b k rg p (by omega) L dv 0 ra 0 (v / 65536 % 65536) (by omega) (by omega) hra (by omega) (by omega) 1 _ rfl (by omega) (by rw [h1]; omega) _ _ _ ?_
    intro ck
    rfl
  have t2 : Tr (rsK b) k 1 (stAt (rg.set ra (v / 65536 % 65536)) ((p + 1 : Nat) : Int), ([L], dv)) (stAt (rg.set ra (v % 4294967296)) ((p + 2 : Nat) : Int), ([L], dv)) := by
    refine execK b k _ (p + 1) hp L dv 1 ra 0 (v % 65536) (by omega) (by omega) hra (by omega) (by omega) 1 _ rfl (by omega) (by rw [h2]; omega) _ _ _ ?_
    intro ck
    unfold workM
    dsimp only
    have e : ((stAt (rg.set ra (v / 65536 % 65536)) ((p + 1 : Nat) + 1 : Int)).regs.getD ra 0 * 65536 + v % 65536) % 4294967296 = v % 4294967296 := by
      have : (stAt (rg.set ra (v / 65536 % 65536)) ((p + 1 : Nat) + 1 : Int)).regs.getD ra 0 = v / 65536 % 65536 := by
        show (rg.set ra (v / 65536 % 65536)).getD ra 0 = _
        rw [getD_set_eq, if_pos ⟨rfl, by omega⟩]
      rw [this]
      omega
    rw [e]
    show (0, stAt ((rg.set ra (v / 65536 % 65536)).set ra (v % 4294967296)) ((p + 1 : Nat) + 1 : Int), ([L], dv)) = _
    rw [List.set_set]
    rfl
  exact t1.trans t2

theorem haltK (b : Int) (k : Nat) (rg : List Int) (p : Nat) (hp : p < 64) (L : List Int) (dv : List DevV) (hv : L.getD p 0 = 301989888) : Tr (rsK b) k 1 (stAt rg p, ([L], dv)) (⟨rg, ((p + 1 : Nat) : Int), 1, 0, 0, false⟩, ([L], dv)) := by
  have hf : readN (rsK b) 4 [L] (p : Int) = some 301989888 := by
    unfold rsK
    rw [readK b 4 (by omega) L p (by omega), if_pos (by omega), ← hv]
    simp
  have := exec_halt (rsK b) k rg p ([L], dv) hf
  have e4 : ((p : Int) + 1) % 4294967296 = ((p + 1 : Nat) : Int) := by omega
  rw [e4] at this
  exact this

/-- What a Put of such a ward does. -/
theorem putK (b : Int) (L : List Int) (d : DevV) (a v : Int) (a0 : 0 ≤ a) : putP (rsK b) ([L], [d]) a v = if a < 64 then some ([L.set a.toNat v], [d]) else if a = 32769 then some ([L], [(d.1, d.2 ++ [v])]) else none := by
  unfold putP devI
  simp only [List.length_cons, List.length_nil]
  by_cases h1 : a = 32769
  · subst h1
    rw [if_neg (by omega : ¬ (32769 : Int) < 64), if_pos rfl]
    rfl
  · rw [if_neg (by omega), if_neg h1]
    have hI : regI (rsK b) a = if a < 64 then some 0 else none := by
      unfold regI rsK
      rw [List.findIdx?_cons]
      have : inR (0, 64, b, 7) a = decide (a < 64) := by
        unfold inR
        simp only
        rw [decide_eq_true a0]
        simp
      rw [this]
      by_cases h : a < 64
      · rw [decide_eq_true h, if_pos h]; rfl
      · rw [decide_eq_false h, if_neg h]; rfl
    simp only [hI]
    by_cases h : a < 64
    · rw [if_pos h, if_pos h]
      have : regAt (rsK b) 0 = (0, 64, b, 7) := rfl
      have hh : hasR (0, 64, b, 7) 2 = true := by unfold hasR; simp only; decide
      simp only [this, hh, if_true]
      simp
    · rw [if_neg h, if_neg h]

end Go.Proofs.YthmcheoehcmglaaGreat
/- wardskeep.Guarded: the wards by themselves. -/
namespace Go.Proofs.YthmcheoehcmglaaGreat
open Go.RowKit
set_option linter.unusedVariables false

/-- The first ward's program: it puts v at an address. -/
def guardA (ad v : Int) : List Int := wordI 1 ad ++ wordI 2 v ++ [237043712, 301989888]
def guardB : List Int := [301989888, 77]
def guardL (q ad v : Int) : List (Int × List Int) := [(q, guardA ad v), (1, guardB)]

theorem keepW_len (ws : List Int) : (keepW ws).length = 64 := by
  unfold keepW
  rw [length_splice _ _ _ (by simp; omega)]
  simp
theorem keepW_get (ws : List Int) (hl : ws.length ≤ 64) (i : Nat) : (keepW ws).getD i 0 = if i < ws.length then ws.getD i 0 % 4294967296 else 0 := by
  unfold keepW
  rw [getD_splice _ _ _ (by simp; omega), List.take_of_length_le hl]
  simp only [Nat.zero_le, true_and, Nat.zero_add, List.length_map, Nat.sub_zero]
  by_cases h : i < ws.length
  · rw [if_pos h, if_pos h, List.getD_eq_getElem?_getD, List.getElem?_map, List.getD_eq_getElem?_getD, List.getElem?_eq_getElem h]
    rfl
  · rw [if_neg h, if_neg h, List.getD_eq_getElem?_getD, List.getElem?_replicate]
    split <;> rfl

theorem work_put {σ : Type} (O : Ops σ) (a b : Nat) (n : Int) (s : StV) (m : σ) : workM O 13 a b n s m = match O.put m ((s.regs.getD b 0 + n) % 4294967296) (s.regs.getD a 0) with
    | some m' => (0, s, m')
    | none => (3, s, m) := rfl
def regs0 : List Int := [0, 0, 0, 0, 0, 0, 0, 0]
theorem st0_at : st0 0 = stAt regs0 ((0 : Nat) : Int) := rfl

/-- What comes of the first ward. -/
def guardEnd (L : List Int) (ad v : Int) : SP :=
  if ad < 64 then (⟨[0, ad, v % 4294967296, 0, 0, 0, 0, 0], 6, 1, 0, 0, false⟩, ([L.set ad.toNat (v % 4294967296)], [zeroD]))
  else if ad = 32769 then (⟨[0, ad, v % 4294967296, 0, 0, 0, 0, 0], 6, 1, 0, 0, false⟩, ([L], [(0, [v % 4294967296])]))
  else (⟨[0, ad, v % 4294967296, 0, 0, 0, 0, 0], 4, 2, 3, 0, false⟩, ([L], [zeroD]))

theorem guard_tr (b : Int) (ad v : Int) (t0 : 0 ≤ ad) (t1 : ad < 4294967296) (h5 : ad ≠ 5) : ∃ m, m ≤ 7 ∧ Tr (rsK b) 0 m (st0 0, ([keepW (guardA ad v)], [zeroD])) (guardEnd (keepW (guardA ad v)) ad v) := by
  have hlen : (guardA ad v).length ≤ 64 := by simp [guardA, wordI]
  have hg : ∀ i, (keepW (guardA ad v)).getD i 0 = if i < 6 then (guardA ad v).getD i 0 % 4294967296 else 0 := fun i => keepW_get _ hlen i
  have g0 : (keepW (guardA ad v)).getD 0 0 = 16777216 + ((1 : Nat) : Int) * 1048576 + ad / 65536 % 65536 := by rw [hg]; simp [guardA, wordI]; omega
  have g1 : (keepW (guardA ad v)).getD 1 0 = 33554432 + ((1 : Nat) : Int) * 1048576 + ad % 65536 := by rw [hg]; simp [guardA, wordI]; omega
  have g2 : (keepW (guardA ad v)).getD 2 0 = 16777216 + ((2 : Nat) : Int) * 1048576 + v / 65536 % 65536 := by rw [hg]; simp [guardA, wordI]; omega
  have g3 : (keepW (guardA ad v)).getD 3 0 = 33554432 + ((2 : Nat) : Int) * 1048576 + v % 65536 := by rw [hg]; simp [guardA, wordI]; omega
  have g4 : (keepW (guardA ad v)).getD 4 0 = 237043712 := by rw [hg]; simp [guardA, wordI]
  have g5 : (keepW (guardA ad v)).getD 5 0 = 301989888 := by rw [hg]; simp [guardA, wordI]
  have hl64 := keepW_len (guardA ad v)
  generalize keepW (guardA ad v) = L at *
  have e1 : ad % 4294967296 = ad := Int.emod_eq_of_lt t0 t1
  have t_1 := tr_word b 0 regs0 rfl 0 (by omega) L [zeroD] 1 (by omega) ad g0 g1
  rw [e1] at t_1
  have t_2 := tr_word b 0 (regs0.set 1 ad) (by simp [regs0]) 2 (by omega) L [zeroD] 2 (by omega) v g2 g3
  have hr : (regs0.set 1 ad).set 2 (v % 4294967296) = [0, ad, v % 4294967296, 0, 0, 0, 0, 0] := rfl
  rw [hr] at t_2
  have t12 := t_1.trans t_2
  have hput : ∀ ck, (opsP (rsK b) 0 ck).put ([L], [zeroD]) ((ad + 0) % 4294967296) (v % 4294967296) = if ad < 64 then some ([L.set ad.toNat (v % 4294967296)], [zeroD]) else if ad = 32769 then some ([L], [(0, [v % 4294967296])]) else none := by
    intro ck
    show putP (rsK b) ([L], [zeroD]) _ _ = _
    rw [show (ad + 0) % 4294967296 = ad by omega, putK b L zeroD ad _ t0]
    rfl
  by_cases h64 : ad < 64
  · unfold guardEnd
    rw [if_pos h64]
    have t3 : Tr (rsK b) 0 2 (stAt [0, ad, v % 4294967296, 0, 0, 0, 0, 0] ((4 : Nat) : Int), ([L], [zeroD])) (stAt [0, ad, v % 4294967296, 0, 0, 0, 0, 0] ((5 : Nat) : Int), ([L.set ad.toNat (v % 4294967296)], [zeroD])) := by
      refine execK b 0 _ 4 (by omega) L [zeroD] 13 2 1 0 (by omega) (by omega) (by omega) (by omega) (by omega) 2 _ rfl (by omega) (by rw [g4]; rfl) _ _ _ ?_
      intro ck
      have := hput ck
      rw [if_pos h64] at this
      rw [work_put]
      have e2 : (opsP (rsK b) 0 ck).put ([L], [zeroD]) (((stAt [0, ad, v % 4294967296, 0, 0, 0, 0, 0] (((4 : Nat) : Int) + 1)).regs.getD 1 0 + 0) % 4294967296) ((stAt [0, ad, v % 4294967296, 0, 0, 0, 0, 0] (((4 : Nat) : Int) + 1)).regs.getD 2 0) = _ := this
      rw [e2]
      rfl
    have t4 := haltK b 0 [0, ad, v % 4294967296, 0, 0, 0, 0, 0] 5 (by omega) (L.set ad.toNat (v % 4294967296)) [zeroD] (by rw [getD_set_eq, if_neg (by omega)]; exact g5)
    exact ⟨2 + 2 + (2 + 1), by omega, t12.trans (t3.trans t4)⟩
  · by_cases hd : ad = 32769
    · unfold guardEnd
      rw [if_neg h64, if_pos hd]
      have t3 : Tr (rsK b) 0 2 (stAt [0, ad, v % 4294967296, 0, 0, 0, 0, 0] ((4 : Nat) : Int), ([L], [zeroD])) (stAt [0, ad, v % 4294967296, 0, 0, 0, 0, 0] ((5 : Nat) : Int), ([L], [(0, [v % 4294967296])])) := by
        refine execK b 0 _ 4 (by omega) L [zeroD] 13 2 1 0 (by omega) (by omega) (by omega) (by omega) (by omega) 2 _ rfl (by omega) (by rw [g4]; rfl) _ _ _ ?_
        intro ck
        have := hput ck
        rw [if_neg h64, if_pos hd] at this
        rw [work_put]
        have e2 : (opsP (rsK b) 0 ck).put ([L], [zeroD]) (((stAt [0, ad, v % 4294967296, 0, 0, 0, 0, 0] (((4 : Nat) : Int) + 1)).regs.getD 1 0 + 0) % 4294967296) ((stAt [0, ad, v % 4294967296, 0, 0, 0, 0, 0] (((4 : Nat) : Int) + 1)).regs.getD 2 0) = _ := this
        rw [e2]
        rfl
      have t4 := haltK b 0 [0, ad, v % 4294967296, 0, 0, 0, 0, 0] 5 (by omega) L [(0, [v % 4294967296])] g5
      exact ⟨2 + 2 + (2 + 1), by omega, t12.trans (t3.trans t4)⟩
    · unfold guardEnd
      rw [if_neg h64, if_neg hd]
      have t3 := parkK b 0 [0, ad, v % 4294967296, 0, 0, 0, 0, 0] 4 (by omega) L [zeroD] 13 2 1 0 (by omega) (by omega) (by omega) (by omega) (by omega) 2 _ rfl 3 (by omega) (stAt [0, ad, v % 4294967296, 0, 0, 0, 0, 0] (((4 : Nat) : Int) + 1)) (by rw [g4]; rfl) (by
        intro ck
        have := hput ck
        rw [if_neg h64, if_neg hd] at this
        rw [work_put]
        have e2 : (opsP (rsK b) 0 ck).put ([L], [zeroD]) (((stAt [0, ad, v % 4294967296, 0, 0, 0, 0, 0] (((4 : Nat) : Int) + 1)).regs.getD 1 0 + 0) % 4294967296) ((stAt [0, ad, v % 4294967296, 0, 0, 0, 0, 0] (((4 : Nat) : Int) + 1)).regs.getD 2 0) = _ := this
        rw [e2])
      exact ⟨2 + 2 + 1, by omega, t12.trans t3⟩

theorem guardB_tr (b : Int) : Tr (rsK b) 1 1 (st0 0, ([keepW guardB], [zeroD])) (⟨regs0, 1, 1, 0, 0, false⟩, ([keepW guardB], [zeroD])) :=
  haltK b 1 regs0 0 (by omega) (keepW guardB) [zeroD] (by rw [keepW_get guardB (by simp [guardB])]; rfl)

/-- The timetable suffices. -/
theorem guard_cnt (gap q ad v : Int) (x : KX) (hx : XOf (keepImg gap (guardL q ad v) 2) x) (hX : KXs x) : 7 ≤ cnt x 0 0 400 ∧ 1 ≤ cnt x 1 0 400 := by
  have hqs := keep_qs gap (guardL q ad v) 2 rfl x hx
  have hg := withinM_bd gap 1 16 (by omega)
  have hq := withinM_bd q 1 64 (by omega)
  have hgap : x.gap = withinM gap 1 16 := hx.gap
  have hq0 : x.qs = [withinM q 1 64, withinM 1 1 64] := hqs
  have h1 : withinM 1 1 64 = 1 := rfl
  rw [h1] at hq0
  obtain ⟨G, hG⟩ := Int.eq_ofNat_of_zero_le (show 0 ≤ withinM gap 1 16 by omega)
  obtain ⟨Q, hQ⟩ := Int.eq_ofNat_of_zero_le (show 0 ≤ withinM q 1 64 by omega)
  rw [hQ] at hq0
  rw [hG] at hgap
  have hR : roundK x = ((Q + G + (1 + G) : Nat) : Int) := by
    unfold roundK
    rw [hq0, hgap]
    simp only [List.length_cons, List.length_nil, accN]
    simp
  have c0 := fun j h => cnt_ge hX 0 (by rw [hq0]; simp) _ hR Q (by rw [hq0]; rfl) j 400 h
  have c1 := fun j h => cnt_ge hX 1 (by rw [hq0]; simp) _ hR 1 (by rw [hq0]; rfl) j 400 h
  refine ⟨?_, ?_⟩
  · by_cases hQ1 : Q = 1
    · have := c0 7 (by omega)
      omega
    · have := c0 4 (by omega)
      omega
  · have := c1 1 (by omega)
    omega

end Go.Proofs.YthmcheoehcmglaaGreat
/- wardskeep.Reckoned: the ward by itself. -/
namespace Go.Proofs.YthmcheoehcmglaaGreat
open Go.RowKit
set_option linter.unusedVariables false

def reckC : List Nat := [3, 4, 5, 7, 8, 9, 10, 11]
/-- The three instructions for the operation i. -/
def reckT (i : Nat) : List Int := [50397184, ((reckC.getD i 0 : Nat) : Int) * 16777216 + 16908288, 235339824 + (i : Int)]
def reckP (a b : Int) : Nat → List Int
  | 0 => wordI 1 a ++ wordI 2 b
  | i + 1 => reckP a b i ++ reckT i
def reckL (a b : Int) : List Int := reckP a b 8 ++ [50397184, 117571584, 235339839, 301989888]
def reckV (a b : Int) : List Int := [(a + b) % 4294967296, (a - b) % 4294967296, a * b % 4294967296, ((a.toNat &&& b.toNat : Nat) : Int), ((a.toNat ||| b.toNat : Nat) : Int), ((a.toNat ^^^ b.toNat : Nat) : Int), a * 2 ^ (b % 32).toNat % 4294967296, a / 2 ^ (b % 32).toNat]

/-- After j operations. -/
def ReckAt (base : Int) (L : List Int) (a b : Int) (j : Nat) : Prop := ∃ (m : Nat) (z : Int) (L' : List Int), m ≤ 4 + 6 * j ∧ Tr (rsK base) 0 m (st0 0, ([L], [zeroD])) (stAt [z, a, b, 0, 0, 0, 0, 0] ((4 + 3 * j : Nat) : Int), ([L'], [zeroD])) ∧ L'.length = 64 ∧ (∀ p, p < 48 → L'.getD p 0 = L.getD p 0) ∧ ∀ i, i < j → L'.getD (48 + i) 0 = (reckV a b).getD i 0

theorem putR (base : Int) (z a b : Int) (p : Nat) (hp : p < 64) (q : Nat) (hq : q < 64) (L : List Int) (hv : L.getD p 0 = 235339776 + (q : Int)) : Tr (rsK base) 0 2 (stAt [z, a, b, 0, 0, 0, 0, 0] (p : Int), ([L], [zeroD])) (stAt [z, a, b, 0, 0, 0, 0, 0] ((p + 1 : Nat) : Int), ([L.set q z], [zeroD])) := by
  refine execK base 0 _ p hp L [zeroD] 13 0 7 q (by omega) (by omega) (by omega) (by omega) (by omega) 2 _ rfl (by omega) (by rw [hv]; omega) _ _ _ ?_
  intro ck
  rw [work_put]
  have e2 : (opsP (rsK base) 0 ck).put ([L], [zeroD]) (((stAt [z, a, b, 0, 0, 0, 0, 0] ((p : Int) + 1)).regs.getD 7 0 + (q : Int)) % 4294967296) ((stAt [z, a, b, 0, 0, 0, 0, 0] ((p : Int) + 1)).regs.getD 0 0) = some ([L.set q z], [zeroD]) := by
    show putP (rsK base) ([L], [zeroD]) ((0 + (q : Int)) % 4294967296) z = _
    rw [show (0 + (q : Int)) % 4294967296 = (q : Int) by omega, putK base L zeroD q z (by omega), if_pos (by omega)]
    simp
  rw [e2]
  rfl

theorem moveR (base : Int) (z a b : Int) (p : Nat) (hp : p < 64) (L : List Int) (hv : L.getD p 0 = 50397184) : Tr (rsK base) 0 1 (stAt [z, a, b, 0, 0, 0, 0, 0] (p : Int), ([L], [zeroD])) (stAt [a, a, b, 0, 0, 0, 0, 0] ((p + 1 : Nat) : Int), ([L], [zeroD])) :=
  execK base 0 _ p hp L [zeroD] 2 0 1 0 (by omega) (by omega) (by omega) (by omega) (by omega) 1 _ rfl (by omega) (by rw [hv]; rfl) _ _ _ (fun ck => rfl)

theorem reck_next (base : Int) (L : List Int) (a b : Int) (j : Nat) (hj : j < 8) (code cyc f : Nat) (hc : codeL[code]? = some (f, cyc)) (c1 : 1 ≤ cyc) (c3 : cyc ≤ 3) (h18 : code < 18)
    (hw : ∀ ck (p : Int) (m : PS), workM (opsP (rsK base) 0 ck) code 0 2 0 (stAt [a, a, b, 0, 0, 0, 0, 0] p) m = (0, stAt [(reckV a b).getD j 0, a, b, 0, 0, 0, 0, 0] p, m))
    (h1 : L.getD (4 + 3 * j) 0 = 50397184) (h2 : L.getD (4 + 3 * j + 1) 0 = ((code : Int) + 1) * 16777216 + 131072) (h3 : L.getD (4 + 3 * j + 2) 0 = 235339824 + (j : Int)) (h : ReckAt base L a b j) : ReckAt base L a b (j + 1) := by
  obtain ⟨m, z, L', hm, ht, hl, ho, hr⟩ := h
  have t1 := moveR base z a b (4 + 3 * j) (by omega) L' (by rw [ho _ (by omega), h1])
  have t2 : Tr (rsK base) 0 cyc (stAt [a, a, b, 0, 0, 0, 0, 0] ((4 + 3 * j + 1 : Nat) : Int), ([L'], [zeroD])) (stAt [(reckV a b).getD j 0, a, b, 0, 0, 0, 0, 0] ((4 + 3 * j + 1 + 1 : Nat) : Int), ([L'], [zeroD])) :=
    execK base 0 _ (4 + 3 * j + 1) (by omega) L' [zeroD] code 0 2 0 (by omega) (by omega) (by omega) (by omega) h18 cyc f hc c1 (by rw [ho _ (by omega), h2]; omega) _ _ _ (fun ck => hw ck _ _)
  have t3 := putR base ((reckV a b).getD j 0) a b (4 + 3 * j + 1 + 1) (by omega) (48 + j) (by omega) L' (by rw [show 4 + 3 * j + 1 + 1 = 4 + 3 * j + 2 from rfl, ho _ (by omega), h3]; omega)
  refine ⟨m + (1 + (cyc + 2)), (reckV a b).getD j 0, L'.set (48 + j) ((reckV a b).getD j 0), by omega, ?_, by simp [hl], ?_, ?_⟩
  · have := ht.trans (t1.trans (t2.trans t3))
    rw [show 4 + 3 * (j + 1) = 4 + 3 * j + 1 + 1 + 1 by omega]
    exact this
  · intro p hp
    rw [getD_set_eq, if_neg (by omega)]
    exact ho p hp
  · intro i hi
    rw [getD_set_eq]
    by_cases hij : i = j
    · subst hij
      rw [if_pos ⟨rfl, by omega⟩]
    · rw [if_neg (by omega)]
      exact hr i (by omega)

theorem reckP_len (a b : Int) : ∀ i, (reckP a b i).length = 4 + 3 * i
  | 0 => rfl
  | i + 1 => by
    simp only [reckP, List.length_append, reckP_len a b i, reckT, List.length_cons, List.length_nil]
    omega

/-- What came of the ward. -/
def ReckEnd (a b : Int) (s : StV) (ws : List (List Int)) : Prop := ∃ L', ws = [L'] ∧ L'.length = 64 ∧ (∀ i, i < 8 → L'.getD (48 + i) 0 = (reckV a b).getD i 0) ∧ (b = 0 → s.status = 2 ∧ s.cause = 2) ∧ (b ≠ 0 → s.status = 1 ∧ L'.getD 63 0 = a / b)

theorem reck_tr (base a b : Int) (a0 : 0 ≤ a) (a1 : a < 4294967296) (b0 : 0 ≤ b) (b1 : b < 4294967296) : ∃ m e, m ≤ 64 ∧ Tr (rsK base) 0 m (st0 0, ([keepW (reckL a b)], [zeroD])) e ∧ e.1.status ≠ 0 ∧ e.1.y = false ∧ ReckEnd a b e.1 e.2.1 := by
  have hlen : (reckL a b).length ≤ 64 := by simp [reckL, reckP_len]
  have hl32 : (reckL a b).length = 32 := by simp [reckL, reckP_len]
  have hg : ∀ i, (keepW (reckL a b)).getD i 0 = if i < 32 then (reckL a b).getD i 0 % 4294967296 else 0 := fun i => by rw [keepW_get _ hlen i, hl32]
  have hl64 := keepW_len (reckL a b)
  have w1 : (reckL a b).getD 0 0 = 16777216 + 1 * 1048576 + a / 65536 % 65536 := rfl
  have w2 : (reckL a b).getD 1 0 = 33554432 + 1 * 1048576 + a % 65536 := rfl
  have w3 : (reckL a b).getD 2 0 = 16777216 + 2 * 1048576 + b / 65536 % 65536 := rfl
  have w4 : (reckL a b).getD 3 0 = 33554432 + 2 * 1048576 + b % 65536 := rfl
  have g0 : (keepW (reckL a b)).getD 0 0 = 16777216 + ((1 : Nat) : Int) * 1048576 + a / 65536 % 65536 := by rw [hg, if_pos (by omega), w1]; omega
  have g1 : (keepW (reckL a b)).getD 1 0 = 33554432 + ((1 : Nat) : Int) * 1048576 + a % 65536 := by rw [hg, if_pos (by omega), w2]; omega
  have g2 : (keepW (reckL a b)).getD 2 0 = 16777216 + ((2 : Nat) : Int) * 1048576 + b / 65536 % 65536 := by rw [hg, if_pos (by omega), w3]; omega
  have g3 : (keepW (reckL a b)).getD 3 0 = 33554432 + ((2 : Nat) : Int) * 1048576 + b % 65536 := by rw [hg, if_pos (by omega), w4]; omega
  have gl : ∀ i, 4 ≤ i → i < 32 → (keepW (reckL a b)).getD i 0 = (reckL 0 0).getD i 0 := by
    intro i h4 h32
    rw [hg, if_pos h32]
    have : ∀ n, n < 28 → (reckL a b).getD (4 + n) 0 % 4294967296 = (reckL 0 0).getD (4 + n) 0 := by
      intro n hn
      match n, hn with
      | 0, _ | 1, _ | 2, _ | 3, _ | 4, _ | 5, _ | 6, _ | 7, _ | 8, _ | 9, _ | 10, _ | 11, _ | 12, _ | 13, _ | 14, _ | 15, _ | 16, _ | 17, _ | 18, _ | 19, _ | 20, _ | 21, _ | 22, _ | 23, _ | 24, _ | 25, _ | 26, _ | 27, _ => rfl
      | n + 28, h => omega
    have := this (i - 4) (by omega)
    rw [show 4 + (i - 4) = i by omega] at this
    exact this
  generalize keepW (reckL a b) = L at *
  have e1 : a % 4294967296 = a := Int.emod_eq_of_lt a0 a1
  have e2 : b % 4294967296 = b := Int.emod_eq_of_lt b0 b1
  have t_1 := tr_word base 0 regs0 rfl 0 (by omega) L [zeroD] 1 (by omega) a g0 g1
  rw [e1] at t_1
  have t_2 := tr_word base 0 (regs0.set 1 a) (by simp [regs0]) 2 (by omega) L [zeroD] 2 (by omega) b g2 g3
  have hr : (regs0.set 1 a).set 2 (b % 4294967296) = [0, a, b, 0, 0, 0, 0, 0] := by rw [e2]; rfl
  rw [hr] at t_2
  have h0 : ReckAt base L a b 0 := ⟨4, 0, L, by omega, t_1.trans t_2, hl64, fun _ _ => rfl, fun i hi => absurd hi (by omega)⟩
  have h1 := reck_next base L a b 0 (by omega) 3 1 _ rfl (by omega) (by omega) (by omega) (fun ck p m => rfl) (by rw [gl _ (by omega) (by omega)]; rfl) (by rw [gl _ (by omega) (by omega)]; rfl) (by rw [gl _ (by omega) (by omega)]; rfl) h0
  have h2 := reck_next base L a b 1 (by omega) 4 1 _ rfl (by omega) (by omega) (by omega) (fun ck p m => rfl) (by rw [gl _ (by omega) (by omega)]; rfl) (by rw [gl _ (by omega) (by omega)]; rfl) (by rw [gl _ (by omega) (by omega)]; rfl) h1
  have h3 := reck_next base L a b 2 (by omega) 5 3 _ rfl (by omega) (by omega) (by omega) (fun ck p m => rfl) (by rw [gl _ (by omega) (by omega)]; rfl) (by rw [gl _ (by omega) (by omega)]; rfl) (by rw [gl _ (by omega) (by omega)]; rfl) h2
  have h4 := reck_next base L a b 3 (by omega) 7 1 _ rfl (by omega) (by omega) (by omega) (fun ck p m => rfl) (by rw [gl _ (by omega) (by omega)]; rfl) (by rw [gl _ (by omega) (by omega)]; rfl) (by rw [gl _ (by omega) (by omega)]; rfl) h3
  have h5 := reck_next base L a b 4 (by omega) 8 1 _ rfl (by omega) (by omega) (by omega) (fun ck p m => rfl) (by rw [gl _ (by omega) (by omega)]; rfl) (by rw [gl _ (by omega) (by omega)]; rfl) (by rw [gl _ (by omega) (by omega)]; rfl) h4
  have h6 := reck_next base L a b 5 (by omega) 9 1 _ rfl (by omega) (by omega) (by omega) (fun ck p m => rfl) (by rw [gl _ (by omega) (by omega)]; rfl) (by rw [gl _ (by omega) (by omega)]; rfl) (by rw [gl _ (by omega) (by omega)]; rfl) h5
  have h7 := reck_next base L a b 6 (by omega) 10 1 _ rfl (by omega) (by omega) (by omega) (fun ck p m => rfl) (by rw [gl _ (by omega) (by omega)]; rfl) (by rw [gl _ (by omega) (by omega)]; rfl) (by rw [gl _ (by omega) (by omega)]; rfl) h6
  have h8 := reck_next base L a b 7 (by omega) 11 1 _ rfl (by omega) (by omega) (by omega) (fun ck p m => rfl) (by rw [gl _ (by omega) (by omega)]; rfl) (by rw [gl _ (by omega) (by omega)]; rfl) (by rw [gl _ (by omega) (by omega)]; rfl) h7
  clear h0 h1 h2 h3 h4 h5 h6 h7
  obtain ⟨m, z, L', hm, ht, hl, ho, hr8⟩ := h8
  have k0 : L'.getD 28 0 = 50397184 := by rw [ho _ (by omega), gl _ (by omega) (by omega)]; rfl
  have k1 : L'.getD 29 0 = 117571584 := by rw [ho _ (by omega), gl _ (by omega) (by omega)]; rfl
  have k2 : L'.getD 30 0 = 235339839 := by rw [ho _ (by omega), gl _ (by omega) (by omega)]; rfl
  have k3 : L'.getD 31 0 = 301989888 := by rw [ho _ (by omega), gl _ (by omega) (by omega)]; rfl
  have tm := moveR base z a b 28 (by omega) L' k0
  by_cases hb : b = 0
  · have tp := parkK base 0 [a, a, b, 0, 0, 0, 0, 0] 29 (by omega) L' [zeroD] 6 0 2 0 (by omega) (by omega) (by omega) (by omega) (by omega) 5 _ rfl 2 (by omega) (stAt [a, a, b, 0, 0, 0, 0, 0] (((29 : Nat) : Int) + 1)) (by rw [k1]; rfl) (by
      intro ck
      show (if b = 0 then ((2 : Int), stAt [a, a, b, 0, 0, 0, 0, 0] (((29 : Nat) : Int) + 1), (([L'], [zeroD]) : PS)) else _) = _
      rw [if_pos hb])
    exact ⟨m + (1 + 1), _, by omega, ht.trans (tm.trans tp), by simp, rfl, L', rfl, hl, hr8, fun _ => ⟨rfl, rfl⟩, fun h => absurd hb h⟩
  · have td : Tr (rsK base) 0 5 (stAt [a, a, b, 0, 0, 0, 0, 0] ((29 : Nat) : Int), ([L'], [zeroD])) (stAt [a / b, a, b, 0, 0, 0, 0, 0] ((30 : Nat) : Int), ([L'], [zeroD])) := by
      refine execK base 0 _ 29 (by omega) L' [zeroD] 6 0 2 0 (by omega) (by omega) (by omega) (by omega) (by omega) 5 _ rfl (by omega) (by rw [k1]; rfl) _ _ _ ?_
      intro ck
      show (if b = 0 then _ else ((0 : Int), stAt [a / b, a, b, 0, 0, 0, 0, 0] (((29 : Nat) : Int) + 1), (([L'], [zeroD]) : PS))) = _
      rw [if_neg hb]
      rfl
    have tq := putR base (a / b) a b 30 (by omega) 63 (by omega) L' (by rw [k2]; rfl)
    have th := haltK base 0 [a / b, a, b, 0, 0, 0, 0, 0] 31 (by omega) (L'.set 63 (a / b)) [zeroD] (by rw [getD_set_eq, if_neg (by omega)]; exact k3)
    refine ⟨m + (1 + (5 + (2 + 1))), _, by omega, ht.trans (tm.trans (td.trans (tq.trans th))), by simp, rfl, L'.set 63 (a / b), rfl, by simp [hl], ?_, fun h => absurd h hb, fun _ => ⟨rfl, ?_⟩⟩
    · intro i hi
      rw [getD_set_eq, if_neg (by omega)]
      exact hr8 i hi
    · rw [getD_set_eq, if_pos ⟨rfl, by omega⟩]

def reckW (a b : Int) : List (Int × List Int) := [(64, reckL a b)]

/-- The timetable suffices. -/
theorem reck_cnt (a b : Int) (x : KX) (hx : XOf (keepImg 1 (reckW a b) 1) x) (hX : KXs x) : 64 ≤ cnt x 0 0 300 := by
  have hqs := keep_qs 1 (reckW a b) 1 rfl x hx
  have hgap : x.gap = 1 := hx.gap
  have hq0 : x.qs = [64] := hqs
  have hR : roundK x = ((65 : Nat) : Int) := by
    unfold roundK
    rw [hq0, hgap]
    rfl
  have := cnt_ge hX 0 (by rw [hq0]; simp) 65 hR 64 (by rw [hq0]; rfl) 1 300 (by omega)
  omega

theorem reck_out (a b : Int) (a0 : 0 ≤ a) (a1 : a < 4294967296) (b0 : 0 ≤ b) (b1 : b < 4294967296) (x : KX) (hx : XOf (keepImg 1 (reckW a b) 1) x) (hX : KXs x) :
    ReckEnd a b ((iterN x 300 (bootN (keepImg 1 (reckW a b) 1))).wn.getD 0 zeroWN).now ((iterN x 300 (bootN (keepImg 1 (reckW a b) 1))).wn.getD 0 zeroWN).ws := by
  have hxd := keep_xd 1 (reckW a b) 1 (by omega) (by omega) x hx
  have hrl := keep_len 1 (reckW a b) 1 x hx
  have hnet := keep_net 1 (reckW a b) 1 x hx
  have hc := reck_cnt a b x hx hX
  have p0 := priv_iter x hX hxd 0 (by omega) _ hnet 300
  rw [keep_priv 1 (reckW a b) 1 (by omega) (by omega) x hx 0 (by omega)] at p0
  have r0 : x.regs.getD 0 [] = rsK _ := keep_regs 1 (reckW a b) 1 x hx 0 (by omega)
  have hck : (bootN (keepImg 1 (reckW a b) 1)).ck = 0 := rfl
  rw [hck] at p0
  obtain ⟨m, e, hm, t0, hs, hy, hE⟩ := reck_tr (16 + 16 * ((1 : Nat) : Int) + 64 * ((0 : Nat) : Int)) a b a0 a1 b0 b1
  rw [← r0] at t0
  have f0 := eq_spOf (trace_rest x 0 t0 hs hy 300 0 ⟨st0 0, st0 0, [keepW (reckL a b)], [zeroD]⟩ rfl (by omega))
  have hp0 : iterP x 0 0 300 ⟨st0 0, st0 0, [keepW (reckL a b)], [zeroD]⟩ = privOf x 0 (iterN x 300 (bootN (keepImg 1 (reckW a b) 1))) := p0.symm
  rw [hp0] at f0
  have g1 : ((iterN x 300 (bootN (keepImg 1 (reckW a b) 1))).wn.getD 0 zeroWN).now = e.1 := f0.1
  have g2 : ((iterN x 300 (bootN (keepImg 1 (reckW a b) 1))).wn.getD 0 zeroWN).ws = e.2.1 := f0.2.1
  rw [g1, g2]
  exact hE

end Go.Proofs.YthmcheoehcmglaaGreat
/- wardskeep.Reckoned, walked. -/
namespace Go.Proofs.YthmcheoehcmglaaGreat
open Go.RowKit
set_option linter.unusedVariables false
attribute [local go_sem ↓] Go.wp_at_zero Go.wp_at_succ

/-- append of m elements that lie in a block of their own, at a plain region's list. -/
theorem wpList_appR {P : Program} {w : World} {ops : Array Oper} {rest : List Oper} {o : Oper} {a : Act} {Q : Exit → Act → World → Prop} {t e : TypeId} {bytes : Nat} (T : SlT P t e 1 bytes)
    (hgd : o.guard = none) (s x : Operand) (ho : o.op = .call { callee := .builtin .append, args := #[s, x], argTypes := #[t, t] })
    (base : Nat) (v : Value) (n : Nat) (xs : List Value) (hs : a.eval s = v) (hown : w.ownsRow base e 1 v n xs)
    (B m : Nat) (cs : Array Value) (e' : TypeId) (hx : a.eval x = .slice (some ⟨B, 0, none⟩) m m) (hB : w.heap[B]? = some (.cells cs e' (0, 0))) (hl : cs.size = m) (hm : 0 < m) (h1 : ∀ u ∈ cs.toList, u.oneCell' = true)
    (hn : n + m ≤ 1073741824) (hby : bytes ≤ 4096) (hbase : base ≤ w.heap.size)
    (h : ∀ g cap w', w'.ownsRow base e 1 (.slice (some ⟨g, 0, none⟩) (n + m) cap) (n + m) (xs ++ cs.toList) → Fr (fun i => v.ownBlock = some i) w w' → (v.ownBlock = some g ∨ g = w.heap.size) → wpList P ops Q rest (a.put o.dst (.slice (some ⟨g, 0, none⟩) (n + m) cap)) w') :
    wpList P ops Q (o :: rest) a w := by
  obtain ⟨i, z, hi, hz, hsz, hb, hzs⟩ := T.info
  have hmul : (n + m) * bytes ≤ 1073741824 * 4096 := Nat.mul_le_mul hn hby
  exact wpList_append_lies w hgd s x t ho base e i z 1 bytes T.ht hi hz hsz hb hzs T.pos v n xs hs hown ⟨B, 0, none⟩ m m cs.toList hx (by simp [hl]) (World.news_of_block hB) h1
    hm (by unfold maxLen; omega) (by omega) hbase w.heap.size rfl
    (fun g cap w' h2 h3 h4 h5 => h g cap w' h2 ⟨h3.os, h3.tape, h3.output, h3.size, fun k hk hn => h3.block k hk (fun e => hn e.symm)⟩ h4)
/-- The same as a step of a region that draws its order. -/
theorem step_appR {P : Program} {w : World} {ops : Array Oper} {o : Oper} {a : Act} {K : Act → World → Prop} {Q : Exit → Act → World → Prop} {E : Prop} {t e : TypeId} {bytes : Nat} (T : SlT P t e 1 bytes)
    (hgd : o.guard = none) (s x : Operand) (ho : o.op = .call { callee := .builtin .append, args := #[s, x], argTypes := #[t, t] })
    (base : Nat) (v : Value) (n : Nat) (xs : List Value) (hs : a.eval s = v) (hown : w.ownsRow base e 1 v n xs)
    (B m : Nat) (cs : Array Value) (e' : TypeId) (hx : a.eval x = .slice (some ⟨B, 0, none⟩) m m) (hB : w.heap[B]? = some (.cells cs e' (0, 0))) (hl : cs.size = m) (hm : 0 < m) (h1 : ∀ u ∈ cs.toList, u.oneCell' = true)
    (hn : n + m ≤ 1073741824) (hby : bytes ≤ 4096) (hbase : base ≤ w.heap.size)
    (h : ∀ g cap w', w'.ownsRow base e 1 (.slice (some ⟨g, 0, none⟩) (n + m) cap) (n + m) (xs ++ cs.toList) → Fr (fun i => v.ownBlock = some i) w w' → (v.ownBlock = some g ∨ g = w.heap.size) → K (a.put o.dst (.slice (some ⟨g, 0, none⟩) (n + m) cap)) w') :
    if Region.wanted o (yielded ops a.tmps) = true then Oper.wp P o a w K Q else E := by
  obtain ⟨i, z, hi, hz, hsz, hb, hzs⟩ := T.info
  have hmul : (n + m) * bytes ≤ 1073741824 * 4096 := Nat.mul_le_mul hn hby
  exact step_append_lies w hgd s x t ho base e i z 1 bytes T.ht hi hz hsz hb hzs T.pos v n xs hs hown ⟨B, 0, none⟩ m m cs.toList hx (by simp [hl]) (World.news_of_block hB) h1
    hm (by unfold maxLen; omega) (by omega) hbase w.heap.size rfl
    (fun g cap w' h2 h3 h4 h5 => h g cap w' h2 ⟨h3.os, h3.tape, h3.output, h3.size, fun k hk hn => h3.block k hk (fun e => hn e.symm)⟩ h4)

theorem owns_litR {w : World} {base g n : Nat} {e : TypeId} {cs : Array Value} (hb : base ≤ g) (hg : w.heap[g]? = some (.cells cs e (0, 0))) (hn : cs.size = n) (hm : n ≤ maxLen) : w.ownsRow base e 1 (.slice (some ⟨g, 0, none⟩) n n) n cs.toList :=
  ⟨by simp [hn], .inr ⟨g, n, cs, rfl, hb, hg, Nat.le_refl _, hm, by omega, by rw [List.take_of_length_le (by simp [hn])]⟩⟩

theorem list3_eq {x x' y y' z z' : Int} (h1 : x = x') (h2 : y = y') (h3 : z = z') : [x, y, z] = [x', y', z'] := by rw [h1, h2, h3]

/-- An instruction's number. -/
def codeV (c a b n : Int) : Int := c * 16777216 + a * 1048576 + b * 65536 + n
theorem code_v (c a b n : Int) (w : World) (h : 0 ≤ c ∧ c < 256 ∧ 0 ≤ a ∧ a < 16 ∧ 0 ≤ b ∧ b < 16 ∧ 0 ≤ n ∧ n < 65536) :
    Calls Tryz.prog 18 #[.int .i64 c, .int .i64 a, .int .i64 b, .int .i64 n] w fun e w' => e = .returned (.int .i64 (codeV c a b n)) ∧ w' = w :=
  code_any c a b n w h.1 h.2.1 h.2.2.1 h.2.2.2.1 h.2.2.2.2.1 h.2.2.2.2.2.1 h.2.2.2.2.2.2.1 h.2.2.2.2.2.2.2

/-- The table of codes and the table of what is wanted. -/
def reckCs : Array Value := #[.int .i64 4, .int .i64 5, .int .i64 6, .int .i64 8, .int .i64 9, .int .i64 10, .int .i64 11, .int .i64 12]
def reckVs (a b : Int) : Array Value := ((reckV a b).map (Value.int .u32)).toArray
/-- The loop over the codes, after i of them. -/
structure ReckIn (w : World) (a b : Int) (S6 S7 : Nat) (v : Value) (i : Nat) (wr : World) : Prop where
  o : wr.ownsRow w.heap.size 3 1 v (4 + 3 * i) ((reckP a b i).map (Value.int .i64))
  s6 : wr.heap[S6]? = some (.cells reckCs 3 (0, 0))
  s7 : wr.heap[S7]? = some (.cells (reckVs a b) 33 (0, 0))
  f : Fr (fun _ => False) w wr
  n6 : v.ownBlock ≠ some S6
  n7 : v.ownBlock ≠ some S7

theorem ReckIn.step {w : World} {a b : Int} {S6 S7 : Nat} {v : Value} {k : Nat} {wr w7 : World} (h : ReckIn w a b S6 S7 v k wr) {o : Obj} {gg cap : Nat} {x y z : Int} (ht : reckT k = [x, y, z])
    (hown : w7.ownsRow w.heap.size 3 1 (.slice (some ⟨gg, 0, none⟩) (4 + 3 * k + 3) cap) (4 + 3 * k + 3) ((reckP a b k).map (Value.int .i64) ++ #[Value.int .i64 x, .int .i64 y, .int .i64 z].toList))
    (hf : Fr (fun i => v.ownBlock = some i) (wr.drew.alloc o) w7) (hat : v.ownBlock = some gg ∨ gg = (wr.drew.alloc o).heap.size) : ReckIn w a b S6 S7 (.slice (some ⟨gg, 0, none⟩) (4 + 3 * k + 3) cap) (k + 1) w7 := by
  have hs6 := lt_of_get h.s6
  have hs7 := lt_of_get h.s7
  have hsz : (wr.drew.alloc o).heap.size = wr.heap.size + 1 := by simp
  have g6 : (wr.drew.alloc o).heap[S6]? = _ := get_alloc (w := wr.drew) h.s6 o
  have g7 : (wr.drew.alloc o).heap[S7]? = _ := get_alloc (w := wr.drew) h.s7 o
  refine ⟨?_, hf.get g6 h.n6, hf.get g7 h.n7, ((h.f.drew).alloc o).step hf (fun i hi => .inr ((h.o.lt i hi).1)), ?_, ?_⟩
  · have e : reckP a b (k + 1) = reckP a b k ++ reckT k := rfl
    rw [e, ht, List.map_append]
    rw [show 4 + 3 * (k + 1) = 4 + 3 * k + 3 by omega]
    exact hown
  · simp only [Value.ownBlock]
    intro e
    rcases hat with h1 | h1
    · exact h.n6 (h1.trans e)
    · simp only [Option.some.injEq] at e; omega
  · simp only [Value.ownBlock]
    intro e
    rcases hat with h1 | h1
    · exact h.n7 (h1.trans e)
    · simp only [Option.some.injEq] at e; omega

/-- One ward in a slice. -/
theorem wds_one {w : World} {B : Nat} {q0 : Int} {v0 : Value} {l0 : List Int} (hB : w.heap[B]? = some (.cells #[.int .i64 q0, v0] 41 (0, 0))) (h0 : IntsAt w v0 l0) (hq0 : I64 q0) (hl0 : ∀ x ∈ l0, I64 x) : WdsAt w B 0 1 1 [(q0, l0)] := by
  refine ⟨rfl, ?_, ?_⟩
  · intro k q ws hk
    match k, hk with
    | 0, hk =>
      simp only [List.getElem?_cons_zero, Option.some.injEq, Prod.mk.injEq] at hk
      obtain ⟨rfl, rfl⟩ := hk
      exact ⟨row_cell hB 0, v0, row_cell hB 1, h0⟩
  · intro q ws hm
    simp only [List.mem_cons, Prod.mk.injEq, List.not_mem_nil, or_false] at hm
    obtain ⟨rfl, rfl⟩ := hm
    exact ⟨hq0, hl0⟩

theorem reckP_i64 (a b : Int) : ∀ i, i ≤ 8 → ∀ z ∈ reckP a b i, I64 z
  | 0 => by
    intro _ z hz
    simp only [reckP, wordI, List.cons_append, List.nil_append, List.mem_cons, List.not_mem_nil, or_false] at hz
    unfold I64
    rcases hz with rfl | rfl | rfl | rfl <;> omega
  | i + 1 => by
    intro hi z hz
    simp only [reckP, List.mem_append] at hz
    rcases hz with hz | hz
    · exact reckP_i64 a b i (by omega) z hz
    · simp only [reckT, List.mem_cons, List.not_mem_nil, or_false] at hz
      have hc : reckC.getD i 0 ≤ 11 := by
        rcases (show i = 0 ∨ i = 1 ∨ i = 2 ∨ i = 3 ∨ i = 4 ∨ i = 5 ∨ i = 6 ∨ i = 7 by omega) with rfl | rfl | rfl | rfl | rfl | rfl | rfl | rfl <;> decide
      unfold I64
      rcases hz with rfl | rfl | rfl <;> omega
theorem reckL_i64 (a b : Int) : ∀ z ∈ reckL a b, I64 z := by
  intro z hz
  unfold reckL at hz
  rw [List.mem_append] at hz
  rcases hz with hz | hz
  · exact reckP_i64 a b 8 (by omega) z hz
  · simp only [List.mem_cons, List.not_mem_nil, or_false] at hz
    unfold I64
    rcases hz with rfl | rfl | rfl | rfl <;> omega
theorem reckL_cells (a b : Int) : (reckL a b).map (Value.int .i64) = (reckP a b 8).map (Value.int .i64) ++ #[Value.int .i64 (codeV 3 0 1 0), .int .i64 (codeV 7 0 2 0), .int .i64 (codeV 14 0 7 63), .int .i64 (codeV 18 0 0 0)].toList := by
  unfold reckL
  rw [List.map_append]
  rfl

set_option maxRecDepth 100000 in
set_option maxHeartbeats 4000000 in
theorem reckoned_any (w : World) (a b : Int) (a0 : 0 ≤ a) (a1 : a < 4294967296) (b0 : 0 ≤ b) (b1 : b < 4294967296) :
    Calls Tryz.prog 4 #[.int .u32 a, .int .u32 b] w fun e w' => e = .returned (.bool true) ∧ Fr (fun _ => False) w w' := by
  have hai : I64 a := by unfold I64; omega
  have hbi : I64 b := by unfold I64; omega
  have HW1 := hid (fun w1 => kword_any w1 1 a (by omega) (by omega) hai)
  have HW2 := hid (fun w1 => kword_any w1 2 b (by omega) (by omega) hbi)
  have HP0 : Hid (reckP a b 0 = [16777216 + 1 * 1048576 + a / 65536 % 65536, 33554432 + 1 * 1048576 + a % 65536, 16777216 + 2 * 1048576 + b / 65536 % 65536, 33554432 + 2 * 1048576 + b % 65536]) := rfl
  generalize 16777216 + 1 * 1048576 + a / 65536 % 65536 = A1 at *
  generalize 33554432 + 1 * 1048576 + a % 65536 = A2 at *
  generalize 16777216 + 2 * 1048576 + b / 65536 % 65536 = B1 at *
  generalize 33554432 + 2 * 1048576 + b % 65536 = B2 at *
  have hand := u32_and a b a0 a1 b0 b1
  have hor := u32_or a b a0 a1 b0 b1
  have hxor := u32_xor a b a0 a1 b0 b1
  have HVS : Hid (reckVs a b = #[.int .u32 ((a + b) % 4294967296), .int .u32 ((a - b) % 4294967296), .int .u32 (a * b % 4294967296), .int .u32 ((a.toNat &&& b.toNat : Nat) : Int), .int .u32 ((a.toNat ||| b.toNat : Nat) : Int), .int .u32 ((a.toNat ^^^ b.toNat : Nat) : Int), .int .u32 (a * 2 ^ (b % 32).toNat % 4294967296), .int .u32 (a / 2 ^ (b % 32).toNat)]) := rfl
  go_enter Tryz.func4, Tryz.ntmps4
  go_wp2_with fail
  refine (HW1.out _).mono ?_
  rintro e w2 ⟨rfl, rfl⟩
  go_wp2_with fail
  refine (HW2.out _).mono ?_
  rintro e w3 ⟨rfl, rfl⟩
  have HBA : Hid (((w.alloc (.cells #[.int .i64 A1, .int .i64 A2] 3)).alloc (.cells #[.int .i64 B1, .int .i64 B2] 3)).heap[w.heap.size]? = some (.cells #[.int .i64 A1, .int .i64 A2] 3 (0, 0))) := get_alloc (heap_alloc_new w _) _
  have HBB : Hid (((w.alloc (.cells #[.int .i64 A1, .int .i64 A2] 3)).alloc (.cells #[.int .i64 B1, .int .i64 B2] 3)).heap[(w.alloc (.cells #[.int .i64 A1, .int .i64 A2] 3)).heap.size]? = some (.cells #[.int .i64 B1, .int .i64 B2] 3 (0, 0))) := heap_alloc_new _ _
  have HF2 : Hid (Fr (fun _ => False) w ((w.alloc (.cells #[.int .i64 A1, .int .i64 A2] 3)).alloc (.cells #[.int .i64 B1, .int .i64 B2] 3))) := ((Fr.refl _ w).alloc _).alloc _
  generalize (w.alloc (.cells #[.int .i64 A1, .int .i64 A2] 3)).alloc (.cells #[.int .i64 B1, .int .i64 B2] 3) = wb at *
  generalize (w.alloc (.cells #[.int .i64 A1, .int .i64 A2] 3)).heap.size = b2 at *
  have HO1 : Hid (wb.ownsRow w.heap.size 3 1 (.slice (some ⟨w.heap.size, 0, none⟩) 2 2) 2 [.int .i64 A1, .int .i64 A2]) := owns_litR (Nat.le_refl _) HBA.out rfl (by unfold maxLen; omega)
  go_wp2_with (first
    | (refine wpList_appR slInt (by rfl) _ _ (by rfl) w.heap.size (.slice (some ⟨w.heap.size, 0, none⟩) 2 2) 2 _ (by rfl) HO1.out b2 2 #[.int .i64 B1, .int .i64 B2] _ (by rfl) HBB.out rfl (by omega) (by simp [Value.oneCell']) (by omega) (by decide) HF2.out.size ?_; intro g4 c4 w4 hown4 hf4 hat4; have HO4 := hid hown4; have HF4 := hid (HF2.out.step hf4 (fun i hi => .inr (HO1.out.lt i hi).1)); clear hown4 hf4 hat4))
  have HRI : Hid (ReckIn w a b w4.heap.size (w4.heap.size + 1) (.slice (some ⟨g4, 0, none⟩) 4 c4) 0 ((w4.alloc (.cells reckCs 3)).alloc (.cells (reckVs a b) 33))) := by
    have hlt := (HO4.out.lt g4 rfl).2
    refine ⟨?_, heap_alloc_oldT w4 _ _, ?_, (HF4.out.alloc _).alloc _, ?_, ?_⟩
    · rw [HP0.out]
      exact (HO4.out.alloc _).alloc _
    · have := heap_alloc_new (w4.alloc (.cells reckCs 3)) (.cells (reckVs a b) 33)
      simpa using this
    · simp only [Value.ownBlock, ne_eq, Option.some.injEq]; omega
    · simp only [Value.ownBlock, ne_eq, Option.some.injEq]; omega
  rw [HVS.out] at HRI
  unfold reckCs at HRI
  generalize (w4.alloc (.cells #[.int .i64 4, .int .i64 5, .int .i64 6, .int .i64 8, .int .i64 9, .int .i64 10, .int .i64 11, .int .i64 12] 3)).alloc (.cells #[.int .u32 ((a + b) % 4294967296), .int .u32 ((a - b) % 4294967296), .int .u32 (a * b % 4294967296), .int .u32 ((a.toNat &&& b.toNat : Nat) : Int), .int .u32 ((a.toNat ||| b.toNat : Nat) : Int), .int .u32 ((a.toNat ^^^ b.toNat : Nat) : Int), .int .u32 (a * 2 ^ (b % 32).toNat % 4294967296), .int .u32 (a / 2 ^ (b % 32).toNat)] 33) = w5 at *
  obtain ⟨S7, hS7⟩ : ∃ S7, w4.heap.size + 1 = S7 := ⟨_, rfl⟩
  rw [hS7] at HRI
  simp only [hS7]
  generalize w4.heap.size = S6 at *
  clear hand hor hxor
  go_loopw [5, 8] (fun v i wr => ∃ k : Nat, k ≤ 8 ∧ i = .int .i64 k ∧ ReckIn w a b S6 S7 v k wr) (fun _ i _ => 8 - (intOf i).toNat)
  case atStart => exact ⟨0, Nat.zero_le _, rfl, HRI.out⟩
  case round =>
    obtain ⟨k, hk, rfl, hR⟩ := hrel
    clear HRI
    by_cases hlt : k < 8
    · have hki : (k : Int) < 8 := by omega
      have hki0 : (0 : Int) ≤ (k : Int) := by omega
      have HR := hid hR
      obtain ⟨c1, hc1⟩ : ∃ c1 : Int, ((reckC.getD k 0 : Nat) : Int) + 1 = c1 := ⟨_, rfl⟩
      have hcb : 0 ≤ c1 ∧ c1 < 256 := by
        rw [← hc1]
        rcases (show k = 0 ∨ k = 1 ∨ k = 2 ∨ k = 3 ∨ k = 4 ∨ k = 5 ∨ k = 6 ∨ k = 7 by omega) with rfl | rfl | rfl | rfl | rfl | rfl | rfl | rfl <;> decide
      have cS : wr.cell? ⟨S6, k, none⟩ = some (.int .i64 c1) := by
        rw [row_cell hR.s6 k, ← hc1]
        rcases (show k = 0 ∨ k = 1 ∨ k = 2 ∨ k = 3 ∨ k = 4 ∨ k = 5 ∨ k = 6 ∨ k = 7 by omega) with rfl | rfl | rfl | rfl | rfl | rfl | rfl | rfl <;> rfl
      have HTT : Hid (reckT k = [codeV 3 0 1 0, codeV c1 0 2 0, codeV 14 0 7 (48 + (k : Int))]) := by
        show reckT k = _
        unfold reckT codeV
        rw [← hc1]
        exact list3_eq (by omega) (by omega) (by omega)
      have HOD : Hid (wr.drew.ownsRow w.heap.size 3 1 u5 (4 + 3 * k) ((reckP a b k).map (Value.int .i64))) := (((Fr.refl (fun _ => False) wr).drew).owns hR.o (fun _ _ => id))
      have hsz : w.heap.size ≤ wr.drew.heap.size := hR.f.size
      have hk3 : 4 + 3 * k + 3 ≤ 1073741824 := by omega
      have hone : ∀ u ∈ (#[.int .i64 (codeV 3 0 1 0), .int .i64 (codeV c1 0 2 0), .int .i64 (codeV 14 0 7 (48 + (k : Int)))] : Array Value).toList, u.oneCell' = true := by simp [Value.oneCell']
      have h03 : 0 < 3 := by omega
      have HCS : Hid (∀ o w7, Fr (fun i => u5.ownBlock = some i) (wr.drew.alloc o) w7 → w7.cell? ⟨S6, k, none⟩ = some (.int .i64 c1)) := fun o w7 hf => (row_cell (hf.get (get_alloc (w := wr.drew) hR.s6 o) hR.n6) k).trans ((row_cell hR.s6 k).symm.trans cS)
      have hwp : IntKind.i64.wrap (48 + (k : Int)) = 48 + (k : Int) := by rw [IntKind.wrap_i64]; omega
      have h8 : 8 ≤ 4096 := by omega
      clear hR
      go_wp2_with fail
      go_region_held3 (fun w' => w'.cell? ⟨S6, k, none⟩ = some (.int .i64 c1))
        (go_keep)
        (first
          | (go_at_call 18; refine (code_v _ _ _ _ _ ?_).mono ?_; (refine ⟨?_, ?_, ?_, ?_, ?_, ?_, ?_, ?_⟩ <;> omega); rintro e w6 ⟨rfl, rfl⟩)
          | (refine step_appR slInt (by rfl) _ _ (by rfl) w.heap.size u5 (4 + 3 * k) _ (by rfl) (HOD.out.alloc _) wr.drew.heap.size 3 #[.int .i64 (codeV 3 0 1 0), .int .i64 (codeV c1 0 2 0), .int .i64 (codeV 14 0 7 (48 + (k : Int)))] _ (by rfl) (heap_alloc_new wr.drew _) rfl h03 hone hk3 h8 (le_alloc hsz _) ?_; intro gg cap w7 hown7 hf7 hat7; have cS7 := HCS.out _ _ hf7))
      all_goals
        have HN := hid (HR.out.step HTT.out hown7 hf7 hat7)
        clear hown7 hf7 hat7 HOD HTT HCS cS7
        go_wp2_with fail
        go_roundw
        case rel => exact ⟨k + 1, by omega, by go_num, HN.out⟩
        case measure => simp [intOf]; omega
    · obtain rfl : k = 8 := by omega
      have HOE : Hid (wr.ownsRow w.heap.size 3 1 u5 28 ((reckP a b 8).map (Value.int .i64))) := hR.o
      have HSZ : Hid (w.heap.size ≤ wr.heap.size) := hR.f.size
      have HFO : Hid (∀ o w7, Fr (fun i => u5.ownBlock = some i) (wr.alloc o) w7 → Fr (fun _ => False) w w7 ∧ w7.heap[S7]? = some (.cells (reckVs a b) 33 (0, 0))) := fun o w7 hf => ⟨(hR.f.alloc o).step hf (fun i hi => .inr ((hR.o.lt i hi).1)), hf.get (get_alloc hR.s7 o) hR.n7⟩
      clear hR
      go_wp2_with (first
        | (go_at_call 18; refine (code_v _ _ _ _ _ ?_).mono ?_; omega; rintro e w6 ⟨rfl, hw6⟩; obtain rfl := hw6.symm)
        | (refine wpList_appR slInt (by rfl) _ _ (by rfl) w.heap.size u5 28 _ (by rfl) (HOE.out.alloc _) wr.heap.size 4 #[.int .i64 (codeV 3 0 1 0), .int .i64 (codeV 7 0 2 0), .int .i64 (codeV 14 0 7 63), .int .i64 (codeV 18 0 0 0)] _ (by rfl) (heap_alloc_new wr _) rfl (by omega) (by simp [Value.oneCell']) (by omega) (by decide) (le_alloc HSZ.out _) ?_; intro g7 c7 w7 hown7 hf7 hat7; have HF7 := hid (HFO.out _ _ hf7); have HO7 := hid hown7; clear hown7 hf7 hat7))
      have HWD : Hid (WdsAt (w7.alloc (.cells #[.int .i64 64, .slice (some ⟨g7, 0, none⟩) 32 c7] 41)) w7.heap.size 0 1 1 (reckW a b)) := by
        refine wds_one (heap_alloc_new w7 _) ?_ (by unfold I64; omega) (reckL_i64 a b)
        have h := HO7.out.alloc (.cells #[.int .i64 64, .slice (some ⟨g7, 0, none⟩) 32 c7] 41)
        rw [← reckL_cells] at h
        exact ints_of_owns h
      have HF8 : Hid (Fr (fun _ => False) w (w7.alloc (.cells #[.int .i64 64, .slice (some ⟨g7, 0, none⟩) 32 c7] 41))) := HF7.out.1.alloc _
      have HS8 : Hid ((w7.alloc (.cells #[.int .i64 64, .slice (some ⟨g7, 0, none⟩) 32 c7] 41)).heap[S7]? = some (.cells (reckVs a b) 33 (0, 0))) := get_alloc HF7.out.2 _
      clear HF7 HO7 HOE HSZ HFO
      generalize w7.alloc (.cells #[.int .i64 64, .slice (some ⟨g7, 0, none⟩) 32 c7] 41) = w9 at *
      generalize w7.heap.size = S at *
      refine (image_nw w9 1 (by unfold I64; omega) S 0 1 1 (reckW a b) HWD.out (by omega) (by omega)).mono ?_
      rintro e w10 ⟨rfl, hf10⟩
      have HF10 := hid (HF8.out.step hf10 (fun _ h => .inl h))
      have HS10 := hid (hf10.get HS8.out id)
      have HBT := hid (fun w3 => keepBoot w3 1 (reckW a b) 1 (by omega) (by omega))
      clear hf10 HWD HS8 HF8
      go_wp2_with fail
      refine (HBT.out _).mono ?_
      rintro e w11 ⟨x, vL, rfl, hl3, hx3, hf3, hk3⟩
      have hG0 : Going x (bootN (keepImg 1 (reckW a b) 1)) w10 w11 := ⟨⟨_, vL, hl3, hk3⟩, hf3⟩
      have hrl : x.regs.length = 1 := keep_len _ _ _ x hx3
      have HOUT := hid (reck_out a b a0 a1 b0 b1 x hx3 hl3.x)
      have HR0 : Hid (x.regs.getD 0 [] = rsK (16 + 16 * ((1 : Nat) : Int) + 64 * ((0 : Nat) : Int))) := keep_regs 1 (reckW a b) 1 x hx3 0 (by omega)
      obtain ⟨X, hXX⟩ : ∃ X, x.X = X := ⟨_, rfl⟩
      rw [hXX]
      have HXX := hid hXX
      have hrN : runN 300 = 300 := rfl
      have HRN := hid (hG0.run 300 0 (by intro d hd; simp only [bootN, List.mem_replicate] at hd; rw [hd.2]; simp) (by have : (runN 300).toNat = 300 := rfl; omega) (by have : (runN 300).toNat = 300 := rfl; simp only [bootN]; omega) X hXX)
      rw [hrN] at HRN
      replace HRN : Hid (Calls Tryz.prog 21 #[.pointer (some ⟨X, 0, none⟩), .int .i64 300] w11 fun e w' => e = .returned (.int .i64 300) ∧ Going x (iterN x 300 (bootN (keepImg 1 (reckW a b) 1))) w10 w') := HRN
      generalize iterN x 300 (bootN (keepImg 1 (reckW a b) 1)) = N at *
      clear hl3 hx3 hf3 hk3 HBT hG0 hXX hrN
      go_wp2_with fail
      refine HRN.out.mono ?_
      rintro e w12 ⟨rfl, hG⟩
      have HG12 := hid hG
      clear hG HRN
      obtain ⟨L', hws, hl', hv', hz', hq'⟩ := HOUT.out
      have HVV := hid hv'
      go_wp2_with fail
      go_loopw [10] (fun i wr => ∃ k : Nat, k ≤ 8 ∧ i = .int .i64 k ∧ Going x N w10 wr) (fun i _ => 8 - (intOf i).toNat)
      case atStart => exact ⟨0, Nat.zero_le _, rfl, HG12.out⟩
      case round =>
        obtain ⟨k, hk, rfl, hG⟩ := hrel
        clear HG12
        by_cases hlt : k < 8
        · have hki : (k : Int) < 8 := by omega
          have hki0 : (0 : Int) ≤ (k : Int) := by omega
          have HPE := hid (hG.peek X HXX.out 0 (by omega) (48 + (k : Int)) (by omega) (by omega))
          obtain ⟨vv, hvv⟩ : ∃ vv, (reckV a b).getD k 0 = vv := ⟨_, rfl⟩
          have hread : readN (rsK (16 + 16 * ((1 : Nat) : Int) + 64 * ((0 : Nat) : Int))) 0 [L'] (48 + (k : Int)) = some vv := by
            unfold rsK
            rw [readK _ 0 (by omega) _ _ (by omega), if_pos (by omega), show (48 + (k : Int)).toNat = 48 + k by omega, HVV.out k hlt, hvv]
          rw [HR0.out, hws, hread] at HPE
          have HG := hid hG
          have HSC : Hid (∀ w1, Fr (fun _ => False) wr w1 → w1.cell? ⟨S7, k, none⟩ = some (.int .u32 vv)) := by
            intro w1 h1
            rw [row_cell (h1.get (hG.f.get HS10.out id) id) k, ← hvv]
            rcases (show k = 0 ∨ k = 1 ∨ k = 2 ∨ k = 3 ∨ k = 4 ∨ k = 5 ∨ k = 6 ∨ k = 7 by omega) with rfl | rfl | rfl | rfl | rfl | rfl | rfl | rfl <;> rfl
          clear hG hread hvv
          go_wp2_with fail
          refine HPE.out.mono ?_
          rintro e w13 ⟨rfl, hf13⟩
          have HG13 := hid (HG.out.fr hf13)
          have cS := HSC.out _ hf13
          clear hf13 HSC HPE HG
          simp only [peekV]
          go_wp2_with fail
          go_roundw
          case rel => exact ⟨k + 1, by omega, by go_num, HG13.out⟩
          case measure => simp [intOf]; omega
        · obtain rfl : k = 8 := by omega
          have HV0 := hid (hG.view X HXX.out 0 (by omega))
          obtain ⟨s0, hs0⟩ : ∃ s0, (N.wn.getD 0 zeroWN).now = s0 := ⟨_, rfl⟩
          rw [hs0] at hz' hq' HV0
          obtain ⟨s, vL, h1, h2⟩ := hG.l
          have hk2 : 0 < N.wn.length := by have := h1.n.hi.wl; rw [List.length_map] at this; omega
          have hB := (h1.n.sb _ (List.getElem_mem hk2)).1
          have hgd : N.wn[0] = N.wn.getD 0 zeroWN := by simp [List.getD_eq_getElem?_getD, List.getElem?_eq_getElem hk2]
          rw [hgd, hs0] at hB
          obtain ⟨r0, r1, r2, r3, r4, r5, r6, r7, hr, hc⟩ := st_lit _ hB.l
          rw [hc] at HV0
          have HG := hid hG
          clear hG h1 h2 hB hgd hr hc
          go_wp2_with fail
          refine HV0.out.mono ?_
          rintro e w13 ⟨rfl, hf13⟩
          have HG14 := hid ((HG.out.fr hf13).fr ((Fr.refl _ w13).alloc (.cells #[.int .u32 r0, .int .u32 r1, .int .u32 r2, .int .u32 r3, .int .u32 r4, .int .u32 r5, .int .u32 r6, .int .u32 r7, .int .u32 s0.place, .int .i64 s0.status, .int .i64 s0.cause, .int .i64 s0.busy, .bool s0.y] 48)))
          have HB14 := hid (heap_alloc_new w13 (.cells #[.int .u32 r0, .int .u32 r1, .int .u32 r2, .int .u32 r3, .int .u32 r4, .int .u32 r5, .int .u32 r6, .int .u32 r7, .int .u32 s0.place, .int .i64 s0.status, .int .i64 s0.cause, .int .i64 s0.busy, .bool s0.y] 48))
          clear hf13 HV0 HG
          by_cases hb0 : b = 0
          · obtain ⟨z1, z2⟩ := hz' hb0
            subst hb0
            rw [z1, z2] at HG14 HB14 ⊢
            have HFR := hid (HF10.out.step HG14.out.f (fun _ h => .inl h))
            go_wp2_with fail
            go_ret
            exact ⟨rfl, HFR.out⟩
          · obtain ⟨z1, z2⟩ := hq' hb0
            have HPE := hid (fun (w1 : World) (h1 : Going x N w10 w1) => h1.peek X HXX.out 0 (by omega) 63 (by omega) (by omega))
            have hread : readN (rsK (16 + 16 * ((1 : Nat) : Int) + 64 * ((0 : Nat) : Int))) 0 [L'] 63 = some (a / b) := by
              unfold rsK
              rw [readK _ 0 (by omega) _ _ (by omega), if_pos (by omega)]
              exact congrArg some z2
            rw [HR0.out, hws, hread] at HPE
            clear hread
            rw [z1] at HG14 HB14 ⊢
            go_wp2_with fail
            generalize w13.alloc (.cells #[.int .u32 r0, .int .u32 r1, .int .u32 r2, .int .u32 r3, .int .u32 r4, .int .u32 r5, .int .u32 r6, .int .u32 r7, .int .u32 s0.place, .int .i64 1, .int .i64 s0.cause, .int .i64 s0.busy, .bool s0.y] 48) = w14 at *
            generalize w13.heap.size = B at *
            refine (HPE.out _ HG14.out).mono ?_
            rintro e w15 ⟨rfl, hf15⟩
            have HFR := hid (HF10.out.step (HG14.out.fr hf15).f (fun _ h => .inl h))
            have d9 := row_cell (hf15.get HB14.out id) 9
            clear hf15 HPE HG14 HB14
            simp only [peekV]
            go_wp2_with fail
            go_ret
            exact ⟨rfl, HFR.out⟩

end Go.Proofs.YthmcheoehcmglaaGreat
