/- A ward of the statements' images by itself: some instructions. -/
import Derived.Test.YthmcheoehcmglaaGreatK8
namespace Go.Proofs.YthmcheoehcmglaaGreat
open Go.RowKit
set_option linter.unusedVariables false

def rsK (b : Int) : List Reg := [(0, 64, b, 7)]

/-- An instruction of theirs, at a place p. -/
theorem execK (b : Int) (k : Nat) (rg : List Int) (p : Nat) (hp : p < 64) (L : List Int) (dv : List DevV) (code ra rb : Nat) (n : Int) (hn0 : 0 ≤ n) (hn1 : n < 65536) (hra : ra < 8) (hrb : rb < 8) (hcode : code < 18) (cyc f : Nat) (hc : codeL[code]? = some (f, cyc)) (c1 : 1 ≤ cyc)
    (hv : L.getD p 0 = ((code : Int) + 1) * 16777216 + (ra : Int) * 1048576 + (rb : Int) * 65536 + n) (rg' : List Int) (p' : Int) (m' : PS)
    (hw : ∀ ck, workM (opsP (rsK b) k ck) code ra rb n (stAt rg ((p : Int) + 1)) ([L], dv) = (0, stAt rg' p', m')) : Tr (rsK b) k cyc (stAt rg p, ([L], dv)) (stAt rg' p', m') := by
  have hf : readN (rsK b) 4 [L] (p : Int) = some (L.getD p 0) := by
    unfold rsK
    rw [readK b 4 (by omega) L p (by omega), if_pos (by omega)]
    simp
  rw [hv] at hf
  refine exec (rsK b) k rg p ([L], dv) _ code cyc f hf (by omega) hc c1 rg' p' m' ?_
  intro ck
  have e1 : ((((code : Int) + 1) * 16777216 + (ra : Int) * 1048576 + (rb : Int) * 65536 + n) / 1048576 % 8).toNat = ra := by omega
  have e2 : ((((code : Int) + 1) * 16777216 + (ra : Int) * 1048576 + (rb : Int) * 65536 + n) / 65536 % 8).toNat = rb := by omega
  have e3 : (((code : Int) + 1) * 16777216 + (ra : Int) * 1048576 + (rb : Int) * 65536 + n) % 65536 = n := by omega
  have e4 : ((p : Int) + 1) % 4294967296 = (p : Int) + 1 := by omega
  rw [e1, e2, e3, e4]
  exact hw ck

theorem parkK (b : Int) (k : Nat) (rg : List Int) (p : Nat) (hp : p < 64) (L : List Int) (dv : List DevV) (code ra rb : Nat) (n : Int) (hn0 : 0 ≤ n) (hn1 : n < 65536) (hra : ra < 8) (hrb : rb < 8) (hcode : code < 18) (cyc f : Nat) (hc : codeL[code]? = some (f, cyc)) (cz : Int) (hcz : cz ≠ 0) (s' : StV)
    (hv : L.getD p 0 = ((code : Int) + 1) * 16777216 + (ra : Int) * 1048576 + (rb : Int) * 65536 + n)
    (hw : ∀ ck, workM (opsP (rsK b) k ck) code ra rb n (stAt rg ((p : Int) + 1)) ([L], dv) = (cz, s', ([L], dv))) : Tr (rsK b) k 1 (stAt rg p, ([L], dv)) (⟨rg, p, 2, cz, 0, false⟩, ([L], dv)) := by
  have hf : readN (rsK b) 4 [L] (p : Int) = some (L.getD p 0) := by
    unfold rsK
    rw [readK b 4 (by omega) L p (by omega), if_pos (by omega)]
    simp
  rw [hv] at hf
  refine exec_park (rsK b) k rg p ([L], dv) _ code cyc f hf (by omega) hc cz hcz s' ?_
  intro ck
  have e1 : ((((code : Int) + 1) * 16777216 + (ra : Int) * 1048576 + (rb : Int) * 65536 + n) / 1048576 % 8).toNat = ra := by omega
  have e2 : ((((code : Int) + 1) * 16777216 + (ra : Int) * 1048576 + (rb : Int) * 65536 + n) / 65536 % 8).toNat = rb := by omega
  have e3 : (((code : Int) + 1) * 16777216 + (ra : Int) * 1048576 + (rb : Int) * 65536 + n) % 65536 = n := by omega
  have e4 : ((p : Int) + 1) % 4294967296 = (p : Int) + 1 := by omega
  rw [e1, e2, e3, e4]
  exact hw ck

/-- A register's number, made by two instructions. -/
theorem tr_word (b : Int) (k : Nat) (rg : List Int) (hrg : rg.length = 8) (p : Nat) (hp : p + 1 < 64) (L : List Int) (dv : List DevV) (ra : Nat) (hra : ra < 8) (v : Int)
    (h1 : L.getD p 0 = 16777216 + (ra : Int) * 1048576 + v / 65536 % 65536) (h2 : L.getD (p + 1) 0 = 33554432 + (ra : Int) * 1048576 + v % 65536) :
    Tr (rsK b) k 2 (stAt rg p, ([L], dv)) (stAt (rg.set ra (v % 4294967296)) ((p + 2 : Nat) : Int), ([L], dv)) := by
  have t1 : Tr (rsK b) k 1 (stAt rg p, ([L], dv)) (stAt (rg.set ra (v / 65536 % 65536)) ((p + 1 : Nat) : Int), ([L], dv)) := by
    refine execK b k rg p (by omega) L dv 0 ra 0 (v / 65536 % 65536) (by omega) (by omega) hra (by omega) (by omega) 1 _ rfl (by omega) (by rw [h1]; omega) _ _ _ ?_
    intro ck
    rfl
  have t2 : Tr (rsK b) k 1 (stAt (rg.set ra (v / 65536 % 65536)) ((p + 1 : Nat) : Int), ([L], dv)) (stAt (rg.set ra (v % 4294967296)) ((p + 2 : Nat) : Int), ([L], dv)) := by
    refine execK b k _ (p + 1) hp L dv 1 ra 0 (v % 65536) (by omega) (by omega) hra (by omega) (by omega) 1 _ rfl (by omega) (by rw [h2]; omega) _ _ _ ?_
    intro ck
    unfold workM
    dsimp only
    have e : ((stAt (rg.set ra (v / 65536 % 65536)) ((p + 1 : Nat) + 1 : Int)).regs.getD ra 0 * 65536 + v % 65536) % 4294967296 = v % 4294967296 := by
      have : (stAt (rg.set ra (v / 65536 % 65536)) ((p + 1 : Nat) + 1 : Int)).regs.getD ra 0 = v / 65536 % 65536 := by
        show (rg.set ra (v / 65536 % 65536)).getD ra 0 = _
        rw [getD_set_eq, if_pos ⟨rfl, by omega⟩]
      rw [this]
      omega
    rw [e]
    show (0, stAt ((rg.set ra (v / 65536 % 65536)).set ra (v % 4294967296)) ((p + 1 : Nat) + 1 : Int), ([L], dv)) = _
    rw [List.set_set]
    rfl
  exact t1.trans t2

theorem haltK (b : Int) (k : Nat) (rg : List Int) (p : Nat) (hp : p < 64) (L : List Int) (dv : List DevV) (hv : L.getD p 0 = 301989888) : Tr (rsK b) k 1 (stAt rg p, ([L], dv)) (⟨rg, ((p + 1 : Nat) : Int), 1, 0, 0, false⟩, ([L], dv)) := by
  have hf : readN (rsK b) 4 [L] (p : Int) = some 301989888 := by
    unfold rsK
    rw [readK b 4 (by omega) L p (by omega), if_pos (by omega), ← hv]
    simp
  have := exec_halt (rsK b) k rg p ([L], dv) hf
  have e4 : ((p : Int) + 1) % 4294967296 = ((p + 1 : Nat) : Int) := by omega
  rw [e4] at this
  exact this

/-- What a Put of such a ward does. -/
theorem putK (b : Int) (L : List Int) (d : DevV) (a v : Int) (a0 : 0 ≤ a) : putP (rsK b) ([L], [d]) a v = if a < 64 then some ([L.set a.toNat v], [d]) else if a = 32769 then some ([L], [(d.1, d.2 ++ [v])]) else none := by
  unfold putP devI
  simp only [List.length_cons, List.length_nil]
  by_cases h1 : a = 32769
  · subst h1
    rw [if_neg (by omega : ¬ (32769 : Int) < 64), if_pos rfl]
    rfl
  · rw [if_neg (by omega), if_neg h1]
    have hI : regI (rsK b) a = if a < 64 then some 0 else none := by
      unfold regI rsK
      rw [List.findIdx?_cons]
      have : inR (0, 64, b, 7) a = decide (a < 64) := by
        unfold inR
        simp only
        rw [decide_eq_true a0]
        simp
      rw [this]
      by_cases h : a < 64
      · rw [decide_eq_true h, if_pos h]; rfl
      · rw [decide_eq_false h, if_neg h]; rfl
    simp only [hI]
    by_cases h : a < 64
    · rw [if_pos h, if_pos h]
      have : regAt (rsK b) 0 = (0, 64, b, 7) := rfl
      have hh : hasR (0, 64, b, 7) 2 = true := by unfold hasR; simp only; decide
      simp only [this, hh, if_true]
      simp
    · rw [if_neg h, if_neg h]

end Go.Proofs.YthmcheoehcmglaaGreat
/- wardskeep.Guarded: the wards by themselves. -/
namespace Go.Proofs.YthmcheoehcmglaaGreat
open Go.RowKit
set_option linter.unusedVariables false

/-- The first ward's program: it puts v at an address. -/
def guardA (ad v : Int) : List Int := wordI 1 ad ++ wordI 2 v ++ [237043712, 301989888]
def guardB : List Int := [301989888, 77]
def guardL (q ad v : Int) : List (Int × List Int) := [(q, guardA ad v), (1, guardB)]

theorem keepW_len (ws : List Int) : (keepW ws).length = 64 := by
  unfold keepW
  rw [length_splice _ _ _ (by simp; omega)]
  simp
theorem keepW_get (ws : List Int) (hl : ws.length ≤ 64) (i : Nat) : (keepW ws).getD i 0 = if i < ws.length then ws.getD i 0 % 4294967296 else 0 := by
  unfold keepW
  rw [getD_splice _ _ _ (by simp; omega), List.take_of_length_le hl]
  simp only [Nat.zero_le, true_and, Nat.zero_add, List.length_map, Nat.sub_zero]
  by_cases h : i < ws.length
  · rw [if_pos h, if_pos h, List.getD_eq_getElem?_getD, List.getElem?_map, List.getD_eq_getElem?_getD, List.getElem?_eq_getElem h]
    rfl
  · rw [if_neg h, if_neg h, List.getD_eq_getElem?_getD, List.getElem?_replicate]
    split <;> rfl

theorem work_put {σ : Type} (O : Ops σ) (a b : Nat) (n : Int) (s : StV) (m : σ) : workM O 13 a b n s m = match O.put m ((s.regs.getD b 0 + n) % 4294967296) (s.regs.getD a 0) with
    | some m' => (0, s, m')
    | none => (3, s, m) := rfl
def regs0 : List Int := [0, 0, 0, 0, 0, 0, 0, 0]
theorem st0_at : st0 0 = stAt regs0 ((0 : Nat) : Int) := rfl

/-- What comes of the first ward. -/
def guardEnd (L : List Int) (ad v : Int) : SP :=
  if ad < 64 then (⟨[0, ad, v % 4294967296, 0, 0, 0, 0, 0], 6, 1, 0, 0, false⟩, ([L.set ad.toNat (v % 4294967296)], [zeroD]))
  else if ad = 32769 then (⟨[0, ad, v % 4294967296, 0, 0, 0, 0, 0], 6, 1, 0, 0, false⟩, ([L], [(0, [v % 4294967296])]))
  else (⟨[0, ad, v % 4294967296, 0, 0, 0, 0, 0], 4, 2, 3, 0, false⟩, ([L], [zeroD]))

theorem guard_tr (b : Int) (ad v : Int) (t0 : 0 ≤ ad) (t1 : ad < 4294967296) (h5 : ad ≠ 5) : ∃ m, m ≤ 7 ∧ Tr (rsK b) 0 m (st0 0, ([keepW (guardA ad v)], [zeroD])) (guardEnd (keepW (guardA ad v)) ad v) := by
  have hlen : (guardA ad v).length ≤ 64 := by simp [guardA, wordI]
  have hg : ∀ i, (keepW (guardA ad v)).getD i 0 = if i < 6 then (guardA ad v).getD i 0 % 4294967296 else 0 := fun i => keepW_get _ hlen i
  have g0 : (keepW (guardA ad v)).getD 0 0 = 16777216 + ((1 : Nat) : Int) * 1048576 + ad / 65536 % 65536 := by rw [hg]; simp [guardA, wordI]; omega
  have g1 : (keepW (guardA ad v)).getD 1 0 = 33554432 + ((1 : Nat) : Int) * 1048576 + ad % 65536 := by rw [hg]; simp [guardA, wordI]; omega
  have g2 : (keepW (guardA ad v)).getD 2 0 = 16777216 + ((2 : Nat) : Int) * 1048576 + v / 65536 % 65536 := by rw [hg]; simp [guardA, wordI]; omega
  have g3 : (keepW (guardA ad v)).getD 3 0 = 33554432 + ((2 : Nat) : Int) * 1048576 + v % 65536 := by rw [hg]; simp [guardA, wordI]; omega
  have g4 : (keepW (guardA ad v)).getD 4 0 = 237043712 := by rw [hg]; simp [guardA, wordI]
  have g5 : (keepW (guardA ad v)).getD 5 0 = 301989888 := by rw [hg]; simp [guardA, wordI]
  have hl64 := keepW_len (guardA ad v)
  generalize keepW (guardA ad v) = L at *
  have e1 : ad % 4294967296 = ad := Int.emod_eq_of_lt t0 t1
  have t_1 := tr_word b 0 regs0 rfl 0 (by omega) L [zeroD] 1 (by omega) ad g0 g1
  rw [e1] at t_1
  have t_2 := tr_word b 0 (regs0.set 1 ad) (by simp [regs0]) 2 (by omega) L [zeroD] 2 (by omega) v g2 g3
  have hr : (regs0.set 1 ad).set 2 (v % 4294967296) = [0, ad, v % 4294967296, 0, 0, 0, 0, 0] := rfl
  rw [hr] at t_2
  have t12 := t_1.trans t_2
  have hput : ∀ ck, (opsP (rsK b) 0 ck).put ([L], [zeroD]) ((ad + 0) % 4294967296) (v % 4294967296) = if ad < 64 then some ([L.set ad.toNat (v % 4294967296)], [zeroD]) else if ad = 32769 then some ([L], [(0, [v % 4294967296])]) else none := by
    intro ck
    show putP (rsK b) ([L], [zeroD]) _ _ = _
    rw [show (ad + 0) % 4294967296 = ad by omega, putK b L zeroD ad _ t0]
    rfl
  by_cases h64 : ad < 64
  · unfold guardEnd
    rw [if_pos h64]
    have t3 : Tr (rsK b) 0 2 (stAt [0, ad, v % 4294967296, 0, 0, 0, 0, 0] ((4 : Nat) : Int), ([L], [zeroD])) (stAt [0, ad, v % 4294967296, 0, 0, 0, 0, 0] ((5 : Nat) : Int), ([L.set ad.toNat (v % 4294967296)], [zeroD])) := by
      refine execK b 0 _ 4 (by omega) L [zeroD] 13 2 1 0 (by omega) (by omega) (by omega) (by omega) (by omega) 2 _ rfl (by omega) (by rw [g4]; rfl) _ _ _ ?_
      intro ck
      have := hput ck
      rw [if_pos h64] at this
      rw [work_put]
      have e2 : (opsP (rsK b) 0 ck).put ([L], [zeroD]) (((stAt [0, ad, v % 4294967296, 0, 0, 0, 0, 0] (((4 : Nat) : Int) + 1)).regs.getD 1 0 + 0) % 4294967296) ((stAt [0, ad, v % 4294967296, 0, 0, 0, 0, 0] (((4 : Nat) : Int) + 1)).regs.getD 2 0) = _ := this
      rw [e2]
      rfl
    have t4 := haltK b 0 [0, ad, v % 4294967296, 0, 0, 0, 0, 0] 5 (by omega) (L.set ad.toNat (v % 4294967296)) [zeroD] (by rw [getD_set_eq, if_neg (by omega)]; exact g5)
    exact ⟨2 + 2 + (2 + 1), by omega, t12.trans (t3.trans t4)⟩
  · by_cases hd : ad = 32769
    · unfold guardEnd
      rw [if_neg h64, if_pos hd]
      have t3 : Tr (rsK b) 0 2 (stAt [0, ad, v % 4294967296, 0, 0, 0, 0, 0] ((4 : Nat) : Int), ([L], [zeroD])) (stAt [0, ad, v % 4294967296, 0, 0, 0, 0, 0] ((5 : Nat) : Int), ([L], [(0, [v % 4294967296])])) := by
        refine execK b 0 _ 4 (by omega) L [zeroD] 13 2 1 0 (by omega) (by omega) (by omega) (by omega) (by omega) 2 _ rfl (by omega) (by rw [g4]; rfl) _ _ _ ?_
        intro ck
        have := hput ck
        rw [if_neg h64, if_pos hd] at this
        rw [work_put]
        have e2 : (opsP (rsK b) 0 ck).put ([L], [zeroD]) (((stAt [0, ad, v % 4294967296, 0, 0, 0, 0, 0] (((4 : Nat) : Int) + 1)).regs.getD 1 0 + 0) % 4294967296) ((stAt [0, ad, v % 4294967296, 0, 0, 0, 0, 0] (((4 : Nat) : Int) + 1)).regs.getD 2 0) = _ := this
        rw [e2]
        rfl
      have t4 := haltK b 0 [0, ad, v % 4294967296, 0, 0, 0, 0, 0] 5 (by omega) L [(0, [v % 4294967296])] g5
      exact ⟨2 + 2 + (2 + 1), by omega, t12.trans (t3.trans t4)⟩
    · unfold guardEnd
      rw [if_neg h64, if_neg hd]
      have t3 := parkK b 0 [0, ad, v % 4294967296, 0, 0, 0, 0, 0] 4 (by omega) L [zeroD] 13 2 1 0 (by omega) (by omega) (by omega) (by omega) (by omega) 2 _ rfl 3 (by omega) (stAt [0, ad, v % 4294967296, 0, 0, 0, 0, 0] (((4 : Nat) : Int) + 1)) (by rw [g4]; rfl) (by
        intro ck
        have := hput ck
        rw [if_neg h64, if_neg hd] at this
        rw [work_put]
        have e2 : (opsP (rsK b) 0 ck).put ([L], [zeroD]) (((stAt [0, ad, v % 4294967296, 0, 0, 0, 0, 0] (((4 : Nat) : Int) + 1)).regs.getD 1 0 + 0) % 4294967296) ((stAt [0, ad, v % 4294967296, 0, 0, 0, 0, 0] (((4 : Nat) : Int) + 1)).regs.getD 2 0) = _ := this
        rw [e2])
      exact ⟨2 + 2 + 1, by omega, t12.trans t3⟩

theorem guardB_tr (b : Int) : Tr (rsK b) 1 1 (st0 0, ([keepW guardB], [zeroD])) (⟨regs0, 1, 1, 0, 0, false⟩, ([keepW guardB], [zeroD])) :=
  haltK b 1 regs0 0 (by omega) (keepW guardB) [zeroD] (by rw [keepW_get guardB (by simp [guardB])]; rfl)

/-- The timetable suffices. -/
theorem guard_cnt (gap q ad v : Int) (x : KX) (hx : XOf (keepImg gap (guardL q ad v) 2) x) (hX : KXs x) : 7 ≤ cnt x 0 0 400 ∧ 1 ≤ cnt x 1 0 400 := by
  have hqs := keep_qs gap (guardL q ad v) 2 rfl x hx
  have hg := withinM_bd gap 1 16 (by omega)
  have hq := withinM_bd q 1 64 (by omega)
  have hgap : x.gap = withinM gap 1 16 := hx.gap
  have hq0 : x.qs = [withinM q 1 64, withinM 1 1 64] := hqs
  have h1 : withinM 1 1 64 = 1 := rfl
  rw [h1] at hq0
  obtain ⟨G, hG⟩ := Int.eq_ofNat_of_zero_le (show 0 ≤ withinM gap 1 16 by omega)
  obtain ⟨Q, hQ⟩ := Int.eq_ofNat_of_zero_le (show 0 ≤ withinM q 1 64 by omega)
  rw [hQ] at hq0
  rw [hG] at hgap
  have hR : roundK x = ((Q + G + (1 + G) : Nat) : Int) := by
    unfold roundK
    rw [hq0, hgap]
    simp only [List.length_cons, List.length_nil, accN]
    simp
  have c0 := fun j h => cnt_ge hX 0 (by rw [hq0]; simp) _ hR Q (by rw [hq0]; rfl) j 400 h
  have c1 := fun j h => cnt_ge hX 1 (by rw [hq0]; simp) _ hR 1 (by rw [hq0]; rfl) j 400 h
  refine ⟨?_, ?_⟩
  · by_cases hQ1 : Q = 1
    · have := c0 7 (by omega)
      omega
    · have := c0 4 (by omega)
      omega
  · have := c1 1 (by omega)
    omega

end Go.Proofs.YthmcheoehcmglaaGreat
/- wardskeep.Guarded, walked. -/
namespace Go.Proofs.YthmcheoehcmglaaGreat
open Go.RowKit
set_option linter.unusedVariables false
attribute [local go_sem ↓] Go.wp_at_zero Go.wp_at_succ

/-- append of m elements that lie in a block of their own, at a plain region's list. -/
theorem wpList_appM {P : Program} {w : World} {ops : Array Oper} {rest : List Oper} {o : Oper} {a : Act} {Q : Exit → Act → World → Prop} {t e : TypeId} {bytes : Nat} (T : SlT P t e 1 bytes)
    (hgd : o.guard = none) (s x : Operand) (ho : o.op = .call { callee := .builtin .append, args := #[s, x], argTypes := #[t, t] })
    (base : Nat) (v : Value) (n : Nat) (xs : List Value) (hs : a.eval s = v) (hown : w.ownsRow base e 1 v n xs)
    (B m : Nat) (cs : Array Value) (e' : TypeId) (hx : a.eval x = .slice (some ⟨B, 0, none⟩) m m) (hB : w.heap[B]? = some (.cells cs e' (0, 0))) (hl : cs.size = m) (hm : 0 < m) (h1 : ∀ u ∈ cs.toList, u.oneCell' = true)
    (hn : n + m ≤ 1073741824) (hby : bytes ≤ 4096) (hbase : base ≤ w.heap.size)
    (h : ∀ g cap w', w'.ownsRow base e 1 (.slice (some ⟨g, 0, none⟩) (n + m) cap) (n + m) (xs ++ cs.toList) → Fr (fun i => v.ownBlock = some i) w w' → (v.ownBlock = some g ∨ g = w.heap.size) → wpList P ops Q rest (a.put o.dst (.slice (some ⟨g, 0, none⟩) (n + m) cap)) w') :
    wpList P ops Q (o :: rest) a w := by
  obtain ⟨i, z, hi, hz, hsz, hb, hzs⟩ := T.info
  have hmul : (n + m) * bytes ≤ 1073741824 * 4096 := Nat.mul_le_mul hn hby
  exact wpList_append_lies w hgd s x t ho base e i z 1 bytes T.ht hi hz hsz hb hzs T.pos v n xs hs hown ⟨B, 0, none⟩ m m cs.toList hx (by simp [hl]) (World.news_of_block hB) h1
    hm (by unfold maxLen; omega) (by omega) hbase w.heap.size rfl
    (fun g cap w' h2 h3 h4 h5 => h g cap w' h2 ⟨h3.os, h3.tape, h3.output, h3.size, fun k hk hn => h3.block k hk (fun e => hn e.symm)⟩ h4)

theorem owns_lit {w : World} {base g n : Nat} {e : TypeId} {cs : Array Value} (hb : base ≤ g) (hg : w.heap[g]? = some (.cells cs e (0, 0))) (hn : cs.size = n) (hm : n ≤ maxLen) : w.ownsRow base e 1 (.slice (some ⟨g, 0, none⟩) n n) n cs.toList :=
  ⟨by simp [hn], .inr ⟨g, n, cs, rfl, hb, hg, Nat.le_refl _, hm, by omega, by rw [List.take_of_length_le (by simp [hn])]⟩⟩

/-- Two wards in a slice. -/
theorem wds_two {w : World} {B : Nat} {q0 q1 : Int} {v0 v1 : Value} {l0 l1 : List Int} (hB : w.heap[B]? = some (.cells #[.int .i64 q0, v0, .int .i64 q1, v1] 41 (0, 0))) (h0 : IntsAt w v0 l0) (h1 : IntsAt w v1 l1) (hq0 : I64 q0) (hq1 : I64 q1) (hl0 : ∀ x ∈ l0, I64 x) (hl1 : ∀ x ∈ l1, I64 x) : WdsAt w B 0 2 2 [(q0, l0), (q1, l1)] := by
  refine ⟨rfl, ?_, ?_⟩
  · intro k q ws hk
    match k, hk with
    | 0, hk =>
      simp only [List.getElem?_cons_zero, Option.some.injEq, Prod.mk.injEq] at hk
      obtain ⟨rfl, rfl⟩ := hk
      exact ⟨row_cell hB 0, v0, row_cell hB 1, h0⟩
    | 1, hk =>
      simp only [List.getElem?_cons_succ, List.getElem?_cons_zero, Option.some.injEq, Prod.mk.injEq] at hk
      obtain ⟨rfl, rfl⟩ := hk
      exact ⟨row_cell hB 2, v1, row_cell hB 3, h1⟩
  · intro q ws hm
    simp only [List.mem_cons, Prod.mk.injEq, List.not_mem_nil, or_false] at hm
    rcases hm with ⟨rfl, rfl⟩ | ⟨rfl, rfl⟩
    · exact ⟨hq0, hl0⟩
    · exact ⟨hq1, hl1⟩

/-- What came of the two wards. -/
structure GuardOut (x : KX) (N : NM) (ad v : Int) : Prop where
  n1 : (N.wn.getD 1 zeroWN).now = ⟨regs0, 1, 1, 0, 0, false⟩
  w1 : (N.wn.getD 1 zeroWN).ws = [keepW guardB]
  e0 : ad ≠ 5 → (N.wn.getD 0 zeroWN).now = (guardEnd (keepW (guardA ad v)) ad v).1 ∧ (N.wn.getD 0 zeroWN).ws = (guardEnd (keepW (guardA ad v)) ad v).2.1 ∧ [N.devs.getD 0 zeroD] = (guardEnd (keepW (guardA ad v)) ad v).2.2

theorem guard_out (gap q ad v : Int) (a0 : 0 ≤ ad) (a1 : ad < 4294967296) (x : KX) (hx : XOf (keepImg gap (guardL q ad v) 2) x) (hX : KXs x) : GuardOut x (iterN x 400 (bootN (keepImg gap (guardL q ad v) 2))) ad v := by
  have hxd := keep_xd gap (guardL q ad v) 2 (by omega) (by omega) x hx
  have hrl := keep_len gap (guardL q ad v) 2 x hx
  have hnet := keep_net gap (guardL q ad v) 2 x hx
  have hc := guard_cnt gap q ad v x hx hX
  have p0 := priv_iter x hX hxd 0 (by omega) _ hnet 400
  have p1 := priv_iter x hX hxd 1 (by omega) _ hnet 400
  rw [keep_priv gap (guardL q ad v) 2 (by omega) (by omega) x hx 0 (by omega)] at p0
  rw [keep_priv gap (guardL q ad v) 2 (by omega) (by omega) x hx 1 (by omega)] at p1
  have r0 : x.regs.getD 0 [] = rsK _ := keep_regs gap (guardL q ad v) 2 x hx 0 (by omega)
  have r1 : x.regs.getD 1 [] = rsK _ := keep_regs gap (guardL q ad v) 2 x hx 1 (by omega)
  have hck : (bootN (keepImg gap (guardL q ad v) 2)).ck = 0 := rfl
  rw [hck] at p0 p1
  have t1 := guardB_tr (16 + 16 * ((2 : Nat) : Int) + 64 * ((1 : Nat) : Int))
  rw [← r1] at t1
  have f1 := eq_spOf (trace_rest x 1 t1 (by simp) rfl 400 0 ⟨st0 0, st0 0, [keepW guardB], [zeroD]⟩ rfl hc.2)
  have hp1 : iterP x 1 0 400 ⟨st0 0, st0 0, [keepW guardB], [zeroD]⟩ = privOf x 1 (iterN x 400 (bootN (keepImg gap (guardL q ad v) 2))) := p1.symm
  rw [hp1] at f1
  refine ⟨f1.1, f1.2.1, ?_⟩
  intro h5
  obtain ⟨m, hm, t0⟩ := guard_tr (16 + 16 * ((2 : Nat) : Int) + 64 * ((0 : Nat) : Int)) ad v a0 a1 h5
  rw [← r0] at t0
  have hb : (guardEnd (keepW (guardA ad v)) ad v).1.status ≠ 0 ∧ (guardEnd (keepW (guardA ad v)) ad v).1.y = false := by
    unfold guardEnd
    split
    · simp
    · split <;> simp
  have f0 := eq_spOf (trace_rest x 0 t0 hb.1 hb.2 400 0 ⟨st0 0, st0 0, [keepW (guardA ad v)], [zeroD]⟩ rfl (by omega))
  have hp0 : iterP x 0 0 400 ⟨st0 0, st0 0, [keepW (guardA ad v)], [zeroD]⟩ = privOf x 0 (iterN x 400 (bootN (keepImg gap (guardL q ad v) 2))) := p0.symm
  rw [hp0] at f0
  refine ⟨f0.1, f0.2.1, ?_⟩
  rw [← f0.2.2]
  show _ = ownDv x 0 _
  unfold ownDv
  rw [keep_dv gap (guardL q ad v) 2 (by omega) (by omega) x hx 0, if_pos (by omega)]
  rfl

theorem Going.sb {x : KX} {N : NM} {w wr : World} (h : Going x N w wr) (k : Nat) (hk : k < x.regs.length) : StB (N.wn.getD k zeroWN).now := by
  obtain ⟨s, vL, h1, h2⟩ := h.l
  have hk2 : k < N.wn.length := by have := h1.n.hi.wl; rw [List.length_map] at this; omega
  have hv : N.wn[k]? = some N.wn[k] := List.getElem?_eq_getElem hk2
  rw [getD_of hv]
  exact (h1.n.sb _ (List.getElem_mem hk2)).1

theorem guardA_i64 (ad v : Int) : ∀ z ∈ guardA ad v, I64 z := by
  intro z hz
  simp only [guardA, wordI, List.cons_append, List.nil_append, List.mem_cons, List.not_mem_nil, or_false] at hz
  unfold I64
  rcases hz with rfl | rfl | rfl | rfl | rfl | rfl <;> omega

theorem logS_nil : logS [] = ⟨#[]⟩ := rfl
theorem logS_one (v : Int) : logS [v % 4294967296] = ⟨(lowB v 4).toArray⟩ := by
  unfold logS strOfNums logB wordB lowB lowB lowB lowB lowB byteN
  simp only [List.flatMap_cons, List.flatMap_nil, List.append_nil, List.map_cons, List.map_nil]
  have e1 : v % 4294967296 / 16777216 = v / 256 ^ 3 % 256 := by omega
  have e2 : v % 4294967296 / 65536 % 256 = v / 256 ^ 2 % 256 := by omega
  have e3 : v % 4294967296 / 256 % 256 = v / 256 ^ 1 % 256 := by omega
  have e4 : v % 4294967296 % 256 = v / 256 ^ 0 % 256 := by omega
  rw [e1, e2, e3, e4]

/-- The cases. -/
def GuardCase (s0 : StV) (d0 : DevV) (pw pe ad v : Int) : Prop :=
  (ad = 5) ∨ (ad < 64 ∧ ad ≠ 5 ∧ pw = v % 4294967296 ∧ pe = 0 ∧ s0.status = 1) ∨ (ad = 32769 ∧ logS d0.2 = ⟨(lowB v 4).toArray⟩ ∧ s0.status = 1) ∨ (¬ ad < 64 ∧ ad ≠ 32769 ∧ s0.status = 2 ∧ s0.cause = 3 ∧ s0.place = 4 ∧ logS d0.2 = ⟨#[]⟩ ∧ pe = 6)

theorem guard_case (b : Int) (s0 : StV) (ws0 : List (List Int)) (d0 : DevV) (ad v : Int) (a0 : 0 ≤ ad) (he : ad ≠ 5 → s0 = (guardEnd (keepW (guardA ad v)) ad v).1 ∧ ws0 = (guardEnd (keepW (guardA ad v)) ad v).2.1 ∧ [d0] = (guardEnd (keepW (guardA ad v)) ad v).2.2) :
    ∃ pw pe, peekV (readN (rsK b) 0 ws0 ad) = .tuple #[.int .u32 pw, .int .i64 pe] ∧ GuardCase s0 d0 pw pe ad v := by
  unfold GuardCase
  by_cases h5 : ad = 5
  · cases readN (rsK b) 0 ws0 ad with
    | none => exact ⟨0, 6, rfl, .inl h5⟩
    | some u => exact ⟨u, 0, rfl, .inl h5⟩
  · obtain ⟨h1, h2, h3⟩ := he h5
    have hl := keepW_len (guardA ad v)
    generalize keepW (guardA ad v) = L at *
    unfold guardEnd at h1 h2 h3
    by_cases h64 : ad < 64
    · rw [if_pos h64] at h1 h2 h3
      refine ⟨v % 4294967296, 0, ?_, .inr (.inl ⟨h64, h5, rfl, rfl, by rw [h1]⟩)⟩
      rw [h2]
      show peekV (readN [(0, 64, b, 7)] 0 [L.set ad.toNat (v % 4294967296)] ad) = _
      rw [readK b 0 (by omega) _ ad a0, if_pos h64, getD_set_eq, if_pos ⟨rfl, by omega⟩]
      rfl
    · rw [if_neg h64] at h1 h2 h3
      have hr : ∀ L', readN (rsK b) 0 [L'] ad = none := by
        intro L'
        show readN [(0, 64, b, 7)] 0 [L'] ad = _
        rw [readK b 0 (by omega) _ ad a0, if_neg h64]
      by_cases hd : ad = 32769
      · rw [if_pos hd] at h1 h2 h3
        rw [h2, hr]
        refine ⟨0, 6, rfl, .inr (.inr (.inl ⟨hd, ?_, by rw [h1]⟩))⟩
        have : d0 = (0, [v % 4294967296]) := by simpa using h3
        rw [this]
        exact logS_one v
      · rw [if_neg hd] at h1 h2 h3
        rw [h2, hr]
        refine ⟨0, 6, rfl, .inr (.inr (.inr ⟨h64, hd, by rw [h1], by rw [h1], by rw [h1], ?_, rfl⟩))⟩
        have : d0 = zeroD := by simpa using h3
        rw [this]
        rfl

set_option maxRecDepth 100000 in
set_option maxHeartbeats 4000000 in
theorem guarded_any (w : World) (gap adr v q : Int) (hg : I64 gap) (ha : I64 adr) (hv : I64 v) (hq : I64 q) :
    Calls Tryz.prog 7 #[.int .i64 gap, .int .i64 adr, .int .i64 v, .int .i64 q] w fun e w' => e = .returned (.bool true) ∧ Fr (fun _ => False) w w' := by
  have hp := pickM_bd adr 4294967296 (by omega)
  have HPK := hid (fun w1 => pick_any adr 4294967296 w1 ha (by omega) (by omega))
  generalize pickM adr 4294967296 = ad at *
  have hadi : I64 ad := by unfold I64; omega
  have HW1 := hid (fun w1 => kword_any w1 1 ad (by omega) (by omega) hadi)
  have HW2 := hid (fun w1 => kword_any w1 2 v (by omega) (by omega) hv)
  have HGA : Hid (guardA ad v = [16777216 + 1 * 1048576 + ad / 65536 % 65536, 33554432 + 1 * 1048576 + ad % 65536, 16777216 + 2 * 1048576 + v / 65536 % 65536, 33554432 + 2 * 1048576 + v % 65536, 237043712, 301989888]) := rfl
  generalize 16777216 + 1 * 1048576 + ad / 65536 % 65536 = A1 at *
  generalize 33554432 + 1 * 1048576 + ad % 65536 = A2 at *
  generalize 16777216 + 2 * 1048576 + v / 65536 % 65536 = B1 at *
  generalize 33554432 + 2 * 1048576 + v % 65536 = B2 at *
  have HC1 := hid (fun w1 => code_any 14 2 1 0 w1 (by omega) (by omega) (by omega) (by omega) (by omega) (by omega) (by omega) (by omega))
  have HC2 := hid (fun w1 => code_any 18 0 0 0 w1 (by omega) (by omega) (by omega) (by omega) (by omega) (by omega) (by omega) (by omega))
  go_enter Tryz.func7, Tryz.ntmps7
  go_wp2_with fail
  refine (HPK.out _).mono ?_
  rintro e w1 ⟨rfl, rfl⟩
  go_wp2_with fail
  refine (HW1.out _).mono ?_
  rintro e w2 ⟨rfl, rfl⟩
  go_wp2_with fail
  refine (HW2.out _).mono ?_
  rintro e w3 ⟨rfl, rfl⟩
  have HBA : Hid (((w1.alloc (.cells #[.int .i64 A1, .int .i64 A2] 3)).alloc (.cells #[.int .i64 B1, .int .i64 B2] 3)).heap[w1.heap.size]? = some (.cells #[.int .i64 A1, .int .i64 A2] 3 (0, 0))) := get_alloc (heap_alloc_new w1 _) _
  have HBB : Hid (((w1.alloc (.cells #[.int .i64 A1, .int .i64 A2] 3)).alloc (.cells #[.int .i64 B1, .int .i64 B2] 3)).heap[(w1.alloc (.cells #[.int .i64 A1, .int .i64 A2] 3)).heap.size]? = some (.cells #[.int .i64 B1, .int .i64 B2] 3 (0, 0))) := heap_alloc_new _ _
  have HF2 : Hid (Fr (fun _ => False) w1 ((w1.alloc (.cells #[.int .i64 A1, .int .i64 A2] 3)).alloc (.cells #[.int .i64 B1, .int .i64 B2] 3))) := ((Fr.refl _ w1).alloc _).alloc _
  have HSZ : Hid ((w1.alloc (.cells #[.int .i64 A1, .int .i64 A2] 3)).heap.size = w1.heap.size + 1) := by unfold Hid; simp
  generalize (w1.alloc (.cells #[.int .i64 A1, .int .i64 A2] 3)).alloc (.cells #[.int .i64 B1, .int .i64 B2] 3) = wb at *
  generalize (w1.alloc (.cells #[.int .i64 A1, .int .i64 A2] 3)).heap.size = b2 at *
  have HO1 : Hid (wb.ownsRow w1.heap.size 3 1 (.slice (some ⟨w1.heap.size, 0, none⟩) 2 2) 2 [.int .i64 A1, .int .i64 A2]) := owns_lit (Nat.le_refl _) HBA.out rfl (by unfold maxLen; omega)
  go_wp2_with (first
    | (refine wpList_appM slInt (by rfl) _ _ (by rfl) w1.heap.size (.slice (some ⟨w1.heap.size, 0, none⟩) 2 2) 2 _ (by rfl) HO1.out b2 2 #[.int .i64 B1, .int .i64 B2] _ (by rfl) HBB.out rfl (by omega) (by simp [Value.oneCell']) (by omega) (by decide) HF2.out.size ?_; intro g4 c4 w4 hown4 hf4 hat4; have HO4 := hid hown4; have HF4 := hid (HF2.out.step hf4 (fun i hi => .inr (HO1.out.lt i hi).1)); clear hown4 hf4 hat4))
  refine (HC1.out _).mono ?_
  rintro e w5 ⟨rfl, rfl⟩
  go_wp2_with fail
  refine (HC2.out _).mono ?_
  rintro e w6 ⟨rfl, rfl⟩
  go_wp2_with (first
    | (refine wpList_appM slInt (by rfl) _ _ (by rfl) w1.heap.size (.slice (some ⟨g4, 0, none⟩) 4 c4) 4 _ (by rfl) (HO4.out.alloc _) w6.heap.size 2 #[.int .i64 237043712, .int .i64 301989888] _ (by rfl) (heap_alloc_new w6 _) rfl (by omega) (by simp [Value.oneCell']) (by omega) (by decide) (le_alloc HF4.out.size _) ?_; intro g7 c7 w7 hown7 hf7 hat7; have HO7 := hid hown7; have HF7 := hid ((HF4.out.alloc _).step hf7 (fun i hi => .inr (HO4.out.lt i hi).1)); clear hown7 hf7 hat7))
  refine (HC2.out _).mono ?_
  rintro e w8 ⟨rfl, rfl⟩
  go_wp2_with fail
  have HWD : Hid (WdsAt ((w8.alloc (.cells #[.int .i64 301989888, .int .i64 77] 3)).alloc (.cells #[.int .i64 q, .slice (some ⟨g7, 0, none⟩) 6 c7, .int .i64 1, .slice (some ⟨w8.heap.size, 0, none⟩) 2 2] 41)) (w8.heap.size + 1) 0 2 2 (guardL q ad v)) := by
    have hb := heap_alloc2_new w8 (.cells #[.int .i64 301989888, .int .i64 77] 3) (.cells #[.int .i64 q, .slice (some ⟨g7, 0, none⟩) 6 c7, .int .i64 1, .slice (some ⟨w8.heap.size, 0, none⟩) 2 2] 41)
    have h0 : IntsAt ((w8.alloc (.cells #[.int .i64 301989888, .int .i64 77] 3)).alloc (.cells #[.int .i64 q, .slice (some ⟨g7, 0, none⟩) 6 c7, .int .i64 1, .slice (some ⟨w8.heap.size, 0, none⟩) 2 2] 41)) (.slice (some ⟨g7, 0, none⟩) 6 c7) (guardA ad v) := by
      rw [HGA.out]
      exact ints_of_owns ((HO7.out.alloc _).alloc _)
    have h1 : IntsAt ((w8.alloc (.cells #[.int .i64 301989888, .int .i64 77] 3)).alloc (.cells #[.int .i64 q, .slice (some ⟨g7, 0, none⟩) 6 c7, .int .i64 1, .slice (some ⟨w8.heap.size, 0, none⟩) 2 2] 41)) (.slice (some ⟨w8.heap.size, 0, none⟩) 2 2) guardB := ints_of_owns (base := 0) (owns_lit (cs := #[.int .i64 301989888, .int .i64 77]) (Nat.zero_le _) (heap_alloc_oldT w8 _ _) rfl (by unfold maxLen; omega))
    exact wds_two hb h0 h1 hq (by unfold I64; omega) (guardA_i64 ad v) (by intro z hz; simp only [guardB, List.mem_cons, List.not_mem_nil, or_false] at hz; unfold I64; omega)
  have HF8 : Hid (Fr (fun _ => False) w1 ((w8.alloc (.cells #[.int .i64 301989888, .int .i64 77] 3)).alloc (.cells #[.int .i64 q, .slice (some ⟨g7, 0, none⟩) 6 c7, .int .i64 1, .slice (some ⟨w8.heap.size, 0, none⟩) 2 2] 41))) := (HF7.out.alloc _).alloc _
  have HSB : Hid (((w8.alloc (.cells #[.int .i64 301989888, .int .i64 77] 3)).alloc (.cells #[.int .i64 q, .slice (some ⟨g7, 0, none⟩) 6 c7, .int .i64 1, .slice (some ⟨w8.heap.size, 0, none⟩) 2 2] 41)).heap[w8.heap.size]? = some (.cells #[.int .i64 301989888, .int .i64 77] 3 (0, 0))) := heap_alloc_oldT w8 _ _
  generalize (w8.alloc (.cells #[.int .i64 301989888, .int .i64 77] 3)).alloc (.cells #[.int .i64 q, .slice (some ⟨g7, 0, none⟩) 6 c7, .int .i64 1, .slice (some ⟨w8.heap.size, 0, none⟩) 2 2] 41) = w9 at *
  generalize w8.heap.size = S at *
  refine (image_nw w9 gap hg (S + 1) 0 2 2 (guardL q ad v) HWD.out (by omega) (by omega)).mono ?_
  rintro e w10 ⟨rfl, hf10⟩
  have HF10 := hid (HF8.out.step hf10 (fun _ h => .inl h))
  have HS10 := hid (hf10.get HSB.out id)
  have HBT := hid (fun w3 => keepBoot w3 gap (guardL q ad v) 2 (by omega) (by omega))
  clear hf10 HWD HSB HF8
  go_wp2_with fail
  refine (HBT.out _).mono ?_
  rintro e w11 ⟨x, vL, rfl, hl3, hx3, hf3, hk3⟩
  have hG0 : Going x (bootN (keepImg gap (guardL q ad v) 2)) w10 w11 := ⟨⟨_, vL, hl3, hk3⟩, hf3⟩
  have hrl : x.regs.length = 2 := keep_len _ _ _ x hx3
  have hdn : x.dn = 2 := keep_dn _ _ _ x hx3
  have HOUT := hid (guard_out gap q ad v hp.1 hp.2 x hx3 hl3.x)
  have HR0 : Hid (x.regs.getD 0 [] = rsK (16 + 16 * ((2 : Nat) : Int) + 64 * ((0 : Nat) : Int))) := keep_regs gap (guardL q ad v) 2 x hx3 0 (by omega)
  have HR1 : Hid (x.regs.getD 1 [] = rsK (16 + 16 * ((2 : Nat) : Int) + 64 * ((1 : Nat) : Int))) := keep_regs gap (guardL q ad v) 2 x hx3 1 (by omega)
  obtain ⟨X, hXX⟩ : ∃ X, x.X = X := ⟨_, rfl⟩
  rw [hXX]
  have HXX := hid hXX
  have hrN : runN 400 = 400 := rfl
  have HR := hid (hG0.run 400 0 (by intro d hd; simp only [bootN, List.mem_replicate] at hd; rw [hd.2]; simp) (by have : (runN 400).toNat = 400 := rfl; omega) (by have : (runN 400).toNat = 400 := rfl; simp only [bootN]; omega) X hXX)
  rw [hrN] at HR
  replace HR : Hid (Calls Tryz.prog 21 #[.pointer (some ⟨X, 0, none⟩), .int .i64 400] w11 fun e w' => e = .returned (.int .i64 400) ∧ Going x (iterN x 400 (bootN (keepImg gap (guardL q ad v) 2))) w10 w') := HR
  generalize iterN x 400 (bootN (keepImg gap (guardL q ad v) 2)) = N at *
  clear hl3 hx3 hf3 hk3 HBT hG0 hXX hrN
  go_wp2_with fail
  refine HR.out.mono ?_
  rintro e w12 ⟨rfl, hG⟩
  have HG12 := hid hG
  clear hG HR
  go_wp2_with fail
  go_loopw [13] (fun i wr => ∃ k : Nat, k ≤ 64 ∧ i = .int .i64 k ∧ Going x N w10 wr) (fun i _ => 64 - (intOf i).toNat)
  case atStart => exact ⟨0, Nat.zero_le _, rfl, HG12.out⟩
  case round =>
    obtain ⟨k, hk, rfl, hG⟩ := hrel
    clear HG12
    by_cases hlt : k < 64
    · have hki : (k : Int) < 64 := by omega
      have HPE := hid (hG.peek X HXX.out 1 (by omega) k (by omega) (by omega))
      rw [HR1.out, HOUT.out.w1] at HPE
      have hread : readN (rsK (16 + 16 * ((2 : Nat) : Int) + 64 * ((1 : Nat) : Int))) 0 [keepW guardB] (k : Int) = some (if k < 2 then guardB.getD k 0 else 0) := by
        unfold rsK
        rw [readK _ 0 (by omega) _ _ (by omega), if_pos (by omega), Int.toNat_natCast, keepW_get guardB (by simp [guardB])]
        have e : guardB.length = 2 := rfl
        rw [e]
        by_cases h2 : k < 2
        · rw [if_pos h2, if_pos h2]
          rcases (show k = 0 ∨ k = 1 by omega) with rfl | rfl <;> rfl
        · rw [if_neg h2, if_neg h2]
      rw [hread] at HPE
      have HG := hid hG
      have HSC := hid (hG.f.get HS10.out id)
      clear hG hread
      by_cases h2 : k < 2
      · rw [if_pos h2] at HPE
        rcases (show k = 0 ∨ k = 1 by omega) with rfl | rfl
        · replace HPE : Hid (Calls Tryz.prog 22 #[.pointer (some ⟨X, 0, none⟩), .int .i64 1, .int .u32 0] wr fun e w' => e = .returned (.tuple #[.int .u32 301989888, .int .i64 0]) ∧ Fr (fun _ => False) wr w') := HPE
          go_wp2_with fail
          refine HPE.out.mono ?_
          rintro e w13 ⟨rfl, hf13⟩
          have HG13 := hid (HG.out.fr hf13)
          have cS : w13.cell? ⟨S, 0, none⟩ = some (.int .i64 301989888) := row_cell (hf13.get HSC.out id) 0
          clear hf13
          go_wp2_with fail
          go_roundw
          case rel => exact ⟨1, by omega, by go_num, HG13.out⟩
          case measure => simp [intOf]
        · replace HPE : Hid (Calls Tryz.prog 22 #[.pointer (some ⟨X, 0, none⟩), .int .i64 1, .int .u32 1] wr fun e w' => e = .returned (.tuple #[.int .u32 77, .int .i64 0]) ∧ Fr (fun _ => False) wr w') := HPE
          go_wp2_with fail
          refine HPE.out.mono ?_
          rintro e w13 ⟨rfl, hf13⟩
          have HG13 := hid (HG.out.fr hf13)
          have cS : w13.cell? ⟨S, 1, none⟩ = some (.int .i64 77) := row_cell (hf13.get HSC.out id) 1
          clear hf13
          go_wp2_with fail
          go_roundw
          case rel => exact ⟨2, by omega, by go_num, HG13.out⟩
          case measure => simp [intOf]
      · rw [if_neg h2] at HPE
        replace HPE : Hid (Calls Tryz.prog 22 #[.pointer (some ⟨X, 0, none⟩), .int .i64 1, .int .u32 k] wr fun e w' => e = .returned (.tuple #[.int .u32 0, .int .i64 0]) ∧ Fr (fun _ => False) wr w') := HPE
        have h2i : ¬ (k : Int) < 2 := by omega
        go_wp2_with fail
        refine HPE.out.mono ?_
        rintro e w13 ⟨rfl, hf13⟩
        have HG13 := hid (HG.out.fr hf13)
        clear hf13
        go_wp2_with fail
        go_roundw
        case rel => exact ⟨k + 1, by omega, by go_num, HG13.out⟩
        case measure => simp [intOf]; omega
    · obtain rfl : k = 64 := by omega
      have HG := hid hG
      have HV0 := hid (hG.view X HXX.out 0 (by omega))
      have HV1 := hid (fun (w1 : World) (h1 : Going x N w10 w1) => h1.view X HXX.out 1 (by omega))
      rw [HOUT.out.n1] at HV1
      replace HV1 : Hid (∀ w1, Going x N w10 w1 → Calls Tryz.prog 23 #[.pointer (some ⟨X, 0, none⟩), .int .i64 1] w1 fun e w' => e = .returned (.tuple #[.agg #[.int .u32 0, .int .u32 0, .int .u32 0, .int .u32 0, .int .u32 0, .int .u32 0, .int .u32 0, .int .u32 0, .int .u32 1, .int .i64 1, .int .i64 0, .int .i64 0, .bool false], .int .i64 0]) ∧ Fr (fun _ => False) w1 w') := HV1
      have HPE := hid (fun (w1 : World) (h1 : Going x N w10 w1) => h1.peek X HXX.out 0 (by omega) ad hp.1 hp.2)
      have HLG := hid (fun (w1 : World) (h1 : Going x N w10 w1) => h1.log X HXX.out 0 (by omega))
      have hB := hG.sb 0 (by omega)
      obtain ⟨r0, r1, r2, r3, r4, r5, r6, r7, hr, hc⟩ := st_lit _ hB.l
      have HE0 := hid HOUT.out.e0
      rw [HR0.out] at HPE
      obtain ⟨s0, hs0⟩ : ∃ s0, (N.wn.getD 0 zeroWN).now = s0 := ⟨_, rfl⟩
      obtain ⟨ws0, hws0⟩ : ∃ ws0, (N.wn.getD 0 zeroWN).ws = ws0 := ⟨_, rfl⟩
      obtain ⟨d0, hd0⟩ : ∃ d0, N.devs.getD 0 zeroD = d0 := ⟨_, rfl⟩
      rw [hs0] at HV0 HE0 hc
      rw [hws0] at HPE HE0
      rw [hd0] at HLG HE0
      rw [hc] at HV0
      clear hG hB hr hs0 hws0 hd0 HOUT
      go_wp2_with fail
      refine HV0.out.mono ?_
      rintro e w13 ⟨rfl, hf13⟩
      have HG13 := hid (HG.out.fr hf13)
      clear hf13 HV0 HG
      have HG14 := hid (HG13.out.fr ((Fr.refl _ w13).alloc (.cells #[.int .u32 r0, .int .u32 r1, .int .u32 r2, .int .u32 r3, .int .u32 r4, .int .u32 r5, .int .u32 r6, .int .u32 r7, .int .u32 s0.place, .int .i64 s0.status, .int .i64 s0.cause, .int .i64 s0.busy, .bool s0.y] 48)))
      have HB14 := hid (heap_alloc_new w13 (.cells #[.int .u32 r0, .int .u32 r1, .int .u32 r2, .int .u32 r3, .int .u32 r4, .int .u32 r5, .int .u32 r6, .int .u32 r7, .int .u32 s0.place, .int .i64 s0.status, .int .i64 s0.cause, .int .i64 s0.busy, .bool s0.y] 48))
      clear HG13
      go_wp2_with fail
      generalize w13.alloc (.cells #[.int .u32 r0, .int .u32 r1, .int .u32 r2, .int .u32 r3, .int .u32 r4, .int .u32 r5, .int .u32 r6, .int .u32 r7, .int .u32 s0.place, .int .i64 s0.status, .int .i64 s0.cause, .int .i64 s0.busy, .bool s0.y] 48) = w14 at *
      generalize w13.heap.size = B at *
      refine (HV1.out _ HG14.out).mono ?_
      rintro e w15 ⟨rfl, hf15⟩
      have HG15 := hid ((HG14.out.fr hf15).fr ((Fr.refl _ w15).alloc (.cells #[.int .u32 0, .int .u32 0, .int .u32 0, .int .u32 0, .int .u32 0, .int .u32 0, .int .u32 0, .int .u32 0, .int .u32 1, .int .i64 1, .int .i64 0, .int .i64 0, .bool false] 48)))
      have HB15 := hid (get_alloc (hf15.get HB14.out id) (.cells #[.int .u32 0, .int .u32 0, .int .u32 0, .int .u32 0, .int .u32 0, .int .u32 0, .int .u32 0, .int .u32 0, .int .u32 1, .int .i64 1, .int .i64 0, .int .i64 0, .bool false] 48))
      clear hf15 HV1 HG14 HB14
      go_wp2_with fail
      obtain ⟨pw, pe, hpv, hca⟩ := guard_case _ s0 ws0 d0 ad v hp.1 HE0.out
      rw [hpv] at HPE
      clear hpv HE0
      refine (HPE.out _ HG15.out).mono ?_
      rintro e w16 ⟨rfl, hf16⟩
      have HG16 := hid (HG15.out.fr hf16)
      have hB16 := hf16.get HB15.out id
      have HB16 := hid hB16
      have d9 := row_cell hB16 9
      have d10 := row_cell hB16 10
      have d8 := row_cell hB16 8
      have HFR := hid (HF10.out.step HG16.out.f (fun _ h => .inl h))
      clear hf16 HPE HG15 HB15 hB16
      go_wp2_with fail
      refine (HLG.out _ HG16.out).mono ?_
      rintro e w17 ⟨rfl, rfl⟩
      clear HG16 HLG
      unfold GuardCase at hca
      rcases hca with h5 | ⟨h64, h5, h1, h2, h3⟩ | ⟨hd, h1, h2⟩ | ⟨h64, hd, h1, h2, h3, h4, h6⟩
      · subst h5
        go_wp2_with fail
        go_ret
        exact ⟨rfl, HFR.out⟩
      · subst h1 h2
        rw [h3] at d9
        go_wp2_with fail
        go_ret
        exact ⟨rfl, HFR.out⟩
      · subst hd
        rw [h2] at d9
        rw [h1]
        go_wp2_with fail
        refine (bytes4 v _ hv).mono ?_
        rintro e w18 ⟨rfl, hf18⟩
        have HFR2 := hid (HFR.out.step hf18 (fun _ h => .inl h))
        replace d9 := row_cell (hf18.get HB16.out id) 9
        rw [h2] at d9
        clear hf18
        go_wp2_with fail
        go_ret
        exact ⟨rfl, HFR2.out⟩
      · rw [h1] at d9
        rw [h2] at d10
        rw [h3] at d8
        rw [h4]
        subst h6
        go_wp2_with fail
        go_ret
        exact ⟨rfl, HFR.out⟩

end Go.Proofs.YthmcheoehcmglaaGreat
/- wardskeep.Noted: the wards by themselves, round by round. -/
namespace Go.Proofs.YthmcheoehcmglaaGreat
open Go.RowKit
set_option linter.unusedVariables false

def noteA : List Int := wordI 6 32768 ++ [219545600, 236322817, 301989889, 251658240]
def noteL (q : Int) : List (Int × List Int) := [(q, noteA), (3, [])]

/-- The state ahead of a round. -/
def NoteSt (s : StV) : Prop := s = st0 0 ∨ ∃ u, s = stAt [0, u, 0, 0, 0, 0, 32768, 0] 5

theorem work_get {σ : Type} (O : Ops σ) (a b : Nat) (n : Int) (s : StV) (m : σ) : workM O 12 a b n s m = match O.get m ((s.regs.getD b 0 + n) % 4294967296) with
    | some v => (0, { s with regs := s.regs.set a v }, m)
    | none => (3, s, m) := rfl

/-- From place 2 on. -/
theorem note_mid (b : Int) (L : List Int) (z u : Int) (log : List Int) (g2 : L.getD 2 0 = 219545600) (g3 : L.getD 3 0 = 236322817) :
    Tr (rsK b) 0 4 (stAt [0, z, 0, 0, 0, 0, 32768, 0] ((2 : Nat) : Int), ([L], [(u, log)])) (stAt [0, u, 0, 0, 0, 0, 32768, 0] ((4 : Nat) : Int), ([L], [(u, log ++ [u])])) := by
  have t1 : Tr (rsK b) 0 2 (stAt [0, z, 0, 0, 0, 0, 32768, 0] ((2 : Nat) : Int), ([L], [(u, log)])) (stAt [0, u, 0, 0, 0, 0, 32768, 0] ((3 : Nat) : Int), ([L], [(u, log)])) := by
    refine execK b 0 _ 2 (by omega) L _ 12 1 6 0 (by omega) (by omega) (by omega) (by omega) (by omega) 2 _ rfl (by omega) (by rw [g2]; rfl) _ _ _ ?_
    intro ck
    rw [work_get]
    rfl
  have t2 : Tr (rsK b) 0 2 (stAt [0, u, 0, 0, 0, 0, 32768, 0] ((3 : Nat) : Int), ([L], [(u, log)])) (stAt [0, u, 0, 0, 0, 0, 32768, 0] ((4 : Nat) : Int), ([L], [(u, log ++ [u])])) := by
    refine execK b 0 _ 3 (by omega) L _ 13 1 6 1 (by omega) (by omega) (by omega) (by omega) (by omega) 2 _ rfl (by omega) (by rw [g3]; rfl) _ _ _ ?_
    intro ck
    rw [work_put]
    have e2 : (opsP (rsK b) 0 ck).put ([L], [(u, log)]) (((stAt [0, u, 0, 0, 0, 0, 32768, 0] (((3 : Nat) : Int) + 1)).regs.getD 6 0 + 1) % 4294967296) ((stAt [0, u, 0, 0, 0, 0, 32768, 0] (((3 : Nat) : Int) + 1)).regs.getD 1 0) = some ([L], [(u, log ++ [u])]) := by
      show putP (rsK b) ([L], [(u, log)]) 32769 u = _
      rw [putK b L (u, log) 32769 u (by omega), if_neg (by omega), if_pos rfl]
    rw [e2]
    rfl
  exact t1.trans t2

/-- A round's work, up to the yield. -/
theorem note_tr (b : Int) (s : StV) (hs : NoteSt s) (u : Int) (log : List Int) : ∃ m, m ≤ 7 ∧ Tr (rsK b) 0 m (s, ([keepW noteA], [(u, log)])) (stAt [0, u, 0, 0, 0, 0, 32768, 0] ((4 : Nat) : Int), ([keepW noteA], [(u, log ++ [u])])) := by
  have hlen : noteA.length ≤ 64 := by simp [noteA, wordI]
  have hg : ∀ i, (keepW noteA).getD i 0 = if i < 6 then noteA.getD i 0 % 4294967296 else 0 := fun i => keepW_get _ hlen i
  have g0 : (keepW noteA).getD 0 0 = 16777216 + ((6 : Nat) : Int) * 1048576 + 32768 / 65536 % 65536 := by rw [hg]; rfl
  have g1 : (keepW noteA).getD 1 0 = 33554432 + ((6 : Nat) : Int) * 1048576 + 32768 % 65536 := by rw [hg]; rfl
  have g2 : (keepW noteA).getD 2 0 = 219545600 := by rw [hg]; rfl
  have g3 : (keepW noteA).getD 3 0 = 236322817 := by rw [hg]; rfl
  have g5 : (keepW noteA).getD 5 0 = 251658240 := by rw [hg]; rfl
  generalize keepW noteA = L at *
  rcases hs with rfl | ⟨z, rfl⟩
  · have t1 := tr_word b 0 regs0 rfl 0 (by omega) L [(u, log)] 6 (by omega) 32768 g0 g1
    have hr : regs0.set 6 (32768 % 4294967296) = [0, 0, 0, 0, 0, 0, 32768, 0] := rfl
    rw [hr] at t1
    exact ⟨2 + 4, by omega, t1.trans (note_mid b L 0 u log g2 g3)⟩
  · have tj : Tr (rsK b) 0 1 (stAt [0, z, 0, 0, 0, 0, 32768, 0] ((5 : Nat) : Int), ([L], [(u, log)])) (stAt [0, z, 0, 0, 0, 0, 32768, 0] ((0 : Nat) : Int), ([L], [(u, log)])) :=
      execK b 0 _ 5 (by omega) L _ 14 0 0 0 (by omega) (by omega) (by omega) (by omega) (by omega) 1 _ rfl (by omega) (by rw [g5]; rfl) _ _ _ (fun ck => rfl)
    have t1 := tr_word b 0 [0, z, 0, 0, 0, 0, 32768, 0] rfl 0 (by omega) L [(u, log)] 6 (by omega) 32768 g0 g1
    have hr : [0, z, 0, 0, 0, 0, 32768, 0].set 6 (32768 % 4294967296) = [0, z, 0, 0, 0, 0, 32768, 0] := rfl
    rw [hr] at t1
    exact ⟨1 + (2 + 4), by omega, tj.trans (t1.trans (note_mid b L z u log g2 g3))⟩

/-- The yield. -/
def yieldSt (u : Int) : StV := ⟨[0, u, 0, 0, 0, 0, 32768, 0], 5, 0, 0, 0, true⟩
theorem note_yield (b : Int) (u : Int) (dv : List DevV) (ck : Int) : cycleM (opsP (rsK b) 0 ck) (stAt [0, u, 0, 0, 0, 0, 32768, 0] ((4 : Nat) : Int)) ([keepW noteA], dv) = (yieldSt u, ([keepW noteA], dv)) := by
  have g4 : (keepW noteA).getD 4 0 = 301989889 := by rw [keepW_get _ (by simp [noteA, wordI])]; rfl
  have hf : readN (rsK b) 4 [keepW noteA] ((4 : Nat) : Int) = some 301989889 := by
    unfold rsK
    rw [readK b 4 (by omega) _ _ (by omega), if_pos (by omega)]
    exact congrArg some g4
  unfold cycleM
  rw [if_neg (by simp [goes, stAt]), if_neg (by simp [stAt])]
  unfold stepM instrM
  have e1 : (opsP (rsK b) 0 ck).fetch ([keepW noteA], dv) (stAt [0, u, 0, 0, 0, 0, 32768, 0] ((4 : Nat) : Int)).place = some 301989889 := hf
  rw [e1]
  rfl

/-- Cycles of the turn, one behind another. -/
theorem tr_run (x : KX) (k : Nat) {m : Nat} {a b : SP} (h : Tr (x.regs.getD k []) k m a b) : ∀ (t0 : Int) (p : PW), (∀ i : Nat, i < m → turnB x k (t0 + i) = true) → spOf p = a → spOf (iterP x k t0 m p) = b := by
  induction h with
  | nil a _ => intro t0 p _ hp; exact hp
  | cons m a b c hy hs _ ih =>
    intro t0 p ht hp
    have h1 := eq_spOf hp
    have e := iterP_split x k t0 p 1 m
    rw [show 1 + m = m + 1 by omega] at e
    rw [e]
    refine ih _ _ ?_ ?_
    · intro i hi
      have := ht (1 + i) (by omega)
      rw [← this]
      congr 1
      omega
    · show spOf (cycleP (x.regs.getD k []) k (t0 + ((0 : Nat) : Int)) (turnB x k (t0 + ((0 : Nat) : Int))) _ p) = b
      rw [ht 0 (by omega)]
      unfold cycleP
      simp only [if_true]
      rw [h1.1, h1.2.1, h1.2.2, hs]
      rfl

/-- A ward that has yielded rests in its turn. -/
theorem yield_rest (x : KX) (k : Nat) (p : PW) (hy : p.now.y = true) (t0 : Int) : ∀ n : Nat, (∀ i : Nat, i < n → turnB x k (t0 + i) = true) → spOf (iterP x k t0 n p) = spOf p
  | 0, _ => rfl
  | n + 1, ht => by
    have ih := yield_rest x k p hy t0 n (fun i hi => ht i (by omega))
    have h1 : (iterP x k t0 n p).now = p.now := congrArg (·.1) ih
    show spOf (cycleP _ _ _ (turnB x k (t0 + n)) _ (iterP x k t0 n p)) = _
    rw [ht n (by omega)]
    unfold cycleP
    have hg : goes (iterP x k t0 n p).now = false := by rw [h1]; simp [goes, hy]
    simp only [cycleM, hg, if_true]
    exact ih
/-- Where it is not its turn, and its gap doesn't begin, a ward stays. -/
theorem off_rest (x : KX) (k : Nat) (p : PW) (t0 : Int) : ∀ n : Nat, (∀ i : Nat, i < n → turnB x k (t0 + i) = false ∧ firstB x k (t0 + i) = false) → spOf (iterP x k t0 n p) = spOf p
  | 0, _ => rfl
  | n + 1, ht => by
    have ih := off_rest x k p t0 n (fun i hi => ht i (by omega))
    show spOf (cycleP _ _ _ (turnB x k (t0 + n)) (firstB x k (t0 + n)) (iterP x k t0 n p)) = _
    rw [(ht n (by omega)).1, (ht n (by omega)).2]
    exact ih

/-- The timetable of the two wards. -/
structure NoteX (x : KX) (Q G : Nat) : Prop where
  qs : x.qs = [(Q : Int), 3]
  g : x.gap = (G : Int)
  q8 : 8 ≤ Q
  q64 : Q ≤ 64
  g1 : 1 ≤ G
  g16 : G ≤ 16
theorem NoteX.r {x : KX} {Q G : Nat} (h : NoteX x Q G) : roundK x = ((Q + G + (3 + G) : Nat) : Int) := by
  unfold roundK
  rw [h.qs, h.g]
  simp only [List.length_cons, List.length_nil, accN]
  simp

theorem note_slot {x : KX} {Q G : Nat} (hX : KXs x) (h : NoteX x Q G) (t0 : Int) (ht : t0 % roundK x = 0) (t00 : 0 ≤ t0) (i : Nat) (hi : i < Q + G + (3 + G)) :
    (i < Q → turnB x 0 (t0 + i) = true) ∧ (i = Q → turnB x 0 (t0 + i) = false ∧ firstB x 0 (t0 + i) = true) ∧ (Q < i → turnB x 0 (t0 + i) = false ∧ firstB x 0 (t0 + i) = false) := by
  have hm : (t0 + i) % roundK x = (i : Int) := by
    rw [h.r] at ht ⊢
    rw [Int.add_emod, ht]
    have : ((i : Int)) % ((Q + G + (3 + G) : Nat) : Int) = (i : Int) := Int.emod_eq_of_lt (by omega) (by omega)
    rw [this, Int.zero_add, this]
  have q0 : x.qs.getD 0 0 = (Q : Int) := by rw [h.qs]; rfl
  have q1 : x.qs.getD 1 0 = 3 := by rw [h.qs]; rfl
  have hl : x.qs.length = 2 := by rw [h.qs]; rfl
  have a0 : accN x.gap x.qs 0 = 0 := rfl
  have hg1 := h.g1
  have a1 : accN x.gap x.qs 1 = (Q : Int) + G := by
    have e : accN x.gap x.qs 1 = accN x.gap x.qs 0 + (x.qs.getD 0 0 + x.gap) := by simp only [accN]
    rw [e, a0, q0, h.g]; omega
  by_cases h0 : i < Q + G
  · have hs := slot_of hX.q (t0 + i) 0 i (by omega) (by omega) (by rw [q0, h.g]; omega) (by rw [hm, a0]; omega)
    unfold turnB firstB
    rw [hs.e]
    simp only [beq_self_eq_true, Bool.true_and, decide_eq_true_eq, decide_eq_false_iff_not, q0]
    refine ⟨?_, ?_, ?_⟩ <;> intro hq <;> first | omega | (constructor <;> omega)
  · have hs := slot_of hX.q (t0 + i) 1 ((i : Int) - Q - G) (by omega) (by omega) (by rw [q1, h.g]; omega) (by rw [hm, a1]; omega)
    unfold turnB firstB
    rw [hs.e]
    refine ⟨fun hq => by omega, fun hq => by omega, fun _ => ⟨rfl, rfl⟩⟩

/-- A round of the first ward. -/
theorem note_round {x : KX} {Q G : Nat} (hX : KXs x) (h : NoteX x Q G) (b : Int) (hr : x.regs.getD 0 [] = rsK b) (t0 : Int) (ht : t0 % roundK x = 0) (t00 : 0 ≤ t0) (p : PW) (s : StV) (hs : NoteSt s) (u : Int) (log : List Int)
    (hp : spOf p = (s, ([keepW noteA], [(u, log)]))) : ∃ s', NoteSt s' ∧ spOf (iterP x 0 t0 (Q + G + (3 + G)) p) = (s', ([keepW noteA], [(u, log ++ [u])])) := by
  have hq8 := h.q8
  have hg1 := h.g1
  obtain ⟨m, hm, tr⟩ := note_tr b s hs u log
  rw [← hr] at tr
  have hsl := note_slot hX h t0 ht t00
  have r1 := tr_run x 0 tr t0 p (fun i hi => (hsl i (by omega)).1 (by omega)) hp
  -- the yield
  have r2 : spOf (iterP x 0 t0 (m + 1) p) = (yieldSt u, ([keepW noteA], [(u, log ++ [u])])) := by
    have h1 := eq_spOf r1
    show spOf (cycleP (x.regs.getD 0 []) 0 (t0 + m) (turnB x 0 (t0 + m)) _ (iterP x 0 t0 m p)) = _
    rw [(hsl m (by omega)).1 (by omega)]
    unfold cycleP
    simp only [if_true]
    rw [h1.1, h1.2.1, h1.2.2, hr, note_yield]
    rfl
  have r3 : spOf (iterP x 0 t0 Q p) = (yieldSt u, ([keepW noteA], [(u, log ++ [u])])) := by
    have e := iterP_split x 0 t0 p (m + 1) (Q - (m + 1))
    rw [show m + 1 + (Q - (m + 1)) = Q by omega] at e
    rw [e, yield_rest x 0 _ (by rw [(eq_spOf r2).1]; rfl) _ _ ?_, r2]
    intro i hi
    have := (hsl (m + 1 + i) (by omega)).1 (by omega)
    rw [← this]
    congr 1
    omega
  have r4 : spOf (iterP x 0 t0 (Q + 1) p) = (stAt [0, u, 0, 0, 0, 0, 32768, 0] 5, ([keepW noteA], [(u, log ++ [u])])) := by
    have h1 := eq_spOf r3
    show spOf (cycleP (x.regs.getD 0 []) 0 (t0 + Q) (turnB x 0 (t0 + Q)) (firstB x 0 (t0 + Q)) (iterP x 0 t0 Q p)) = _
    have := (hsl Q (by omega)).2.1 rfl
    rw [this.1, this.2]
    unfold cycleP spOf
    simp only [if_true, Bool.false_eq_true, if_false]
    rw [h1.1, h1.2.1, h1.2.2]
    rfl
  refine ⟨stAt [0, u, 0, 0, 0, 0, 32768, 0] 5, .inr ⟨u, rfl⟩, ?_⟩
  have e := iterP_split x 0 t0 p (Q + 1) (Q + G + (3 + G) - (Q + 1))
  rw [show Q + 1 + (Q + G + (3 + G) - (Q + 1)) = Q + G + (3 + G) by omega] at e
  rw [e, off_rest x 0 _ _ _ ?_, r4]
  intro i hi
  have := (hsl (Q + 1 + i) (by omega)).2.2 (by omega)
  have e2 : t0 + ((Q + 1 + i : Nat) : Int) = t0 + ((Q + 1 : Nat) : Int) + (i : Int) := by omega
  rw [e2] at this
  exact this

/-- The second ward: it is parked at once; its log stays empty. -/
def Note1 (a : SP) : Prop := a = (st0 0, ([keepW []], [zeroD])) ∨ a = (⟨regs0, 0, 2, 1, 0, false⟩, ([keepW []], [zeroD]))
theorem note1_step (b : Int) (ck : Int) (tb fb : Bool) (p : PW) (h : Note1 (spOf p)) : Note1 (spOf (cycleP (rsK b) 1 ck tb fb p)) := by
  rcases h with h | h
  · have h1 := eq_spOf h
    unfold cycleP
    cases tb with
    | true =>
      simp only [if_true]
      right
      unfold spOf
      rw [h1.1, h1.2.1, h1.2.2]
      have g0 : (keepW []).getD 0 0 = 0 := by rw [keepW_get _ (by simp)]; rfl
      have hf : readN (rsK b) 4 [keepW []] 0 = some 0 := by
        unfold rsK
        rw [readK b 4 (by omega) _ _ (by omega), if_pos (by omega)]
        exact congrArg some g0
      have : cycleM (opsP (rsK b) 1 ck) (st0 0) ([keepW []], [zeroD]) = (⟨regs0, 0, 2, 1, 0, false⟩, ([keepW []], [zeroD])) := by
        unfold cycleM
        rw [if_neg (by simp [goes, st0]), if_neg (by simp [st0])]
        unfold stepM instrM
        have e1 : (opsP (rsK b) 1 ck).fetch ([keepW []], [zeroD]) (st0 0).place = some 0 := hf
        rw [e1]
        rfl
      rw [this]
    | false =>
      cases fb with
      | true =>
        left
        simp only [Bool.false_eq_true, if_false, if_true, spOf]
        rw [h1.1, h1.2.1, h1.2.2]
        rfl
      | false => exact .inl h
  · right
    have h1 := eq_spOf h
    rw [rest_step _ _ _ _ _ _ (by rw [h1.1]; simp) (by rw [h1.1])]
    exact h
theorem note1_iter (x : KX) (b : Int) (hr : x.regs.getD 1 [] = rsK b) (t0 : Int) (p : PW) (h : Note1 (spOf p)) : ∀ n, Note1 (spOf (iterP x 1 t0 n p))
  | 0 => h
  | n + 1 => by
    show Note1 (spOf (cycleP (x.regs.getD 1 []) _ _ _ _ _))
    rw [hr]
    exact note1_step b _ _ _ _ (note1_iter x b hr t0 p h n)

end Go.Proofs.YthmcheoehcmglaaGreat
