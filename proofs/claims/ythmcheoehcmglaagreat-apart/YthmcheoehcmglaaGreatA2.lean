/- A ward of the statements' images by itself: some instructions. -/
import Derived.Test.YthmcheoehcmglaaGreatK8
import Derived.Test.YthmcheoehcmglaaGreatK1
import Derived.ChangeKeysEq
namespace Go.Proofs.YthmcheoehcmglaaGreat
open Go.RowKit
set_option linter.unusedVariables false

def rsK (b : Int) : List Reg := [(0, 64, b, 7)]

/-- An instruction of theirs, at a place p. -/
theorem execK (b : Int) (k : Nat) (rg : List Int) (p : Nat) (hp : p < 64) (L : List Int) (dv : List DevV) (code ra rb : Nat) (n : Int) (hn0 : 0 ≤ n) (hn1 : n < 65536) (hra : ra < 8) (hrb : rb < 8) (hcode : code < 18) (cyc f : Nat) (hc : codeL[code]? = some (f, cyc)) (c1 : 1 ≤ cyc)
    (hv : L.getD p 0 = ((code : Int) + 1) * 16777216 + (ra : Int) * 1048576 + (rb : Int) * 65536 + n) (rg' : List Int) (p' : Int) (m' : PS)
    (hw : ∀ ck, workM (opsP (rsK b) k ck) code ra rb n (stAt rg ((p : Int) + 1)) ([L], dv) = (0, stAt rg' p', m')) : Tr (rsK b) k cyc (stAt rg p, ([L], dv)) (stAt rg' p', m') := by
  have hf : readN (rsK b) 4 [L] (p : Int) = some (L.getD p 0) := by
    unfold rsK
    rw [readK b 4 (by omega) L p (by omega), if_pos (by omega)]
    simp
  rw [hv] at hf
  refine exec (rsK b) k rg p ([L], dv) _ code cyc f hf (by omega) hc c1 rg' p' m' ?_
  intro ck
  have e1 : ((((code : Int) + 1) * 16777216 + (ra : Int) * 1048576 + (rb : Int) * 65536 + n) / 1048576 % 8).toNat = ra := by omega
  have e2 : ((((code : Int) + 1) * 16777216 + (ra : Int) * 1048576 + (rb : Int) * 65536 + n) / 65536 % 8).toNat = rb := by omega
  have e3 : (((code : Int) + 1) * 16777216 + (ra : Int) * 1048576 + (rb : Int) * 65536 + n) % 65536 = n := by omega
  have e4 : ((p : Int) + 1) % 4294967296 = (p : Int) + 1 := by omega
  rw [e1, e2, e3, e4]
  exact hw ck

theorem parkK (b : Int) (k : Nat) (rg : List Int) (p : Nat) (hp : p < 64) (L : List Int) (dv : List DevV) (code ra rb : Nat) (n : Int) (hn0 : 0 ≤ n) (hn1 : n < 65536) (hra : ra < 8) (hrb : rb < 8) (hcode : code < 18) (cyc f : Nat) (hc : codeL[code]? = some (f, cyc)) (cz : Int) (hcz : cz ≠ 0) (s' : StV)
    (hv : L.getD p 0 = ((code : Int) + 1) * 16777216 + (ra : Int) * 1048576 + (rb : Int) * 65536 + n)
    (hw : ∀ ck, workM (opsP (rsK b) k ck) code ra rb n (stAt rg ((p : Int) + 1)) ([L], dv) = (cz, s', ([L], dv))) : Tr (rsK b) k 1 (stAt rg p, ([L], dv)) (⟨rg, p, 2, cz, 0, false⟩, ([L], dv)) := by
  have hf : readN (rsK b) 4 [L] (p : Int) = some (L.getD p 0) := by
    unfold rsK
    rw [readK b 4 (by omega) L p (by omega), if_pos (by omega)]
    simp
  rw [hv] at hf
  refine exec_park (rsK b) k rg p ([L], dv) _ code cyc f hf (by omega) hc cz hcz s' ?_
  intro ck
  have e1 : ((((code : Int) + 1) * 16777216 + (ra : Int) * 1048576 + (rb : Int) * 65536 + n) / 1048576 % 8).toNat = ra := by omega
  have e2 : ((((code : Int) + 1) * 16777216 + (ra : Int) * 1048576 + (rb : Int) * 65536 + n) / 65536 % 8).toNat = rb := by omega
  have e3 : (((code : Int) + 1) * 16777216 + (ra : Int) * 1048576 + (rb : Int) * 65536 + n) % 65536 = n := by omega
  have e4 : ((p : Int) + 1) % 4294967296 = (p : Int) + 1 := by omega
  rw [e1, e2, e3, e4]
  exact hw ck

/-- A register's number, made by two instructions. -/
theorem tr_word (b : Int) (k : Nat) (rg : List Int) (hrg : rg.length = 8) (p : Nat) (hp : p + 1 < 64) (L : List Int) (dv : List DevV) (ra : Nat) (hra : ra < 8) (v : Int)
    (h1 : L.getD p 0 = 16777216 + (ra : Int) * 1048576 + v / 65536 % 65536) (h2 : L.getD (p + 1) 0 = 33554432 + (ra : Int) * 1048576 + v % 65536) :
    Tr (rsK b) k 2 (stAt rg p, ([L], dv)) (stAt (rg.set ra (v % 4294967296)) ((p + 2 : Nat) : Int), ([L], dv)) := by
  have t1 : Tr (rsK b) k 1 (stAt rg p, ([L], dv)) (stAt (rg.set ra (v / 65536 % 65536)) ((p + 1 : Nat) : Int), ([L], dv)) := by
    refine execK b k rg p (by omega) L dv 0 ra 0 (v / 65536 % 65536) (by omega) (by omega) hra (by omega) (by omega) 1 _ rfl (by omega) (by rw [h1]; omega) _ _ _ ?_
    intro ck
    rfl
  have t2 : Tr (rsK b) k 1 (stAt (rg.set ra (v / 65536 % 65536)) ((p + 1 : Nat) : Int), ([L], dv)) (stAt (rg.set ra (v % 4294967296)) ((p + 2 : Nat) : Int), ([L], dv)) := by
    refine execK b k _ (p + 1) hp L dv 1 ra 0 (v % 65536) (by omega) (by omega) hra (by omega) (by omega) 1 _ rfl (by omega) (by rw [h2]; omega) _ _ _ ?_
    intro ck
    unfold workM
    dsimp only
    have e : ((stAt (rg.set ra (v / 65536 % 65536)) ((p + 1 : Nat) + 1 : Int)).regs.getD ra 0 * 65536 + v % 65536) % 4294967296 = v % 4294967296 := by
      have : (stAt (rg.set ra (v / 65536 % 65536)) ((p + 1 : Nat) + 1 : Int)).regs.getD ra 0 = v / 65536 % 65536 := by
        show (rg.set ra (v / 65536 % 65536)).getD ra 0 = _
        rw [getD_set_eq, if_pos ⟨rfl, by omega⟩]
      rw [this]
      omega
    rw [e]
    show (0, stAt ((rg.set ra (v / 65536 % 65536)).set ra (v % 4294967296)) ((p + 1 : Nat) + 1 : Int), ([L], dv)) = _
    rw [List.set_set]
    rfl
  exact t1.trans t2

theorem haltK (b : Int) (k : Nat) (rg : List Int) (p : Nat) (hp : p < 64) (L : List Int) (dv : List DevV) (hv : L.getD p 0 = 301989888) : Tr (rsK b) k 1 (stAt rg p, ([L], dv)) (⟨rg, ((p + 1 : Nat) : Int), 1, 0, 0, false⟩, ([L], dv)) := by
  have hf : readN (rsK b) 4 [L] (p : Int) = some 301989888 := by
    unfold rsK
    rw [readK b 4 (by omega) L p (by omega), if_pos (by omega), ← hv]
    simp
  have := exec_halt (rsK b) k rg p ([L], dv) hf
  have e4 : ((p : Int) + 1) % 4294967296 = ((p + 1 : Nat) : Int) := by omega
  rw [e4] at this
  exact this

/-- What a Put of such a ward does. -/
theorem putK (b : Int) (L : List Int) (d : DevV) (a v : Int) (a0 : 0 ≤ a) : putP (rsK b) ([L], [d]) a v = if a < 64 then some ([L.set a.toNat v], [d]) else if a = 32769 then some ([L], [(d.1, d.2 ++ [v])]) else none := by
  unfold putP devI
  simp only [List.length_cons, List.length_nil]
  by_cases h1 : a = 32769
  · subst h1
    rw [if_neg (by omega : ¬ (32769 : Int) < 64), if_pos rfl]
    rfl
  · rw [if_neg (by omega), if_neg h1]
    have hI : regI (rsK b) a = if a < 64 then some 0 else none := by
      unfold regI rsK
      rw [List.findIdx?_cons]
      have : inR (0, 64, b, 7) a = decide (a < 64) := by
        unfold inR
        simp only
        rw [decide_eq_true a0]
        simp
      rw [this]
      by_cases h : a < 64
      · rw [decide_eq_true h, if_pos h]; rfl
      · rw [decide_eq_false h, if_neg h]; rfl
    simp only [hI]
    by_cases h : a < 64
    · rw [if_pos h, if_pos h]
      have : regAt (rsK b) 0 = (0, 64, b, 7) := rfl
      have hh : hasR (0, 64, b, 7) 2 = true := by unfold hasR; simp only; decide
      simp only [this, hh, if_true]
      simp
    · rw [if_neg h, if_neg h]

end Go.Proofs.YthmcheoehcmglaaGreat
/- Two machines in one world. -/
namespace Go.Proofs.YthmcheoehcmglaaGreat
open Go.RowKit
set_option linter.unusedVariables false

/-- A block of a kind that only the machine's own blocks have. -/
theorem KerR.ro {x : KX} {ck : Int} {mem : List Int} {w : World} (h : KerR x ck mem w) {i : Nat} {cs : Array Value} {t : TypeId} {f : Nat × Nat} (hi : w.heap[i]? = some (.cells cs t f)) (hvl : x.vD.length = x.dvs.length)
    (h4 : t ≠ 151) (h5 : t ≠ 177) (h6 : t ≠ 3) : KS x i → i = x.X ∨ i = x.M ∨ i = x.gK := by
  rintro (e | e | e | ⟨v, hv, e⟩ | e | e | ⟨v, hv, e⟩)
  · exact .inl e
  · exact .inr (.inl e)
  · exact .inr (.inr e)
  · obtain ⟨k, hk⟩ := List.getElem?_of_mem hv
    have hkl : k < x.regs.length := by rw [h.wn]; exact (List.getElem?_eq_some_iff.1 hk).1
    obtain ⟨v', hv', _, ho⟩ := h.rg k _ (List.getElem?_eq_getElem hkl)
    rw [hk] at hv'
    cases hv'
    exact absurd e (owns_ne ho hi h4)
  · exact absurd e (owns_ne h.wi hi h5)
  · exact absurd e (owns_ne h.hq hi h6)
  · obtain ⟨k, hk⟩ := List.getElem?_of_mem hv
    have hkl : k < x.dvs.length := by rw [← hvl]; exact (List.getElem?_eq_some_iff.1 hk).1
    obtain ⟨v', hv', _, ho⟩ := h.dg k _ (List.getElem?_eq_getElem hkl)
    rw [hk] at hv'
    cases hv'
    exact absurd e (owns_ne ho hi h6)

/-- The kinds of a machine's own blocks. -/
theorem KerF.kind {x : KX} {ck : Int} {mem : List Int} {sts : List StV} {devs : List DevV} {vL : List Value} {w : World} (h : KerF x ck mem sts devs vL w) {i : Nat} (hi : KA x vL i) : ∃ cs t, w.heap[i]? = some (.cells cs t (0, 0)) ∧ t ≠ 151 ∧ t ≠ 177 ∧ t ≠ 3 := by
  rcases hi with rfl | rfl | rfl | rfl | ⟨v, hv, hb⟩
  · exact ⟨_, _, h.r.hx, by decide, by decide, by decide⟩
  · exact ⟨_, _, h.r.hm, by decide, by decide, by decide⟩
  · obtain ⟨c, hc⟩ := h.r.gk
    exact ⟨_, _, hc, by decide, by decide, by decide⟩
  · exact ⟨_, _, h.d.hd, by decide, by decide, by decide⟩
  · obtain ⟨c, hc⟩ := h.d.own hv hb
    exact ⟨_, _, hc, by decide, by decide, by decide⟩

theorem KerF.frS {x : KX} {ck : Int} {mem : List Int} {sts : List StV} {devs : List DevV} {vL : List Value} {w w' : World} {S : Nat → Prop} (h : KerF x ck mem sts devs vL w) (hf : Fr S w w') (hS : ∀ i, S i → ¬ KS x i ∧ ¬ KA x vL i) : KerF x ck mem sts devs vL w' := by
  obtain ⟨L, hL, hs⟩ := h.st
  exact ⟨h.r.fr hf (fun i hi => (hS i hi).1), ⟨L, hf.get hL (fun e => (hS _ e).2 (.inr (.inr (.inl rfl)))), hs⟩, h.sl, h.sb, h.d.fr hf (fun e => (hS _ e).2 (.inr (.inr (.inr (.inl rfl))))) (fun v hv b hb e => (hS _ e).2 (.inr (.inr (.inr (.inr ⟨v, hv, hb⟩))))), h.vdl, h.n64, h.q, h.ql⟩

/-- What one machine writes is nothing to another. -/
theorem Live.other {x y : KX} {s t : KM} {N M : NM} {vL vL' : List Value} {w w' : World} (hx : Live x s N vL w) (hy : Live y t M vL' w) (hd : ∀ i, KA x vL i → ¬ KA y vL' i) (hf : Fr (KA x vL) w w') : Live y t M vL' w' := by
  refine ⟨KerF.frS hy.k hf ?_, hy.n, hy.x⟩
  intro i hi
  refine ⟨fun hk => ?_, hd i hi⟩
  obtain ⟨cs, ty, hc, h4, h5, h6⟩ := KerF.kind hx.k hi
  rcases (KerF.r hy.k).ro hc (KerF.vdl hy.k) h4 h5 h6 hk with e | e | e
  · exact hd i hi (.inl e)
  · exact hd i hi (.inr (.inl e))
  · exact hd i hi (.inr (.inr (.inl e)))

/-- Two machines in one world, all behind the world w. -/
structure Duo (x y : KX) (N M : NM) (w wr : World) : Prop where
  l : ∃ s vL t vL', Live x s N vL wr ∧ Live y t M vL' wr ∧ (∀ i, KA x vL i → w.heap.size ≤ i) ∧ (∀ i, KA y vL' i → w.heap.size ≤ i) ∧ ∀ i, KA x vL i → ¬ KA y vL' i
  f : Fr (fun _ => False) w wr

theorem Duo.symm {x y : KX} {N M : NM} {w wr : World} (h : Duo x y N M w wr) : Duo y x M N w wr := by
  obtain ⟨s, vL, t, vL', h1, h2, h3, h4, h5⟩ := h.l
  exact ⟨⟨t, vL', s, vL, h2, h1, h4, h3, fun i a b => h5 i b a⟩, h.f⟩
theorem Duo.one {x y : KX} {N M : NM} {w wr : World} (h : Duo x y N M w wr) : Going x N w wr := by
  obtain ⟨s, vL, t, vL', h1, h2, h3, h4, h5⟩ := h.l
  exact ⟨⟨s, vL, h1, h3⟩, h.f⟩
theorem Duo.two {x y : KX} {N M : NM} {w wr : World} (h : Duo x y N M w wr) : Going y M w wr := h.symm.one
theorem Duo.fr {x y : KX} {N M : NM} {w wr w' : World} (h : Duo x y N M w wr) (hf : Fr (fun _ => False) wr w') : Duo x y N M w w' := by
  obtain ⟨s, vL, t, vL', h1, h2, h3, h4, h5⟩ := h.l
  exact ⟨⟨s, vL, t, vL', h1.frF hf, h2.frF hf, h3, h4, h5⟩, h.f.step hf (fun _ h => .inl h)⟩

theorem Duo.run {x y : KX} {N M : NM} {w wr : World} (h : Duo x y N M w wr) (n : Int) (L : Nat) (hL : logMax N.devs L) (hLn : 4 * (L + (runN n).toNat) ≤ 140737488355328) (hc : N.ck + (runN n).toNat ≤ 9223372036854775807) (X : Nat) (hX : x.X = X) :
    Calls Tryz.prog 21 #[.pointer (some ⟨X, 0, none⟩), .int .i64 n] wr fun e w' => e = .returned (.int .i64 (runN n)) ∧ Duo x y (iterN x (runN n).toNat N) M w w' := by
  subst hX
  obtain ⟨s, vL, t, vL', h1, h2, h3, h4, h5⟩ := h.l
  refine (h1.run n L hL hLn hc).mono ?_
  rintro e w' ⟨rfl, vL2, g3, g4, g5⟩
  refine ⟨rfl, ⟨_, vL2, t, vL', g3, h1.other h2 h5 g5, ?_, h4, ?_⟩, h.f.step g5 (fun i hi => .inr (h3 i hi))⟩
  · intro i hi
    rcases KA.mono g4 i hi with h6 | h6
    · exact h3 i h6
    · exact Nat.le_trans h.f.size h6
  · intro i hi hj
    rcases KA.mono g4 i hi with h6 | h6
    · exact h5 i h6 hj
    · have := KerF.ltA h2.k hj
      omega

theorem Duo.latch {x y : KX} {N M : NM} {w wr : World} (h : Duo x y N M w wr) (X : Nat) (hX : x.X = X) (i : Nat) (hi : i < x.dn) (v : Int) (v0 : 0 ≤ v) (v1 : v < 4294967296) :
    Calls Tryz.prog 33 #[.pointer (some ⟨X, 0, none⟩), .int .i64 i, .int .u32 v] wr fun e w' => e = .returned (.int .i64 0) ∧ Duo x y (latchN N i v) M w w' := by
  subst hX
  obtain ⟨s, vL, t, vL', h1, h2, h3, h4, h5⟩ := h.l
  have hd : s.devs[i]? = some (s.devs.getD i zeroD) := getD_some _ _ _ (by rw [(KerF.d h1.k).n1]; exact hi)
  refine (latch_yes x s.ck s.mem s.sts s.devs vL wr h1.k i _ hd v v0 v1).mono ?_
  rintro e w' ⟨rfl, g3, g4⟩
  have gA : Fr (KA x vL) wr w' := ⟨g4.os, g4.tape, g4.output, g4.size, fun k hk hn => g4.block k hk (fun e => hn (by rw [e]; exact .inr (.inr (.inr (.inl rfl)))))⟩
  refine ⟨rfl, ⟨{ s with devs := s.devs.set i (v, (s.devs.getD i zeroD).2) }, vL, t, vL', ⟨g3, ?_, h1.x⟩, h1.other h2 h5 gA, h3, h4, h5⟩, h.f.step gA (fun b hb => .inr (h3 b hb))⟩
  have hn := h1.n
  refine ⟨hn.ck, hn.c0, hn.hi, by unfold latchN; simp only; rw [hn.dv], hn.sl, hn.t0, hn.t1, hn.lo, hn.ar, hn.st, hn.sb, hn.nw, hn.ni, ?_⟩
  intro d hd'
  unfold latchN at hd'
  simp only at hd'
  rcases List.mem_or_eq_of_mem_set hd' with h5 | h5
  · exact hn.nd d h5
  · rw [h5]; exact ⟨v0, v1⟩

/-- A second machine is made. -/
theorem duo_boot {x y : KX} {N M : NM} {w w1 w2 : World} {t : KM} {vL' : List Value} (h : Going x N w w1) (hy : Live y t M vL' w2) (hf : Fr (fun _ => False) w1 w2) (hb : ∀ i, KA y vL' i → w1.heap.size ≤ i) : Duo x y N M w w2 := by
  obtain ⟨s, vL, h1, h2⟩ := h.l
  refine ⟨⟨s, vL, t, vL', h1.frF hf, hy, h2, fun i hi => Nat.le_trans h.f.size (hb i hi), ?_⟩, h.f.step hf (fun _ h => .inl h)⟩
  intro i hi hj
  have := KerF.ltA h1.k hi
  have := hb i hj
  omega

end Go.Proofs.YthmcheoehcmglaaGreat
/- Arrays compared with themselves. -/
namespace Go.Proofs.YthmcheoehcmglaaGreat
open Go.RowKit

theorem eq8 (q : IntKind) (t e : TypeId) (d : Nat) (i : TypeInfo) (hu : Tryz.prog.underlying t = some (.array 8 e)) (he : Tryz.prog.underlying e = some (.int q)) (hi : Tryz.prog.info? e = some i) (hc : Tryz.prog.cellsOf e = 1) (hp : Tryz.prog.plainKey e = true) (r0 r1 r2 r3 r4 r5 r6 r7 : Int) (w : World) :
    (Op.equalIn (d + 2) t (.agg #[.int q r0, .int q r1, .int q r2, .int q r3, .int q r4, .int q r5, .int q r6, .int q r7]) (.agg #[.int q r0, .int q r1, .int q r2, .int q r3, .int q r4, .int q r5, .int q r6, .int q r7])).run Tryz.prog w = .ok true w := by
  have hp8 : ∀ (off : Nat) (v : Value), (#[.int q r0, .int q r1, .int q r2, .int q r3, .int q r4, .int q r5, .int q r6, .int q r7] : Array Value)[off]? = some v → (part e #[.int q r0, .int q r1, .int q r2, .int q r3, .int q r4, .int q r5, .int q r6, .int q r7] off).run Tryz.prog w = .ok v w := fun off v h => run_part_plain w hp h
  have heq : ∀ r : Int, (Op.equalIn (d + 1) e (.int q r) (.int q r)).run Tryz.prog w = .ok true w := by
    intro r
    simp [Op.equalIn, run_underlying he]
  rw [run_equalIn_array w (d + 1) _ _ hu hi, hc]
  simp only [List.range_succ, List.range_zero, List.nil_append, List.cons_append, Op.eqItems, Sem.run_bind, Nat.mul_one]
  rw [hp8 0 (.int q r0) rfl]
  simp only [Result.andThen_ok]
  rw [hp8 0 (.int q r0) rfl]
  simp only [Result.andThen_ok, heq, Bool.not_true, Bool.false_eq_true, if_false, Sem.run_bind]
  rw [hp8 1 (.int q r1) rfl]
  simp only [Result.andThen_ok]
  rw [hp8 1 (.int q r1) rfl]
  simp only [Result.andThen_ok, heq, Bool.not_true, Bool.false_eq_true, if_false, Sem.run_bind]
  rw [hp8 2 (.int q r2) rfl]
  simp only [Result.andThen_ok]
  rw [hp8 2 (.int q r2) rfl]
  simp only [Result.andThen_ok, heq, Bool.not_true, Bool.false_eq_true, if_false, Sem.run_bind]
  rw [hp8 3 (.int q r3) rfl]
  simp only [Result.andThen_ok]
  rw [hp8 3 (.int q r3) rfl]
  simp only [Result.andThen_ok, heq, Bool.not_true, Bool.false_eq_true, if_false, Sem.run_bind]
  rw [hp8 4 (.int q r4) rfl]
  simp only [Result.andThen_ok]
  rw [hp8 4 (.int q r4) rfl]
  simp only [Result.andThen_ok, heq, Bool.not_true, Bool.false_eq_true, if_false, Sem.run_bind]
  rw [hp8 5 (.int q r5) rfl]
  simp only [Result.andThen_ok]
  rw [hp8 5 (.int q r5) rfl]
  simp only [Result.andThen_ok, heq, Bool.not_true, Bool.false_eq_true, if_false, Sem.run_bind]
  rw [hp8 6 (.int q r6) rfl]
  simp only [Result.andThen_ok]
  rw [hp8 6 (.int q r6) rfl]
  simp only [Result.andThen_ok, heq, Bool.not_true, Bool.false_eq_true, if_false, Sem.run_bind]
  rw [hp8 7 (.int q r7) rfl]
  simp only [Result.andThen_ok]
  rw [hp8 7 (.int q r7) rfl]
  simp only [Result.andThen_ok, heq, Bool.not_true, Bool.false_eq_true, if_false, Sem.run_pure]

theorem eq8u (r0 r1 r2 r3 r4 r5 r6 r7 : Int) (w : World) : (Op.equalIn 9999 46 (.agg #[.int .u32 r0, .int .u32 r1, .int .u32 r2, .int .u32 r3, .int .u32 r4, .int .u32 r5, .int .u32 r6, .int .u32 r7]) (.agg #[.int .u32 r0, .int .u32 r1, .int .u32 r2, .int .u32 r3, .int .u32 r4, .int .u32 r5, .int .u32 r6, .int .u32 r7])).run Tryz.prog w = .ok true w := by
  obtain ⟨i0, hi0⟩ : ∃ i, Tryz.prog.info? 33 = some i := info_of_underlying Tryz.underlying33
  exact eq8 .u32 46 33 9997 i0 Tryz.underlying46 Tryz.underlying33 hi0 (by kernel_rfl) (by kernel_rfl) r0 r1 r2 r3 r4 r5 r6 r7 w

end Go.Proofs.YthmcheoehcmglaaGreat
/- wardskeep.alike. -/
namespace Go.Proofs.YthmcheoehcmglaaGreat
open Go.RowKit
set_option linter.unusedVariables false
attribute [local go_sem ↓] Go.wp_at_zero Go.wp_at_succ
attribute [local go_sem] eq8u

/-- A ward is the same in both machines. -/
structure Alike (x y : KX) (N M : NM) (k : Nat) : Prop where
  kx : k < x.regs.length
  ky : k < y.regs.length
  dx : k < x.dn
  dy : k < y.dn
  rx : ∃ b, x.regs.getD k [] = rsK b
  ry : ∃ b, y.regs.getD k [] = rsK b
  now : (N.wn.getD k zeroWN).now = (M.wn.getD k zeroWN).now
  ws : ∃ L, (N.wn.getD k zeroWN).ws = [L] ∧ (M.wn.getD k zeroWN).ws = [L]
  dv : N.devs.getD k zeroD = M.devs.getD k zeroD

theorem Going.stA {x : KX} {N : NM} {w wr : World} (h : Going x N w wr) (k : Nat) (hk : k < x.regs.length) : StB (N.wn.getD k zeroWN).now := by
  obtain ⟨s, vL, h1, h2⟩ := h.l
  have hk2 : k < N.wn.length := by have := h1.n.hi.wl; rw [List.length_map] at this; omega
  have hv : N.wn[k]? = some N.wn[k] := List.getElem?_eq_getElem hk2
  rw [getD_of hv]
  exact (h1.n.sb _ (List.getElem_mem hk2)).1

set_option maxRecDepth 100000 in
set_option maxHeartbeats 4000000 in
theorem alike_any (x y : KX) (N M : NM) (w wz : World) (h : Duo x y N M w wz) (k : Nat) (ha : Alike x y N M k) (X Y : Nat) (hX : x.X = X) (hY : y.X = Y) :
    Calls Tryz.prog 35 #[.pointer (some ⟨X, 0, none⟩), .pointer (some ⟨Y, 0, none⟩), .int .i64 k] wz fun e w' => e = .returned (.bool true) ∧ Fr (fun _ => False) wz w' := by
  have hB := h.two.stA k ha.ky
  obtain ⟨bx, hbx⟩ := ha.rx
  obtain ⟨by', hby⟩ := ha.ry
  obtain ⟨L, hwx, hwy⟩ := ha.ws
  have HVX := hid (fun (w1 : World) (h1 : Duo x y N M w w1) => h1.one.view X hX k ha.kx)
  have HVY := hid (fun (w1 : World) (h1 : Duo x y N M w w1) => h1.two.view Y hY k ha.ky)
  have HPX := hid (fun (w1 : World) (h1 : Duo x y N M w w1) (i : Nat) (hi : i < 64) => h1.one.peek X hX k ha.kx i (by omega) (by omega))
  have HPY := hid (fun (w1 : World) (h1 : Duo x y N M w w1) (i : Nat) (hi : i < 64) => h1.two.peek Y hY k ha.ky i (by omega) (by omega))
  have HLX := hid (fun (w1 : World) (h1 : Duo x y N M w w1) => h1.one.log X hX k ha.dx)
  have HLY := hid (fun (w1 : World) (h1 : Duo x y N M w w1) => h1.two.log Y hY k ha.dy)
  have hrd : ∀ (b : Int) (i : Nat), i < 64 → readN (rsK b) 0 [L] (i : Int) = some (L.getD i 0) := by
    intro b i hi
    unfold rsK
    rw [readK _ 0 (by omega) _ _ (by omega), if_pos (by omega), Int.toNat_natCast]
  rw [ha.now] at HVX
  rw [ha.dv] at HLX
  rw [hbx, hwx] at HPX
  rw [hby, hwy] at HPY
  obtain ⟨r0, r1, r2, r3, r4, r5, r6, r7, hr, hc⟩ := st_lit _ hB.l
  rw [hc] at HVX HVY
  obtain ⟨s0, hs0⟩ : ∃ s0, (M.wn.getD k zeroWN).now = s0 := ⟨_, rfl⟩
  obtain ⟨lg, hlg⟩ : ∃ lg, logS (M.devs.getD k zeroD).2 = lg := ⟨_, rfl⟩
  rw [hs0] at HVX HVY
  rw [hlg] at HLX HLY
  have HD := hid h
  have HRD := hid hrd
  clear hB hr hc hs0 hlg hbx hby hwx hwy ha h hrd hX hY
  go_enter Tryz.func35, Tryz.ntmps35
  go_wp2_with fail
  refine (HVX.out _ HD.out).mono ?_
  rintro e w1 ⟨rfl, hf1⟩
  have HF1 : Hid (Fr (fun _ => False) wz (w1.alloc (.cells #[.int .u32 r0, .int .u32 r1, .int .u32 r2, .int .u32 r3, .int .u32 r4, .int .u32 r5, .int .u32 r6, .int .u32 r7, .int .u32 s0.place, .int .i64 s0.status, .int .i64 s0.cause, .int .i64 s0.busy, .bool s0.y] 48))) := hf1.alloc _
  have HB1 := hid (heap_alloc_new w1 (.cells #[.int .u32 r0, .int .u32 r1, .int .u32 r2, .int .u32 r3, .int .u32 r4, .int .u32 r5, .int .u32 r6, .int .u32 r7, .int .u32 s0.place, .int .i64 s0.status, .int .i64 s0.cause, .int .i64 s0.busy, .bool s0.y] 48))
  clear hf1
  go_wp2_with fail
  generalize w1.alloc (.cells #[.int .u32 r0, .int .u32 r1, .int .u32 r2, .int .u32 r3, .int .u32 r4, .int .u32 r5, .int .u32 r6, .int .u32 r7, .int .u32 s0.place, .int .i64 s0.status, .int .i64 s0.cause, .int .i64 s0.busy, .bool s0.y] 48) = w2 at *
  generalize w1.heap.size = B at *
  refine (HVY.out _ (HD.out.fr HF1.out)).mono ?_
  rintro e w3 ⟨rfl, hf3⟩
  have HF3 := hid (HF1.out.step hf3 (fun _ h => .inl h))
  have hB3 := get_alloc (hf3.get HB1.out id) (.cells #[.int .u32 r0, .int .u32 r1, .int .u32 r2, .int .u32 r3, .int .u32 r4, .int .u32 r5, .int .u32 r6, .int .u32 r7, .int .u32 s0.place, .int .i64 s0.status, .int .i64 s0.cause, .int .i64 s0.busy, .bool s0.y] 48)
  have HB3 := hid hB3
  have HB4 := hid (heap_alloc_new w3 (.cells #[.int .u32 r0, .int .u32 r1, .int .u32 r2, .int .u32 r3, .int .u32 r4, .int .u32 r5, .int .u32 r6, .int .u32 r7, .int .u32 s0.place, .int .i64 s0.status, .int .i64 s0.cause, .int .i64 s0.busy, .bool s0.y] 48))
  have HF4 : Hid (Fr (fun _ => False) wz (w3.alloc (.cells #[.int .u32 r0, .int .u32 r1, .int .u32 r2, .int .u32 r3, .int .u32 r4, .int .u32 r5, .int .u32 r6, .int .u32 r7, .int .u32 s0.place, .int .i64 s0.status, .int .i64 s0.cause, .int .i64 s0.busy, .bool s0.y] 48))) := HF3.out.alloc _
  have d0 : ∀ o, (w3.alloc o).cell? ⟨B, 0, none⟩ = some (.int .u32 r0) := fun o => row_cell (get_alloc (hf3.get HB1.out id) o) 0
  have d1 : ∀ o, (w3.alloc o).cell? ⟨B, 1, none⟩ = some (.int .u32 r1) := fun o => row_cell (get_alloc (hf3.get HB1.out id) o) 1
  have d2 : ∀ o, (w3.alloc o).cell? ⟨B, 2, none⟩ = some (.int .u32 r2) := fun o => row_cell (get_alloc (hf3.get HB1.out id) o) 2
  have d3 : ∀ o, (w3.alloc o).cell? ⟨B, 3, none⟩ = some (.int .u32 r3) := fun o => row_cell (get_alloc (hf3.get HB1.out id) o) 3
  have d4 : ∀ o, (w3.alloc o).cell? ⟨B, 4, none⟩ = some (.int .u32 r4) := fun o => row_cell (get_alloc (hf3.get HB1.out id) o) 4
  have d5 : ∀ o, (w3.alloc o).cell? ⟨B, 5, none⟩ = some (.int .u32 r5) := fun o => row_cell (get_alloc (hf3.get HB1.out id) o) 5
  have d6 : ∀ o, (w3.alloc o).cell? ⟨B, 6, none⟩ = some (.int .u32 r6) := fun o => row_cell (get_alloc (hf3.get HB1.out id) o) 6
  have d7 : ∀ o, (w3.alloc o).cell? ⟨B, 7, none⟩ = some (.int .u32 r7) := fun o => row_cell (get_alloc (hf3.get HB1.out id) o) 7
  have d8 : ∀ o, (w3.alloc o).cell? ⟨B, 8, none⟩ = some (.int .u32 s0.place) := fun o => row_cell (get_alloc (hf3.get HB1.out id) o) 8
  have d9 : ∀ o, (w3.alloc o).cell? ⟨B, 9, none⟩ = some (.int .i64 s0.status) := fun o => row_cell (get_alloc (hf3.get HB1.out id) o) 9
  have d10 : ∀ o, (w3.alloc o).cell? ⟨B, 10, none⟩ = some (.int .i64 s0.cause) := fun o => row_cell (get_alloc (hf3.get HB1.out id) o) 10
  have d11 : ∀ o, (w3.alloc o).cell? ⟨B, 11, none⟩ = some (.int .i64 s0.busy) := fun o => row_cell (get_alloc (hf3.get HB1.out id) o) 11
  have d12 : ∀ o, (w3.alloc o).cell? ⟨B, 12, none⟩ = some (.bool s0.y) := fun o => row_cell (get_alloc (hf3.get HB1.out id) o) 12
  have hBlt : B ≠ w3.heap.size := by have := lt_of_get (hf3.get HB1.out id); omega
  clear hf3 hB3
  go_wp2_with fail
  clear d0 d1 d2 d3 d4 d5 d6 d7 d8 d9 d10 d11 d12 HB1 HB3 HB4 HF3 HF1 HVX HVY
  generalize w3.alloc (.cells #[.int .u32 r0, .int .u32 r1, .int .u32 r2, .int .u32 r3, .int .u32 r4, .int .u32 r5, .int .u32 r6, .int .u32 r7, .int .u32 s0.place, .int .i64 s0.status, .int .i64 s0.cause, .int .i64 s0.busy, .bool s0.y] 48) = w4 at *
  go_loopw [11] (fun i wq => ∃ j : Nat, j ≤ 64 ∧ i = .int .i64 j ∧ Fr (fun _ => False) wz wq) (fun i _ => 64 - (intOf i).toNat)
  case atStart => exact ⟨0, Nat.zero_le _, rfl, HF4.out⟩
  case round =>
    obtain ⟨j, hj, rfl, hf⟩ := hrel
    clear HF4
    by_cases hlt : j < 64
    · have hji : (j : Int) < 64 := by omega
      have HFQ := hid hf
      have HP1 := hid (fun (w1 : World) (h1 : Fr (fun _ => False) wz w1) => HPX.out w1 (HD.out.fr h1) j hlt)
      have HP2 := hid (fun (w1 : World) (h1 : Fr (fun _ => False) wz w1) => HPY.out w1 (HD.out.fr h1) j hlt)
      rw [HRD.out _ j hlt] at HP1 HP2
      generalize L.getD j 0 = lv at *
      replace HP1 : Hid (∀ w1, Fr (fun _ => False) wz w1 → Calls Tryz.prog 22 #[.pointer (some ⟨X, 0, none⟩), .int .i64 k, .int .u32 j] w1 fun e w' => e = .returned (.tuple #[.int .u32 lv, .int .i64 0]) ∧ Fr (fun _ => False) w1 w') := HP1
      replace HP2 : Hid (∀ w1, Fr (fun _ => False) wz w1 → Calls Tryz.prog 22 #[.pointer (some ⟨Y, 0, none⟩), .int .i64 k, .int .u32 j] w1 fun e w' => e = .returned (.tuple #[.int .u32 lv, .int .i64 0]) ∧ Fr (fun _ => False) w1 w') := HP2
      clear hf
      go_wp2_with fail
      refine (HP1.out _ HFQ.out).mono ?_
      rintro e w5 ⟨rfl, hf5⟩
      have HF5 := hid (HFQ.out.step hf5 (fun _ h => .inl h))
      clear hf5
      go_wp2_with fail
      refine (HP2.out _ HF5.out).mono ?_
      rintro e w6 ⟨rfl, hf6⟩
      have HF6 := hid (HF5.out.step hf6 (fun _ h => .inl h))
      clear hf6
      go_wp2_with fail
      go_roundw
      case rel => exact ⟨j + 1, by omega, by go_num, HF6.out⟩
      case measure => simp [intOf]; omega
    · obtain rfl : j = 64 := by omega
      have HFQ := hid hf
      clear hf
      go_wp2_with fail
      refine (HLX.out _ (HD.out.fr HFQ.out)).mono ?_
      rintro e w5 ⟨rfl, hw5⟩
      obtain rfl := hw5.symm
      go_wp2_with fail
      refine (HLY.out _ (HD.out.fr HFQ.out)).mono ?_
      rintro e w5 ⟨rfl, hw5⟩
      obtain rfl := hw5.symm
      go_wp2_with fail
      go_ret
      exact ⟨rfl, HFQ.out⟩

end Go.Proofs.YthmcheoehcmglaaGreat
