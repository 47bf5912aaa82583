/- The reference's read: steps, and the walk. -/
import Derived.Test.YthmcheoehcmglaaGreatR12
namespace Go.Proofs.YthmcheoehcmglaaGreat
open Go.RowKit
set_option linter.unusedVariables false
attribute [local go_sem ↓] Go.wp_at_zero Go.wp_at_succ

theorem RdIn.fr {w wr wa : World} {gap mem : Int} {rws : List RWard} {wi : List (Int × Int × Int × Int)} {nd : Nat} {vW vI vD : Value} (h : RdIn w gap mem rws wi nd vW vI vD wr) (hf : Fr (fun _ => False) wr wa) : RdIn w gap mem rws wi nd vW vI vD wa :=
  ⟨h.n.fr hf, h.f.step hf (fun _ h => .inl h), h.bw, h.bi, h.bd, h.sp, h.sb, hf.ownsF _ h.dz⟩

theorem RdIn.appW {w wa w7 : World} {gap mem : Int} {rws : List RWard} {wi : List (Int × Int × Int × Int)} {nd : Nat} {vW vI vD : Value} (h : RdIn w gap mem rws wi nd vW vI vD wa) (x : RWard) (hx1 : RRegsAt wa 0 x.vR x.regs ∧ x.now.regs.length = 8 ∧ x.then_.regs.length = 8) (hx2 : wa.ownsRow 0 3 1 x.vD x.devs.length (x.devs.map (Value.int .i64)))
    (H : Nat) (hx3 : (∀ r ∈ x.regs, H ≤ r.g) ∧ ∀ b, x.vR.ownBlock = some b → H ≤ b) (hx4 : w.heap.size ≤ H) (hx5 : ∀ y ∈ rws, ∀ r ∈ y.regs, r.g < H)
    (g cap : Nat) (ho : w7.ownsRow 0 130 29 (.slice (some ⟨g, 0, none⟩) (rws.length + 1) cap) (rws.length + 1) (rws.flatMap rwardCells ++ (rwardCells x).toArray.toList)) (hf : Fr (fun i => vW.ownBlock = some i) wa w7) (hat : vW.ownBlock = some g ∨ g = wa.heap.size) :
    RdIn w gap mem (rws ++ [x]) wi nd (.slice (some ⟨g, 0, none⟩) (rws.length + 1) cap) vI vD (w7.setCell ⟨w.heap.size, 2, none⟩ (.slice (some ⟨g, 0, none⟩) (rws.length + 1) cap)) := by
  have hy7 := Keep.app hf h.n.ow _ _ _ _ h.n.hy (by decide)
  have B := (h.n.b.appW x hx1 hx2 ho hf).keep (Keep.set (j := 2) hy7 (.slice (some ⟨g, 0, none⟩) (rws.length + 1) cap))
  refine ⟨B.at (by rw [row_set hy7]; simp), (h.f.step hf (fun i hi => .inr (h.bw i hi))).setCell (p := ⟨w.heap.size, 2, none⟩) (.inr (Nat.le_refl _)) _, ?_, h.bi, h.bd, ?_, ?_, (Keep.set (j := 2) hy7 _).owns _ (by decide) ((Keep.app hf h.n.ow).owns _ (by decide) h.dz)⟩
  rotate_left
  · rw [List.flatMap_append, List.pairwise_append]
    refine ⟨h.sp, by simpa using hx1.1.inc, ?_⟩
    intro a ha b hb
    obtain ⟨y, hy, hya⟩ := List.mem_flatMap.1 ha
    obtain ⟨r, hr, rfl⟩ := List.mem_map.1 hya
    simp only [List.flatMap_cons, List.flatMap_nil, List.append_nil] at hb
    obtain ⟨r', hr', rfl⟩ := List.mem_map.1 hb
    have := hx5 y hy r hr
    have := hx3.1 r' hr'
    omega
  · intro y hy
    rcases List.mem_append.1 hy with hy | hy
    · exact h.sb y hy
    · rw [List.mem_singleton.1 hy]
      exact ⟨fun r hr => Nat.le_trans hx4 (hx3.1 r hr), fun b hb => Nat.le_trans hx4 (hx3.2 b hb)⟩
  intro k hk
  simp only [Value.ownBlock, Option.some.injEq] at hk
  subst hk
  rcases hat with e | e
  · exact h.bw _ e
  · rw [e]; exact h.f.size
theorem RdIn.appI {w wa w7 : World} {gap mem : Int} {rws : List RWard} {wi : List (Int × Int × Int × Int)} {nd : Nat} {vW vI vD : Value} (h : RdIn w gap mem rws wi nd vW vI vD wa) (x : Int × Int × Int × Int)
    (g cap : Nat) (ho : w7.ownsRow 0 124 4 (.slice (some ⟨g, 0, none⟩) (wi.length + 1) cap) (wi.length + 1) (wi.flatMap rwireCells ++ (rwireCells x).toArray.toList)) (hf : Fr (fun i => vI.ownBlock = some i) wa w7) (hat : vI.ownBlock = some g ∨ g = wa.heap.size) :
    RdIn w gap mem rws (wi ++ [x]) nd vW (.slice (some ⟨g, 0, none⟩) (wi.length + 1) cap) vD (w7.setCell ⟨w.heap.size, 3, none⟩ (.slice (some ⟨g, 0, none⟩) (wi.length + 1) cap)) := by
  have hy7 := Keep.app hf h.n.iw _ _ _ _ h.n.hy (by decide)
  have B := (h.n.b.appI x ho hf).keep (Keep.set (j := 3) hy7 (.slice (some ⟨g, 0, none⟩) (wi.length + 1) cap))
  refine ⟨B.at (by rw [row_set hy7]; simp), (h.f.step hf (fun i hi => .inr (h.bi i hi))).setCell (p := ⟨w.heap.size, 3, none⟩) (.inr (Nat.le_refl _)) _, h.bw, ?_, h.bd, h.sp, h.sb, (Keep.set (j := 3) hy7 _).owns _ (by decide) ((Keep.app hf h.n.iw).owns _ (by decide) h.dz)⟩
  intro k hk
  simp only [Value.ownBlock, Option.some.injEq] at hk
  subst hk
  rcases hat with e | e
  · exact h.bi _ e
  · rw [e]; exact h.f.size
theorem RdIn.appD {w wa w7 : World} {gap mem : Int} {rws : List RWard} {wi : List (Int × Int × Int × Int)} {nd : Nat} {vW vI vD : Value} (h : RdIn w gap mem rws wi nd vW vI vD wa) (h0 : wa.ownsRow 0 157 2 vD nd (devZ nd))
    (g cap : Nat) (ho : w7.ownsRow 0 157 2 (.slice (some ⟨g, 0, none⟩) (nd + 1) cap) (nd + 1) (devZ nd ++ [Value.int .i64 0, Value.slice none 0 0])) (hf : Fr (fun i => vD.ownBlock = some i) wa w7) (hat : vD.ownBlock = some g ∨ g = wa.heap.size) :
    RdIn w gap mem rws wi (nd + 1) vW vI (.slice (some ⟨g, 0, none⟩) (nd + 1) cap) (w7.setCell ⟨w.heap.size, 4, none⟩ (.slice (some ⟨g, 0, none⟩) (nd + 1) cap)) := by
  have hy7 := Keep.app hf h0 _ _ _ _ h.n.hy (by decide)
  have B := (h.n.b.appD h0 ho hf).keep (Keep.set (j := 4) hy7 (.slice (some ⟨g, 0, none⟩) (nd + 1) cap))
  refine ⟨B.at (by rw [row_set hy7]; simp), (h.f.step hf (fun i hi => .inr (h.bd i hi))).setCell (p := ⟨w.heap.size, 4, none⟩) (.inr (Nat.le_refl _)) _, h.bw, h.bi, ?_, h.sp, h.sb, ?_⟩
  rotate_left
  · rw [devZ_succ]
    exact (Keep.set (j := 4) hy7 _).owns _ (by decide) ho
  intro k hk
  simp only [Value.ownBlock, Option.some.injEq] at hk
  subst hk
  rcases hat with e | e
  · exact h.bd _ e
  · rw [e]; exact h.f.size

theorem RdIn.start (w : World) (gap mem : Int) (wr : World) (h1 : wr.heap[w.heap.size]? = some (.cells #[.int .i64 gap, .int .i64 mem, .slice none 0 0, .slice none 0 0, .slice none 0 0, .int .i64 0] 122 (0, 0))) (hf : Fr (fun _ => False) w wr) :
    RdIn w gap mem [] [] 0 (.slice none 0 0) (.slice none 0 0) (.slice none 0 0) wr :=
  ⟨⟨h1, World.ownsRow_nil _ _ _ _, by simp, by simp, World.ownsRow_nil _ _ _ _, [], World.ownsRow_nil _ _ _ _⟩, hf, by simp [Value.ownBlock], by simp [Value.ownBlock], by simp [Value.ownBlock], by simp, by simp, World.ownsRow_nil _ _ _ _⟩

theorem st_one (pl : Int) : (([.int .i64 0, .int .i64 0, .int .i64 0, .int .i64 0, .int .i64 0, .int .i64 0, .int .i64 0, .int .i64 0, .int .i64 pl, .int .i64 0, .int .i64 0, .int .i64 0, .bool false] : List Value).toArray).all (·.oneCell') = true := by
  simp only [List.all_toArray, List.all_cons, List.all_nil]
  rfl

/-- The cells of a block; is it a ward's? -/
def wardRow (w : World) (b : Nat) : Array Value := match w.heap[b]? with | some (.cells cs _ _) => cs | _ => #[]
def wardIs (w : World) (b : Nat) : Bool := match w.heap[b]? with | some (.cells cs t fr) => t == 130 && fr == (0, 0) && cs.size == 29 | _ => false
theorem load_wardRow (w : World) (b : Nat) (h : wardIs w b = true) : (loadVar 130 ⟨b, 0, none⟩).run Tryz.prog w = .ok (.agg (wardRow w b)) w := by
  unfold wardIs at h
  unfold wardRow
  cases hb : w.heap[b]? with
  | none => simp [hb] at h
  | some o =>
    cases o with
    | cells cs t fr =>
      simp only [hb, Bool.and_eq_true, beq_iff_eq] at h
      obtain ⟨⟨rfl, rfl⟩, hs⟩ := h
      have hi : (Tryz.prog.info? 130).map (·.size) = some cs.size := by rw [hs]; kernel_rfl
      exact run_loadVar_row w b _ 130 cs (0, 0) _ hb Tryz.underlying130 rfl hi
    | _ => simp [hb] at h
def wardLoad (v : Value) : Sem Value := Instr.loadAt 130 v
theorem wardLoad_fold (v : Value) : Instr.loadAt 130 v = wardLoad v := rfl
theorem wardLoad_run (w : World) (b : Nat) (h : wardIs w b = true) : (wardLoad (.pointer (some ⟨b, 0, none⟩))).run Tryz.prog w = .ok (.agg (wardRow w b)) w := by
  unfold wardLoad
  simp only [Instr.loadAt, Instr.sureAddr, Sem.run_bind, Sem.run_pure, Result.andThen_ok, load_wardRow w b h]
attribute [local go_sem ↓] wardLoad_fold
attribute [local go_sem] wardLoad_run

theorem rw_one2 (q pl : Int) (vR : Value) (hv : vR.oneCell' = true) : ∀ u ∈ (#[.int .i64 q, vR, .slice none 0 0, .int .i64 0, .int .i64 0, .int .i64 0, .int .i64 0, .int .i64 0, .int .i64 0, .int .i64 0, .int .i64 0, .int .i64 pl, .int .i64 0, .int .i64 0, .int .i64 0, .bool false, .int .i64 0, .int .i64 0, .int .i64 0, .int .i64 0, .int .i64 0, .int .i64 0, .int .i64 0, .int .i64 0, .int .i64 pl, .int .i64 0, .int .i64 0, .int .i64 0, .bool false] : Array Value).toList, u.oneCell' = true := by
  simp only [List.forall_mem_cons, List.not_mem_nil, false_implies, implies_true, and_true]
  exact ⟨rfl, hv, rfl, rfl, rfl, rfl, rfl, rfl, rfl, rfl, rfl, rfl, rfl, rfl, rfl, rfl, rfl, rfl, rfl, rfl, rfl, rfl, rfl, rfl, rfl, rfl, rfl, rfl, rfl⟩

theorem own_block {w : World} {base e size n g cap : Nat} {xs : List Value} (h : w.ownsRow base e size (.slice (some ⟨g, 0, none⟩) n cap) n xs) : ∃ cur, w.heap[g]? = some (.cells cur e (0, 0)) := by
  rcases h.2 with ⟨h1, _⟩ | ⟨g', cap', cur, h1, hb, hg, _⟩
  · simp at h1
  · simp only [Value.slice.injEq, Option.some.injEq, Addr.mk.injEq] at h1
    obtain ⟨⟨rfl, _⟩, _, rfl⟩ := h1
    exact ⟨cur, hg⟩

theorem regs_set (rws : List RWard) (k : Nat) (y : RWard) (hy : rws[k]? = some y) (v : Value) (d : Int) : (rws.set k (addDev y v d)).flatMap (fun y => y.regs.map (·.g)) = rws.flatMap (fun y => y.regs.map (·.g)) := by
  have e : (rws.set k (addDev y v d)).map (fun y => y.regs.map (·.g)) = rws.map (fun y => y.regs.map (·.g)) := by
    rw [List.map_set]
    apply List.ext_getElem?
    intro i
    rw [List.getElem?_set]
    by_cases h : k = i
    · subst h
      have := (List.getElem?_eq_some_iff.1 hy).1
      simp only [if_true, List.length_map, this, List.getElem?_map, hy, Option.map_some]
      rfl
    · rw [if_neg h]
  rw [List.flatMap_def, List.flatMap_def, e]

theorem RdIn.appV {w wa w7 : World} {gap mem : Int} {rws : List RWard} {wi : List (Int × Int × Int × Int)} {nd gW cW B : Nat} {vI vD : Value} (h : RdIn w gap mem rws wi nd (.slice (some ⟨gW, 0, none⟩) rws.length cW) vI vD wa) (D : DevIn B rws) (hB : B ≤ wa.heap.size) (hwB : w.heap.size ≤ B)
    (k : Nat) (y : RWard) (hy : rws[k]? = some y) (d : Int) (g cap : Nat)
    (ho : w7.ownsRow 0 3 1 (.slice (some ⟨g, 0, none⟩) (y.devs.length + 1) cap) (y.devs.length + 1) (y.devs.map (Value.int .i64) ++ [Value.int .i64 d])) (hf : Fr (fun i => y.vD.ownBlock = some i) wa w7) (hat : y.vD.ownBlock = some g ∨ g = wa.heap.size) :
    RdIn w gap mem (rws.set k (addDev y (.slice (some ⟨g, 0, none⟩) (y.devs.length + 1) cap) d)) wi nd (.slice (some ⟨gW, 0, none⟩) rws.length cW) vI vD (w7.setCell ⟨gW, k * 29 + 2, none⟩ (.slice (some ⟨g, 0, none⟩) (y.devs.length + 1) cap)) ∧
      DevIn B (rws.set k (addDev y (.slice (some ⟨g, 0, none⟩) (y.devs.length + 1) cap) d)) := by
  have hym : y ∈ rws := List.mem_of_getElem? hy
  have K := Keep.app hf (h.n.dr y hym)
  obtain ⟨cur, hgW⟩ := own_block (K.owns _ (by decide) h.n.ow)
  obtain ⟨nb, dv, fr⟩ := h.n.b.appV D hB k y hy d g cap ho hf hat
  rw [List.length_set] at nb
  refine ⟨⟨nb.at ((Keep.set hgW _) _ _ _ _ (K _ _ _ _ h.n.hy (by decide)) (by decide)), h.f.step fr ?_, h.bw, h.bi, h.bd, by rw [regs_set rws k y hy]; exact h.sp, ?_, (Keep.set hgW _).owns _ (by decide) (K.owns _ (by decide) h.dz)⟩, dv⟩
  rotate_left
  · intro z hz
    rcases List.mem_or_eq_of_mem_set hz with h1 | h1
    · exact h.sb z h1
    · rw [h1]; exact h.sb y hym
  rintro i (hi | rfl)
  · right
    have := D.b y hym i hi
    omega
  · exact .inr (h.bw i rfl)

/-- The wires, the owners, as the bytes have them. -/
def wiresL (l : List UInt8) (c j : Nat) : List (Int × Int × Int × Int) := (List.range j).map (fun i => (numL l (c + 2 * i) 1, numL l (c + 2 * i + 1) 1, 0, 0))
def ownL (l : List UInt8) (p nd : Nat) : List Int := (List.range nd).map (fun j => numL l (p + j) 1)
theorem wiresL_len (l : List UInt8) (c j : Nat) : (wiresL l c j).length = j := by simp [wiresL]
theorem wiresL_succ (l : List UInt8) (c j : Nat) : wiresL l c (j + 1) = wiresL l c j ++ [(numL l (c + 2 * j) 1, numL l (c + 2 * j + 1) 1, 0, 0)] := by simp [wiresL, List.range_succ]
theorem byte_at (s : ByteArray) (l : List UInt8) (hl : l = s.data.toList) (p : Nat) (hp : p < s.size) : numL l p 1 = ((s[p]'hp).toNat : Int) := by
  refine numL_byte l p _ ?_
  rw [hl]
  have hp' : p < s.data.toList.length := by rw [len_data]; exact hp
  rw [List.getElem?_eq_getElem hp']
  rfl

/-- Nothing is owned yet. -/
theorem DevIn.start {w : World} {Y : Nat} {gap mem ck : Int} {rws : List RWard} {wi : List (Int × Int × Int × Int)} {vW vI vD : Value} {nd : Nat} (h : NetAt w Y gap mem ck rws wi vW vI vD nd) (hn : ∀ y ∈ rws, y.vD = .slice none 0 0 ∧ y.devs = []) : DevIn w.heap.size rws := by
  refine ⟨fun y hy r hr => lt_of_get ((h.rg y hy).1.blk r hr).1, ?_, ?_⟩
  · intro y hy c hc
    rw [(hn y hy).1] at hc
    cases hc
  · intro i j y z hy hz hne c hc
    rw [(hn y (List.mem_of_getElem? hy)).1] at hc
    cases hc

theorem devsN_len (ow : List Int) (k : Nat) : ∀ d, (devsN ow k d).length ≤ d := by
  intro d
  induction d with
  | zero => simp [devsN]
  | succ d ih =>
    simp only [devsN, List.length_append]
    split <;> simp <;> omega
/-- The device lists behind a device more. -/
theorem dev_step (ow : List Int) (d : Nat) (rws : List RWard) (h : ∀ k y, rws[k]? = some y → y.devs = devsN ow k d) (o : Nat) (ho : ow[d]? = some (o : Int)) (y : RWard) (hy : rws[o]? = some y) (v : Value) : ∀ k z, (rws.set o (addDev y v d))[k]? = some z → z.devs = devsN ow k (d + 1) := by
  intro k z hz
  rw [List.getElem?_set] at hz
  by_cases e : o = k
  · subst e
    simp only [if_true, (List.getElem?_eq_some_iff.1 hy).1, Option.some.injEq] at hz
    subst hz
    simp only [addDev, devsN, ho, if_true, h _ y hy]
  · rw [if_neg e] at hz
    simp only [devsN, ho, Option.some.injEq, h k z hz]
    rw [if_neg (by omega), List.append_nil]
theorem dev_skip (ow : List Int) (d : Nat) (rws : List RWard) (h : ∀ k y, rws[k]? = some y → y.devs = devsN ow k d) (o : Nat) (ho : ow[d]? = some (o : Int)) (hn : rws.length ≤ o) : ∀ k z, rws[k]? = some z → z.devs = devsN ow k (d + 1) := by
  intro k z hz
  have hk := (List.getElem?_eq_some_iff.1 hz).1
  simp only [devsN, ho, Option.some.injEq, h k z hz]
  rw [if_neg (by omega), List.append_nil]
theorem key_set (rws : List RWard) (o : Nat) (y : RWard) (hy : rws[o]? = some y) (v : Value) (d : Int) : (rws.set o (addDev y v d)).map rkey = rws.map rkey := by
  rw [List.map_set]
  apply List.ext_getElem?
  intro k
  rw [List.getElem?_set]
  by_cases e : o = k
  · subst e
    have := (List.getElem?_eq_some_iff.1 hy).1
    simp only [if_true, List.length_map, this, List.getElem?_map, hy, Option.map_some]
    rfl
  · rw [if_neg e]

theorem read_end (l : List UInt8) {w wr : World} {gap mem : Int} {rs rws : List RWard} {k c j d p : Nat} {vW vI vD : Value} (hR : RdIn w gap mem rs (wiresL l c j) d vW vI vD wr) (hg : numL l 1 1 = gap) (hm : numL l 2 2 = mem) (hkey : rs.map rkey = rws.map rkey)
    (hk2 : rws.map rkey = (wardsN k (l.drop 6) false).1.map wkey) (hn : numL l 0 1 = k) (hdev : ∀ i y, rs[i]? = some y → y.devs = devsN (ownL l p d) i d) (hp : p = c + 2 * j) (B : Nat) (hBw : w.heap.size ≤ B) (hDI : DevIn B rs)
    (him : rimg l = (⟨numL l 1 1, numL l 2 2, (wardsN (numL l 0 1).toNat (l.drop 6) false).1, (List.range j).map (fun i => (numL l (c + 2 * i) 1, numL l (c + 2 * i + 1) 1)), (List.range d).map (fun i => numL l (c + 2 * j + i) 1)⟩, true)) :
    ReadPost l w (.returned (.tuple #[.pointer (some ⟨w.heap.size, 0, none⟩), .bool true])) wr := by
  subst hp
  refine ⟨w.heap.size, by rw [him], hR.f, fun _ => ⟨rs, wiresL l c j, vW, vI, vD, ?_, ⟨?_, ?_, ?_⟩, ?_⟩⟩
  · have := hR.n
    rw [him]
    simp only [List.length_map, List.length_range]
    rw [hg, hm]
    exact this
  · rw [him]
    simp [wiresL]
  · rw [him]
    simp only
    rw [hkey, hk2, hn, Int.toNat_natCast]
  · intro i y hy
    rw [him]
    simp only [List.length_map, List.length_range]
    exact hdev i y hy
  · rw [him]
    simp only [List.length_map, List.length_range]
    exact ⟨Nat.le_refl _, hR.bw, hR.bi, hR.bd, hR.sp, hR.sb, hR.dz, B, hBw, hDI⟩

set_option maxRecDepth 100000 in
set_option maxHeartbeats 8000000 in
theorem rread_core (s : ByteArray) (hs : s.size ≤ maxLen) (w : World) (l : List UInt8) (El : Hid (l = s.data.toList)) :
    Calls Tryz.prog 52 #[.string s] w fun e w' => ReadPost l w e w' := by
  go_enter Tryz.func52, Tryz.ntmps52
  go_wp2_with fail
  refine (number_l s _ 1 _ hs (by omega) (by omega) (by omega)).mono ?_
  rw [← El.out, show (0 : Int).toNat = 0 from rfl]
  rintro e w1 ⟨rfl, rfl⟩
  go_wp2_with fail
  refine (number_l s _ 1 _ hs (by omega) (by omega) (by omega)).mono ?_
  rw [← El.out, show (1 : Int).toNat = 1 from rfl]
  rintro e w1 ⟨rfl, rfl⟩
  go_wp2_with fail
  refine (number_l s _ 2 _ hs (by omega) (by omega) (by omega)).mono ?_
  rw [← El.out, show (2 : Int).toNat = 2 from rfl]
  rintro e w1 ⟨rfl, rfl⟩
  go_wp2_with fail
  refine (number_l s _ 1 _ hs (by omega) (by omega) (by omega)).mono ?_
  rw [← El.out, show (4 : Int).toNat = 4 from rfl]
  rintro e w1 ⟨rfl, rfl⟩
  go_wp2_with fail
  refine (number_l s _ 1 _ hs (by omega) (by omega) (by omega)).mono ?_
  rw [← El.out, show (5 : Int).toNat = 5 from rfl]
  rintro e w1 ⟨rfl, rfl⟩
  go_wp2_with fail
  have HI0 : Hid (RdIn w (numL l 1 1) (numL l 2 2) [] [] 0 (.slice none 0 0) (.slice none 0 0) (.slice none 0 0) (w.alloc (.cells #[.int .i64 (numL l 1 1), .int .i64 (numL l 2 2), .slice none 0 0, .slice none 0 0, .slice none 0 0, .int .i64 0] 122))) := RdIn.start w _ _ _ (heap_alloc_new w _) ((Fr.refl _ w).alloc _)
  have c0 : (w.alloc (.cells #[.int .i64 (numL l 1 1), .int .i64 (numL l 2 2), .slice none 0 0, .slice none 0 0, .slice none 0 0, .int .i64 0] 122)).cell? ⟨w.heap.size, 0, none⟩ = some (.int .i64 (numL l 1 1)) := row_cell (heap_alloc_new w _) 0
  have c1 : (w.alloc (.cells #[.int .i64 (numL l 1 1), .int .i64 (numL l 2 2), .slice none 0 0, .slice none 0 0, .slice none 0 0, .int .i64 0] 122)).cell? ⟨w.heap.size, 1, none⟩ = some (.int .i64 (numL l 2 2)) := row_cell (heap_alloc_new w _) 1
  generalize w.alloc (.cells #[.int .i64 (numL l 1 1), .int .i64 (numL l 2 2), .slice none 0 0, .slice none 0 0, .slice none 0 0, .int .i64 0] 122) = wh at *
  refine (in_any _ _ _ _).mono ?_
  rintro e w1 ⟨rfl, rfl⟩
  by_cases hn1 : 1 ≤ numL l 0 1 ∧ numL l 0 1 ≤ 4
  · have hb0 : (decide (1 ≤ numL l 0 1) && decide (numL l 0 1 ≤ 4)) = true := by simp [hn1]
    rw [hb0]
    go_wp2_with fail
    refine (in_any _ _ _ _).mono ?_
    rintro e w1 ⟨rfl, rfl⟩
    by_cases hg1 : 1 ≤ numL l 1 1 ∧ numL l 1 1 ≤ 16
    · have hb1 : (decide (1 ≤ numL l 1 1) && decide (numL l 1 1 ≤ 16)) = true := by simp [hg1]
      rw [hb1]
      go_wp2_with fail
      refine (in_any _ _ _ _).mono ?_
      rintro e w1 ⟨rfl, rfl⟩
      by_cases hm1 : 64 ≤ numL l 2 2 ∧ numL l 2 2 ≤ 1024
      · have hb2 : (decide (64 ≤ numL l 2 2) && decide (numL l 2 2 ≤ 1024)) = true := by simp [hm1]
        rw [hb2]
        go_wp2_with fail
        refine (in_any _ _ _ _).mono ?_
        rintro e w1 ⟨rfl, rfl⟩
        by_cases hw1 : 0 ≤ numL l 4 1 ∧ numL l 4 1 ≤ 8
        · have hb3 : (decide (0 ≤ numL l 4 1) && decide (numL l 4 1 ≤ 8)) = true := by simp [hw1]
          rw [hb3]
          go_wp2_with fail
          refine (in_any _ _ _ _).mono ?_
          rintro e w1 ⟨rfl, rfl⟩
          by_cases hd1 : 0 ≤ numL l 5 1 ∧ numL l 5 1 ≤ 8
          · have hb4 : (decide (0 ≤ numL l 5 1) && decide (numL l 5 1 ≤ 8)) = true := by simp [hd1]
            rw [hb4]
            have hl6 := numL_len l 5 1 (by omega)
            have HD : Hid (HeadI l) := ⟨hl6, hn1.1, hn1.2, hg1.1, hg1.2, hm1.1, hm1.2, hw1.1, hw1.2, hd1.1, hd1.2⟩
            obtain ⟨n, hn⟩ := Int.eq_ofNat_of_zero_le (show 0 ≤ numL l 0 1 by omega)
            obtain ⟨nw, hnw⟩ := Int.eq_ofNat_of_zero_le (show 0 ≤ numL l 4 1 by omega)
            obtain ⟨nd, hnd⟩ := Int.eq_ofNat_of_zero_le (show 0 ≤ numL l 5 1 by omega)
            have hn4 : n ≤ 4 := by omega
            have hnw8 : nw ≤ 8 := by omega
            have hnd8 : nd ≤ 8 := by omega
            have HN := hid hn
            have HNW := hid hnw
            have HND := hid hnd
            have hsl : l.length = s.size := by rw [El.out, len_data]
            rw [hn, hnw, hnd]
            clear hn hnw hnd hn1 hg1 hm1 hw1 hd1 hb0 hb1 hb2 hb3 hb4
            generalize hgap : numL l 1 1 = gap at *
            generalize hmem : numL l 2 2 = mem at *
            have HGAP := hid hgap
            have HMEM := hid hmem
            clear hgap hmem
            go_wp2_with fail
            clear c0 c1
            go_loopw [8, 9] (fun a b wr => ∃ k : Nat, k ≤ n ∧ b = .int .i64 k ∧ ∃ c : Nat, a = .int .i64 c ∧ c ≤ l.length ∧ c ≤ 6 + 300000 * k ∧ (wardsN k (l.drop 6) false).2 = (l.drop c, false) ∧ ∃ rws vW, RdIn w gap mem rws [] 0 vW (.slice none 0 0) (.slice none 0 0) wr ∧ rws.map rkey = (wardsN k (l.drop 6) false).1.map wkey ∧ (∀ y ∈ rws, y.vD = .slice none 0 0 ∧ y.devs = [])) (fun _ b _ => n - (intOf b).toNat)
            case atStart => exact ⟨0, Nat.zero_le _, rfl, 6, rfl, by omega, by omega, rfl, [], _, HI0.out, rfl, by simp⟩
            case round =>
              obtain ⟨k, hk, rfl, c, rfl, hc1, hc2, hws, rws, vW, hR, hkey, hdv⟩ := hrel
              have HWS := hid hws
              have HKEY := hid hkey
              have HDV := hid hdv
              have HR := hid hR
              have hrl : rws.length = k := by
                have := congrArg List.length hkey
                simpa [wardsN_len] using this
              have HRL := hid hrl
              obtain ⟨a1, q1, hvW⟩ := owns_shape hR.n.ow
              have HVW := hid hvW
              clear HI0 hws hkey hdv hR hrl
              by_cases hlt : k < n
              · have hki : (k : Int) < (n : Int) := by omega
                go_wp2_with fail
                refine (rward_core s hs c (by omega) (by omega) wr (l.drop c) (by unfold Hid; rw [El.out])).mono ?_
                rintro e w2 ⟨hf2, q, vR, pl, nx, rfl, hvo, hbad, hgood⟩
                have HF2 := hid hf2
                have HVO := hid hvo
                have HGOOD := hid hgood
                cases hb : (rward (l.drop c) false).2.2 with
                | true =>
                  obtain rfl := hbad hb
                  have HB : Hid ((rimg l).2 = false) := rimg_wards l HD.out (k + 1) (by have := HN.out; omega) (by
                    show (rward (wardsN k (l.drop 6) false).2.1 (wardsN k (l.drop 6) false).2.2).2.2 = true
                    rw [HWS.out]; exact hb)
                  clear hf2 hvo hbad hgood hb HGOOD
                  go_wp2_with (first
                    | (refine wpList_storeRow ?_ 130 (.tmp 10) (.tmp 72) ?_ w2.heap.size 130 _ #[.int .i64 q, vR, .slice none 0 0, .int .i64 0, .int .i64 0, .int .i64 0, .int .i64 0, .int .i64 0, .int .i64 0, .int .i64 0, .int .i64 0, .int .i64 pl, .int .i64 0, .int .i64 0, .int .i64 0, .bool false, .int .i64 0, .int .i64 0, .int .i64 0, .int .i64 0, .int .i64 0, .int .i64 0, .int .i64 0, .int .i64 0, .int .i64 0, .int .i64 0, .int .i64 0, .int .i64 0, .bool false] ?_ ?_ (heap_alloc_new w2 _) ?_ ?_ ?_ ?_; rfl; rfl; rfl; rfl; kernel_rfl; rfl; exact rw_one _ _ _ HVO.out; intro w3 g3 hf3; have HG3 := hid g3; have HF3 := hid hf3; clear g3 hf3))
                  go_ret2
                  refine ⟨w.heap.size, by rw [HB.out]; rfl, ?_, fun h => by rw [HB.out] at h; cases h⟩
                  exact ((HR.out.f.step HF2.out (fun _ h => .inl h)).alloc _).step HF3.out (fun i hi => .inr (by rw [hi]; exact (HR.out.f.step HF2.out (fun _ h => .inl h)).size))
                | false =>
                  obtain ⟨hnx, hq, hpl, ys, hys, hyr, hyw⟩ := hgood hb
                  obtain ⟨d, hd1, hd2, hd3⟩ := rw_take _ hb
                  rw [List.length_drop] at hd2
                  rw [hd3, List.drop_drop, List.length_drop] at hnx
                  have hnx' : nx = ((c + d : Nat) : Int) := by omega
                  subst hnx'
                  have HQ := hid hq
                  have HPL := hid hpl
                  have HYS := hid hys
                  have HYR := hid hyr
                  have HYW := hid hyw
                  have HD3 := hid hd3
                  have HBF := hid hb
                  have hnn : ¬ ((c + d : Nat) : Int) < 0 := by omega
                  clear hf2 hvo hbad hgood hb HGOOD hq hpl hys hyr hyw hd3 hnx
                  go_wp2_with (first
                    | (refine wpList_storeRow ?_ 130 (.tmp 10) (.tmp 72) ?_ w2.heap.size 130 _ #[.int .i64 q, vR, .slice none 0 0, .int .i64 0, .int .i64 0, .int .i64 0, .int .i64 0, .int .i64 0, .int .i64 0, .int .i64 0, .int .i64 0, .int .i64 pl, .int .i64 0, .int .i64 0, .int .i64 0, .bool false, .int .i64 0, .int .i64 0, .int .i64 0, .int .i64 0, .int .i64 0, .int .i64 0, .int .i64 0, .int .i64 0, .int .i64 0, .int .i64 0, .int .i64 0, .int .i64 0, .bool false] ?_ ?_ (heap_alloc_new w2 _) ?_ ?_ ?_ ?_; rfl; rfl; rfl; rfl; kernel_rfl; rfl; exact rw_one _ _ _ HVO.out; intro w3 g3 hf3; have HG3 := hid g3; have HF3 := hid hf3; clear g3 hf3)
                    | (refine wpList_loadMid (hu := Tryz.underlying128) ?_ 128 (.tmp 77) ?_ w2.heap.size 3 130 [.int .i64 q, vR, .slice none 0 0, .int .i64 0, .int .i64 0, .int .i64 0, .int .i64 0, .int .i64 0, .int .i64 0, .int .i64 0, .int .i64 0, .int .i64 pl, .int .i64 0, .int .i64 0, .int .i64 0, .bool false, .int .i64 0, .int .i64 0, .int .i64 0, .int .i64 0, .int .i64 0, .int .i64 0, .int .i64 0, .int .i64 0, .int .i64 0, .int .i64 0, .int .i64 0, .int .i64 0, .bool false] [.int .i64 0, .int .i64 0, .int .i64 0, .int .i64 0, .int .i64 0, .int .i64 0, .int .i64 0, .int .i64 0, .int .i64 pl, .int .i64 0, .int .i64 0, .int .i64 0, .bool false] ?_ HG3.out ?_ ?_ ?_ ?_; rfl; rfl; rfl; rfl; rfl; kernel_rfl)
                    | (refine wpList_storeMid ?_ 128 (.tmp 79) (.tmp 78) ?_ w2.heap.size 16 130 [.int .i64 q, vR, .slice none 0 0, .int .i64 0, .int .i64 0, .int .i64 0, .int .i64 0, .int .i64 0, .int .i64 0, .int .i64 0, .int .i64 0, .int .i64 pl, .int .i64 0, .int .i64 0, .int .i64 0, .bool false, .int .i64 0, .int .i64 0, .int .i64 0, .int .i64 0, .int .i64 0, .int .i64 0, .int .i64 0, .int .i64 0, .int .i64 0, .int .i64 0, .int .i64 0, .int .i64 0, .bool false] [.int .i64 0, .int .i64 0, .int .i64 0, .int .i64 0, .int .i64 0, .int .i64 0, .int .i64 0, .int .i64 0, .int .i64 pl, .int .i64 0, .int .i64 0, .int .i64 0, .bool false] ?_ ?_ HG3.out ?_ ?_ ?_ ?_; rfl; rfl; rfl; rfl; kernel_rfl; exact Nat.le_of_ble_eq_true rfl; exact st_one pl; intro w4 g4 hf4; have HG4 := hid g4; have HF4 := hid hf4; clear g4 hf4))
                  have HFa : Hid (Fr (fun _ => False) wr w4.drew) := (((HF2.out.alloc _).step HF3.out (fun i hi => .inr (by rw [hi]; exact HF2.out.size))).step HF4.out (fun i hi => .inr (by rw [hi]; exact HF2.out.size))).drew
                  have HR4 := hid (HR.out.fr HFa.out)
                  have HG4x : Hid (w4.drew.heap[w2.heap.size]? = some (.cells #[.int .i64 q, vR, .slice none 0 0, .int .i64 0, .int .i64 0, .int .i64 0, .int .i64 0, .int .i64 0, .int .i64 0, .int .i64 0, .int .i64 0, .int .i64 pl, .int .i64 0, .int .i64 0, .int .i64 0, .bool false, .int .i64 0, .int .i64 0, .int .i64 0, .int .i64 0, .int .i64 0, .int .i64 0, .int .i64 0, .int .i64 0, .int .i64 pl, .int .i64 0, .int .i64 0, .int .i64 0, .bool false] 130 (0, 0))) := HG4.out
                  have HFb : Fr (fun _ => False) w2 w4.drew := ((((Fr.refl _ w2).alloc _).step HF3.out (fun i hi => .inr (by rw [hi]; exact Nat.le_refl _))).step HF4.out (fun i hi => .inr (by rw [hi]; exact Nat.le_refl _))).drew
                  have HYS4 : Hid (RRegsAt w4.drew 0 vR ys) := ⟨owns_base (HYS.out.fr HFb).own (Nat.zero_le _), fun y hy => ⟨((HYS.out.fr HFb).blk y hy).1, Nat.zero_le _⟩, HYS.out.inc⟩
                  have HX3 : Hid ((∀ r ∈ ys, wr.heap.size ≤ r.g) ∧ ∀ b, vR.ownBlock = some b → wr.heap.size ≤ b) := ⟨fun r hr => (HYS.out.blk r hr).2, fun b hb => (HYS.out.own.lt b hb).1⟩
                  have HX5 : Hid (∀ y ∈ rws, ∀ r ∈ y.regs, r.g < wr.heap.size) := fun y hy r hr => lt_of_get (((HR.out.n.rg y hy).1).blk r hr).1
                  have HX4 : Hid (w.heap.size ≤ wr.heap.size) := HR.out.f.size
                  clear HFb
                  generalize w2.heap.size = B at *
                  clear HG4 HG3 HF3 HF4 hnn
                  have hR4 := HR4.out
                  rw [HVW.out] at hR4
                  have HR5 := hid hR4
                  have HOW := hid hR4.n.ow
                  have HY4 := hid hR4.n.hy
                  have c2 : w4.drew.cell? ⟨w.heap.size, 2, none⟩ = some (.slice a1 rws.length q1) := row_cell hR4.n.hy 2
                  have c2a : ∀ o, (w4.drew.alloc o).cell? ⟨w.heap.size, 2, none⟩ = some (.slice a1 rws.length q1) := fun o => row_cell (get_alloc hR4.n.hy o) 2
                  have c2b : ∀ o, (w4.alloc o).cell? ⟨w.heap.size, 2, none⟩ = some (.slice a1 rws.length q1) := c2a
                  have hk3 : rws.length + 1 ≤ 1073741824 := by have := HRL.out; omega
                  clear hR4
                  have hW1 : wardIs w4.drew B = true := by unfold wardIs; rw [HG4x.out]; rfl
                  have hW2 : wardRow w4.drew B = #[.int .i64 q, vR, .slice none 0 0, .int .i64 0, .int .i64 0, .int .i64 0, .int .i64 0, .int .i64 0, .int .i64 0, .int .i64 0, .int .i64 0, .int .i64 pl, .int .i64 0, .int .i64 0, .int .i64 0, .bool false, .int .i64 0, .int .i64 0, .int .i64 0, .int .i64 0, .int .i64 0, .int .i64 0, .int .i64 0, .int .i64 0, .int .i64 pl, .int .i64 0, .int .i64 0, .int .i64 0, .bool false] := by unfold wardRow; rw [HG4x.out]
                  go_region_law
                    (first
                      | (refine step_app slRWard (by rfl) _ _ (by rfl) 0 (.slice a1 rws.length q1) rws.length _ (by rfl) (HOW.out.alloc _) w4.drew.heap.size #[.int .i64 q, vR, .slice none 0 0, .int .i64 0, .int .i64 0, .int .i64 0, .int .i64 0, .int .i64 0, .int .i64 0, .int .i64 0, .int .i64 0, .int .i64 pl, .int .i64 0, .int .i64 0, .int .i64 0, .bool false, .int .i64 0, .int .i64 0, .int .i64 0, .int .i64 0, .int .i64 0, .int .i64 0, .int .i64 0, .int .i64 0, .int .i64 pl, .int .i64 0, .int .i64 0, .int .i64 0, .bool false] _ (by rfl) (heap_alloc_new w4.drew _) rfl (rw_one2 q pl vR HVO.out) hk3 (by decide) (Nat.zero_le _) ?_; intro gg cap w7 hown7 hf7 hat; have gY7 := hf7.getT (HOW.out.alloc _) (get_alloc HY4.out _) (by decide); have cY7 : w7.cell? ⟨w.heap.size, 2, none⟩ = some (.slice a1 rws.length q1) := row_cell gY7 2; have fY7 := row_frozen gY7 2))
                  all_goals
                    have R := (HR5.out.fr ((Fr.refl _ w4.drew).alloc _)).appW ⟨q, vR, .slice none 0 0, st0 pl, st0 pl, ys, []⟩ ⟨HYS4.out.fr ((Fr.refl _ w4.drew).alloc _), rfl, rfl⟩ (World.ownsRow_nil _ _ _ _) wr.heap.size HX3.out HX4.out HX5.out gg cap hown7 hf7 hat
                    have HR6 := hid R
                    clear R gY7 cY7 fY7 hf7 hat hown7 hW1 hW2 c2 c2a c2b HG4x
                    go_wp2_with fail
                    go_roundw
                    case rel =>
                      refine ⟨k + 1, by omega, by go_num, c + d, by go_num, by omega, by omega, ?_, _, _, HR6.out, ?_, ?_⟩
                      · show (rward (wardsN k (l.drop 6) false).2.1 (wardsN k (l.drop 6) false).2.2).2 = _
                        rw [HWS.out]
                        exact Prod.ext (by rw [HD3.out, List.drop_drop]) HBF.out
                      · show _ = ((wardsN k (l.drop 6) false).1 ++ [(rward (wardsN k (l.drop 6) false).2.1 (wardsN k (l.drop 6) false).2.2).1]).map wkey
                        rw [List.map_append, List.map_append, HKEY.out, HWS.out]
                        simp only [List.map_cons, List.map_nil, rkey, wkey, HYR.out, HYW.out, HQ.out, HPL.out]
                      · intro y hy
                        rcases List.mem_append.1 hy with hy | hy
                        · exact HDV.out y hy
                        · rw [List.mem_singleton.1 hy]; exact ⟨rfl, rfl⟩
                    case measure => simp [intOf]; omega
              · obtain rfl : k = n := by omega
                have hnn : ¬ ((k : Int) < (k : Int)) := by omega
                have HT := rimg_tail l HD.out c nw nd HNW.out HND.out hc1 (by rw [HN.out, Int.toNat_natCast]; exact HWS.out)
                have HB0 := hid HT.2
                have HB1 := hid HT.1
                clear HT
                by_cases hlen : c + 2 * nw + nd = l.length
                case neg =>
                  have hli : ¬ ((c : Int) + 2 * (nw : Int) + (nd : Int) = (s.size : Int)) := by omega
                  have HB := hid (HB0.out hlen)
                  go_wp2_with fail
                  go_ret2
                  exact ⟨w.heap.size, by rw [HB.out]; rfl, HR.out.f, fun h => by rw [HB.out] at h; cases h⟩
                case pos =>
                  have hli : (c : Int) + 2 * (nw : Int) + (nd : Int) = (s.size : Int) := by omega
                  have HIM := hid (HB1.out hlen)
                  clear HB0 HB1
                  go_wp2_with fail
                  have hpl : c ≤ 1200006 := by omega
                  clear hnn
                  go_loopw [8, 12] (fun a b wq => ∃ j : Nat, j ≤ nw ∧ b = .int .i64 j ∧ ∃ p : Nat, p = c + 2 * j ∧ a = .int .i64 p ∧ ∃ vI, RdIn w gap mem rws (wiresL l c j) 0 vW vI (.slice none 0 0) wq) (fun _ b _ => nw - (intOf b).toNat)
                  case atStart => exact ⟨0, Nat.zero_le _, rfl, c, rfl, rfl, _, HR.out⟩
                  case round =>
                    obtain ⟨j, hj, rfl, p, hp, rfl, vI, hR2⟩ := hrel
                    obtain ⟨a2, q2, hvI⟩ := owns_shape hR2.n.iw
                    subst hvI
                    have HR2 := hid hR2
                    have HP := hid hp
                    clear HR hR2
                    by_cases hlt : j < nw
                    · have hji : (j : Int) < (nw : Int) := by omega
                      have hp1 : p < s.size := by omega
                      have hp2 : p + 1 < s.size := by omega
                      have hb1 : ((s[p]'hp1).toNat : Int) < 256 := by have := (s[p]'hp1).toNat_lt; omega
                      have hb2 : ((s[p + 1]'hp2).toNat : Int) < 256 := by have := (s[p + 1]'hp2).toNat_lt; omega
                      have HW1 := hid (byte_at s l El.out p hp1)
                      have HW2 := hid (byte_at s l El.out (p + 1) hp2)
                      have HOI : Hid (wr.drew.ownsRow 0 124 4 (.slice a2 (wiresL l c j).length q2) (wiresL l c j).length ((wiresL l c j).flatMap rwireCells)) := HR2.out.n.iw
                      have HYD : Hid (wr.drew.heap[w.heap.size]? = some (.cells #[.int .i64 gap, .int .i64 mem, vW, .slice a2 (wiresL l c j).length q2, .slice none 0 0, .int .i64 0] 122 (0, 0))) := HR2.out.n.hy
                      have c3 : wr.drew.cell? ⟨w.heap.size, 3, none⟩ = some (.slice a2 (wiresL l c j).length q2) := row_cell HYD.out 3
                      have c3b : ∀ o, (wr.alloc o).cell? ⟨w.heap.size, 3, none⟩ = some (.slice a2 (wiresL l c j).length q2) := fun o => row_cell (get_alloc HR2.out.n.hy o) 3
                      have hk3 : (wiresL l c j).length + 1 ≤ 1073741824 := by rw [wiresL_len]; omega
                      have hwp : IntKind.i64.wrap ((p : Int) + 1) = (p : Int) + 1 := by rw [IntKind.wrap_i64]; omega
                      have hv1 : IntKind.i64.wrap ((s[p]'hp1).toNat : Int) = ((s[p]'hp1).toNat : Int) := by rw [IntKind.wrap_i64]; omega
                      have hv2 : IntKind.i64.wrap ((s[p + 1]'hp2).toNat : Int) = ((s[p + 1]'hp2).toNat : Int) := by rw [IntKind.wrap_i64]; omega
                      have hwt : ((p : Int) + 1).toNat = p + 1 := by omega
                      have hw0 : 0 ≤ (p : Int) + 1 := by omega
                      have hw1 : (p : Int) + 1 < (s.size : Int) := by omega
                      have hpb : p ≤ 1200100 := by omega
                      have HWE : Hid (wiresL l c (j + 1) = wiresL l c j ++ [(((s[p]'hp1).toNat : Int), ((s[p + 1]'hp2).toNat : Int), 0, 0)]) := by unfold Hid; rw [wiresL_succ, ← HP.out, HW1.out, HW2.out]
                      clear hp hlen hli HW1 HW2
                      go_wp2_with fail
                      go_cut [] from 106 to 124 (fun wx => ∃ vI', RdIn w gap mem rws (wiresL l c (j + 1)) 0 vW vI' (.slice none 0 0) wx)
                      case first =>
                        go_region_law
                          (first
                            | (refine step_app slRWire (by rfl) _ _ (by rfl) 0 (.slice a2 (wiresL l c j).length q2) (wiresL l c j).length _ (by rfl) (HOI.out.alloc _) wr.drew.heap.size #[.int .i64 ((s[p]'hp1).toNat : Int), .int .i64 ((s[p + 1]'hp2).toNat : Int), .int .i64 0, .int .i64 0] _ (by rfl) (heap_alloc_new wr.drew _) rfl (by simp [Value.oneCell']) hk3 (by decide) (Nat.zero_le _) ?_; intro gg cap w7 hown7 hf7 hat; have gY7 := hf7.getT (HOI.out.alloc _) (get_alloc HYD.out _) (by decide); have cY7 : w7.cell? ⟨w.heap.size, 3, none⟩ = some (.slice a2 (wiresL l c j).length q2) := row_cell gY7 3; have fY7 := row_frozen gY7 3))
                        all_goals
                          have R := (HR2.out.fr (((Fr.refl _ wr).drew).alloc _)).appI (((s[p]'hp1).toNat : Int), ((s[p + 1]'hp2).toNat : Int), 0, 0) gg cap hown7 hf7 hat
                          have HR6 := hid R
                          clear R gY7 cY7 fY7 hf7 hat hown7 c3 c3b
                          have HWE2 := HWE
                          clear HWE
                          generalize hz1 : ((s[p]'hp1).toNat : Int) = z1 at HR6 HWE2 ⊢
                          generalize hz2 : ((s[p + 1]'hp2).toNat : Int) = z2 at HR6 HWE2 ⊢
                          clear hv1 hv2 hb1 hb2 hz1 hz2
                          go_wp2_with fail
                          go_meet
                          case rel =>
                            rw [HWE2.out]
                            exact ⟨_, HR6.out⟩
                      case rest =>
                        obtain ⟨vI', hR6⟩ := hcut
                        have HR6 := hid hR6
                        clear hR6 c3 c3b HOI HYD HR2
                        go_wp2_with fail
                        go_roundw
                        case rel => exact ⟨j + 1, by omega, by go_num, p + 2, by have := HP.out; omega, by go_num, _, HR6.out⟩
                        case measure => simp [intOf]; omega
                    · obtain rfl : j = nw := by omega
                      have hjj : ¬ ((j : Int) < (j : Int)) := by omega
                      have hR3 := HR2.out
                      have HNE : ∃ gW cW, vW = .slice (some ⟨gW, 0, none⟩) rws.length cW := by
                        rcases hR3.n.ow.2 with ⟨_, h0⟩ | ⟨g, cap, cur, h1, _⟩
                        · have h1 := HD.out.n1
                          have := HN.out
                          have := HRL.out
                          exact absurd h0 (by omega)
                        · exact ⟨g, cap, h1⟩
                      obtain ⟨gW, cW, hvW3⟩ := HNE
                      rw [hvW3] at hR3
                      have HR3 := hid hR3
                      obtain ⟨B0, hB0⟩ : ∃ B0, B0 = wr.heap.size := ⟨_, rfl⟩
                      have HDI := hid (DevIn.start hR3.n HDV.out)
                      have HB0w : Hid (w.heap.size ≤ B0) := by rw [hB0]; exact hR3.f.size
                      have HB0r : Hid (B0 ≤ wr.heap.size) := by rw [hB0]; exact Nat.le_refl _
                      rw [← hB0] at HDI
                      generalize Value.slice a2 (wiresL l c j).length q2 = vI at *
                      clear hR3 hvW3 hvW HVW HR2 hB0 a2 q2
                      have hps : p + nd = s.size := by omega
                      have hpb : p ≤ 1200100 := by omega
                      clear hlen hli hp
                      go_wp2_with fail
                      go_loopw [13] (fun b wq => ∃ d : Nat, d ≤ nd ∧ b = .int .i64 d ∧ ∃ rs vD, RdIn w gap mem rs (wiresL l c j) d (.slice (some ⟨gW, 0, none⟩) rs.length cW) vI vD wq ∧ DevIn B0 rs ∧ B0 ≤ wq.heap.size ∧ rs.map rkey = rws.map rkey ∧ ∀ i y, rs[i]? = some y → y.devs = devsN (ownL l p nd) i d) (fun b _ => nd - (intOf b).toNat)
                      case atStart => exact ⟨0, Nat.zero_le _, rfl, rws, _, HR3.out, HDI.out, HB0r.out, rfl, fun i y hy => (HDV.out y (List.mem_of_getElem? hy)).2⟩
                      case round =>
                        obtain ⟨d, hd, rfl, rs, vD, hR4, hDI, hBr, hkey4, hdev4⟩ := hrel
                        have HDI4 := hid hDI
                        have HBR := hid hBr
                        have HKEY4 := hid hkey4
                        have HDEV4 := hid hdev4
                        have hrsl : rs.length = k := by
                          have := congrArg List.length hkey4
                          simp only [List.length_map] at this
                          rw [this, HRL.out]
                        have HRSL := hid hrsl
                        have HR4 := hid hR4
                        clear hDI hBr hkey4 hdev4 hR4 hrsl HR3 HDI HB0r
                        by_cases hlt : d < nd
                        · have hdi : (d : Int) < (nd : Int) := by omega
                          have hpd : p + d < s.size := by omega
                          have hb1 : ((s[p + d]'hpd).toNat : Int) < 256 := by have := (s[p + d]'hpd).toNat_lt; omega
                          have HOW1 : Hid ((ownL l p nd)[d]? = some ((s[p + d]'hpd).toNat : Int)) := by
                            unfold ownL Hid
                            rw [List.getElem?_map, List.getElem?_range hlt, Option.map_some, byte_at s l El.out (p + d) hpd]
                          have hcs0 := HR4.out.dz
                          obtain ⟨a3, q3, hvD⟩ := owns_shape hcs0
                          subst hvD
                          have HCS := hid hcs0
                          have HY4 := hid HR4.out.n.hy
                          have c4 : wr.cell? ⟨w.heap.size, 4, none⟩ = some (.slice a3 d q3) := row_cell HY4.out 4
                          have hk3 : d + 1 ≤ 1073741824 := by omega
                          clear hcs0
                          by_cases hob : (s[p + d]'hpd).toNat < k
                          · have hobi : ((s[p + d]'hpd).toNat : Int) < (k : Int) := by omega
                            go_wp2_with (at_builtin; refine wpList_app slRDev (by rfl) _ _ (by rfl) 0 (.slice a3 d q3) d _ (by rfl) (HCS.out.alloc _) wr.heap.size #[.int .i64 0, .slice none 0 0] _ (by rfl) (heap_alloc_new wr _) rfl (by simp [Value.oneCell']) hk3 (by decide) (Nat.zero_le _) ?_; intro gg cap w7 hown7 hf7 hat; have gY7 := hf7.getT (HCS.out.alloc _) (get_alloc HY4.out _) (by decide); have cY7 : w7.cell? ⟨w.heap.size, 4, none⟩ = some (.slice a3 d q3) := row_cell gY7 4; have fY7 := row_frozen gY7 4; have HO7 := hid hown7; have HF7 := hid hf7; have HAT := hid hat; clear hown7 hf7 hat)
                            have R7 := (HR4.out.fr ((Fr.refl _ wr).alloc _)).appD (HCS.out.alloc _) gg cap HO7.out HF7.out HAT.out
                            have HR7 := hid R7
                            have HB7 : Hid (B0 ≤ (w7.setCell ⟨w.heap.size, 4, none⟩ (.slice (some ⟨gg, 0, none⟩) (d + 1) cap)).heap.size) := Nat.le_trans HBR.out (Nat.le_trans (((Fr.refl (fun _ => False) wr).alloc _).size) (Nat.le_trans HF7.out.size (Fr.set1 w7 _ _).size))
                            clear R7 HO7 HF7 HAT cY7 fY7 gY7 HY4 HCS c4
                            generalize w7.setCell ⟨w.heap.size, 4, none⟩ (.slice (some ⟨gg, 0, none⟩) (d + 1) cap) = wd at *
                            generalize hz : (s[p + d]'hpd).toNat = o at HOW1 hob hobi ⊢
                            clear hz hb1
                            obtain ⟨y, hy⟩ : ∃ y, rs[o]? = some y := ⟨_, List.getElem?_eq_getElem (by rw [HRSL.out]; exact hob)⟩
                            have hym : y ∈ rs := List.mem_of_getElem? hy
                            obtain ⟨a5, q5, hy5⟩ := owns_shape (HR7.out.n.dr y hym)
                            have HYO := hid hy
                            have HY5 := hid hy5
                            have HDR : Hid (wd.drew.ownsRow 0 3 1 (.slice a5 y.devs.length q5) y.devs.length (y.devs.map (Value.int .i64))) := by rw [← hy5]; exact HR7.out.n.dr y hym
                            have HYN := hid HR7.out.n.hy
                            obtain ⟨cur, hgW⟩ := own_block HR7.out.n.ow
                            have HGW := hid hgW
                            have hcV : wd.cell? ⟨gW, o * 29 + 2, none⟩ = some (.slice a5 y.devs.length q5) := by rw [← hy5]; exact (ward_regs _ _ _ _ _ _ _ _ _ _ _ _ HR7.out.n o y hy).2
                            have HCUR : Hid (cur[o * 29 + 2]? = some (.slice a5 y.devs.length q5)) := by unfold Hid; rw [← row_cell hgW]; exact hcV
                            have cV : wd.drew.cell? ⟨gW, o * 29 + 2, none⟩ = some (.slice a5 y.devs.length q5) := hcV
                            have cVb : ∀ ob, (wd.alloc ob).cell? ⟨gW, o * 29 + 2, none⟩ = some (.slice a5 y.devs.length q5) := fun ob => (row_cell (get_alloc HGW.out ob) _).trans HCUR.out
                            have c2 : wd.drew.cell? ⟨w.heap.size, 2, none⟩ = some (.slice (some ⟨gW, 0, none⟩) rs.length cW) := row_cell HYN.out 2
                            have c2b : ∀ ob, (wd.alloc ob).cell? ⟨w.heap.size, 2, none⟩ = some (.slice (some ⟨gW, 0, none⟩) rs.length cW) := fun ob => row_cell (get_alloc HYN.out ob) 2
                            have hol : o < rs.length := by rw [HRSL.out]; exact hob
                            have holi : (o : Int) < (rs.length : Int) := by omega
                            have ho0 : (0 : Int) ≤ (o : Int) := by omega
                            have hk4 : y.devs.length + 1 ≤ 1073741824 := by
                              have := HDEV4.out o y hy
                              rw [this]
                              have := devsN_len (ownL l p nd) o d
                              omega
                            clear hy hym hy5 hgW hcV
                            go_region_law
                              (first
                                | (refine step_app slInt (by rfl) _ _ (by rfl) 0 (.slice a5 y.devs.length q5) y.devs.length _ (by rfl) (HDR.out.alloc _) wd.drew.heap.size #[.int .i64 (d : Int)] _ (by rfl) (heap_alloc_new wd.drew _) rfl (by simp [Value.oneCell']) hk4 (by decide) (Nat.zero_le _) ?_; intro g8 cap8 w8 hown8 hf8 hat8; have gY8 := hf8.getT (HDR.out.alloc _) (get_alloc HYN.out _) (by decide); have gW8 := hf8.getT (HDR.out.alloc _) (get_alloc HGW.out _) (by decide); have cY8 : w8.cell? ⟨w.heap.size, 2, none⟩ = some (.slice (some ⟨gW, 0, none⟩) rs.length cW) := row_cell gY8 2; have cV8 : w8.cell? ⟨gW, o * 29 + 2, none⟩ = some (.slice a5 y.devs.length q5) := (row_cell gW8 _).trans HCUR.out; have fV8 := row_frozen gW8 (o * 29 + 2)))
                            all_goals
                              rw [← HY5.out] at hf8 hat8
                              have hB8 : B0 ≤ (wd.drew.alloc (.cells #[.int .i64 (d : Int)] 3)).heap.size := Nat.le_trans HB7.out (((Fr.refl (fun _ => False) wd).drew.alloc _).size)
                              have R8 := (HR7.out.fr (((Fr.refl _ wd).drew).alloc _)).appV HDI4.out hB8 HB0w.out o y HYO.out d g8 cap8 hown8 hf8 hat8
                              have HR9 := hid R8.1
                              have HD9 := hid R8.2
                              have HB9 : Hid (B0 ≤ (w8.setCell ⟨gW, o * 29 + 2, none⟩ (.slice (some ⟨g8, 0, none⟩) (y.devs.length + 1) cap8)).heap.size) := Nat.le_trans hB8 (Nat.le_trans hf8.size (Fr.set1 w8 _ _).size)
                              clear R8 hB8 hown8 hf8 hat8 gY8 gW8 cY8 cV8 fV8 cV cVb c2 c2b
                              generalize w8.setCell ⟨gW, o * 29 + 2, none⟩ (.slice (some ⟨g8, 0, none⟩) (y.devs.length + 1) cap8) = w9 at *
                              go_wp2_with fail
                              go_roundw
                              case rel => exact ⟨d + 1, by omega, by go_num, rs.set o (addDev y (.slice (some ⟨g8, 0, none⟩) (y.devs.length + 1) cap8) d), _, by rw [List.length_set]; exact HR9.out, HD9.out, HB9.out, (key_set rs o y HYO.out _ _).trans HKEY4.out, dev_step (ownL l p nd) d rs HDEV4.out o HOW1.out y HYO.out _⟩
                              case measure => simp [intOf]; omega
                          · have hobi : ¬ (((s[p + d]'hpd).toNat : Int) < (k : Int)) := by omega
                            go_wp2_with (at_builtin; refine wpList_app slRDev (by rfl) _ _ (by rfl) 0 (.slice a3 d q3) d _ (by rfl) (HCS.out.alloc _) wr.heap.size #[.int .i64 0, .slice none 0 0] _ (by rfl) (heap_alloc_new wr _) rfl (by simp [Value.oneCell']) hk3 (by decide) (Nat.zero_le _) ?_; intro gg cap w7 hown7 hf7 hat; have gY7 := hf7.getT (HCS.out.alloc _) (get_alloc HY4.out _) (by decide); have cY7 : w7.cell? ⟨w.heap.size, 4, none⟩ = some (.slice a3 d q3) := row_cell gY7 4; have fY7 := row_frozen gY7 4; have HO7 := hid hown7; have HF7 := hid hf7; have HAT := hid hat; clear hown7 hf7 hat)
                            have R7 := (HR4.out.fr ((Fr.refl _ wr).alloc _)).appD (HCS.out.alloc _) gg cap HO7.out HF7.out HAT.out
                            have HR7 := hid R7
                            have HB7 : Hid (B0 ≤ (w7.setCell ⟨w.heap.size, 4, none⟩ (.slice (some ⟨gg, 0, none⟩) (d + 1) cap)).heap.size) := Nat.le_trans HBR.out (Nat.le_trans (((Fr.refl (fun _ => False) wr).alloc _).size) (Nat.le_trans HF7.out.size (Fr.set1 w7 _ _).size))
                            clear R7 HO7 HF7 HAT cY7 fY7 gY7 HY4 HCS c4
                            go_roundw
                            case rel => exact ⟨d + 1, by omega, by go_num, rs, _, HR7.out, HDI4.out, HB7.out, HKEY4.out, dev_skip (ownL l p nd) d rs HDEV4.out _ HOW1.out (by rw [HRSL.out]; omega)⟩
                            case measure => simp [intOf]; omega
                        · obtain rfl : d = nd := by omega
                          have hdd : ¬ ((d : Int) < (d : Int)) := by omega
                          go_wp2_with fail
                          go_ret2
                          exact read_end l HR4.out HGAP.out HMEM.out HKEY4.out HKEY.out HN.out HDEV4.out HP.out B0 HB0w.out HDI4.out HIM.out
          · have hb4 : (decide (0 ≤ numL l 5 1) && decide (numL l 5 1 ≤ 8)) = false := by simp; omega
            rw [hb4]
            have HB : Hid ((rimg l).2 = false) := rimg_head l (fun h => hd1 ⟨h.d1, h.d2⟩)
            go_wp2_with fail
            go_ret2
            exact ⟨w.heap.size, by rw [HB.out]; rfl, HI0.out.f, fun h => by rw [HB.out] at h; cases h⟩
        · have hb3 : (decide (0 ≤ numL l 4 1) && decide (numL l 4 1 ≤ 8)) = false := by simp; omega
          rw [hb3]
          have HB : Hid ((rimg l).2 = false) := rimg_head l (fun h => hw1 ⟨h.w1, h.w2⟩)
          go_wp2_with fail
          go_ret2
          exact ⟨w.heap.size, by rw [HB.out]; rfl, HI0.out.f, fun h => by rw [HB.out] at h; cases h⟩
      · have hb2 : (decide (64 ≤ numL l 2 2) && decide (numL l 2 2 ≤ 1024)) = false := by simp; omega
        rw [hb2]
        have HB : Hid ((rimg l).2 = false) := rimg_head l (fun h => hm1 ⟨h.m1, h.m2⟩)
        go_wp2_with fail
        go_ret2
        exact ⟨w.heap.size, by rw [HB.out]; rfl, HI0.out.f, fun h => by rw [HB.out] at h; cases h⟩
    · have hb1 : (decide (1 ≤ numL l 1 1) && decide (numL l 1 1 ≤ 16)) = false := by simp; omega
      rw [hb1]
      have HB : Hid ((rimg l).2 = false) := rimg_head l (fun h => hg1 ⟨h.g1, h.g2⟩)
      go_wp2_with fail
      go_ret2
      exact ⟨w.heap.size, by rw [HB.out]; rfl, HI0.out.f, fun h => by rw [HB.out] at h; cases h⟩
  · have hb0 : (decide (1 ≤ numL l 0 1) && decide (numL l 0 1 ≤ 4)) = false := by simp; omega
    rw [hb0]
    have HB : Hid ((rimg l).2 = false) := rimg_head l (fun h => hn1 ⟨h.n1, h.n2⟩)
    go_wp2_with fail
    go_ret2
    exact ⟨w.heap.size, by rw [HB.out]; rfl, HI0.out.f, fun h => by rw [HB.out] at h; cases h⟩

end Go.Proofs.YthmcheoehcmglaaGreat
