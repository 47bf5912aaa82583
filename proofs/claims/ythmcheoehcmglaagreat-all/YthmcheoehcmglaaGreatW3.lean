/- Rows: what was read stays as it was; slices of integers and of wards, opened. -/
import Derived.Test.YthmcheoehcmglaaGreatK2
import Derived.WalkKit
import Derived.ProofKit
import Derived.OpenShut
import Derived.Carry
import Derived.Deep.SlicePairs
import Derived.Test.YthmcheoehcmglaaGreatProg
import Derived.Test.YthmcheoehcmglaaGreatK1
namespace Go.Proofs.YthmcheoehcmglaaGreat
open Go.ChangeShapes Go.WideShapes Go.ChangeAt Go.RowKit Go.Deep
set_option linter.unusedVariables false

theorem laidOut : laidOutB Tryz.prog = true := by kernel_rfl
theorem ownK : ownKnob Tryz.prog.godebug = none := by kernel_rfl

section
variable {H : Type} {enc : TypeId × Value → H} {P : Program}

/-- Arguments in old memory read as they did. -/
theorem trodAll_below (hl : laidOutB P = true) {W W' : World} (hb : Below W.heap.size W W') {sp : Nat → Bool} : ∀ {ts : List TypeId} {vs : List Value} {ds : List (DataW H)} {ps : List MemPlace}, DataW.TrodAll enc P W 0 (fun _ => true) true ts vs ds ps → (∀ t ∈ ts, P.readableRec t = true ∧ t < P.types.size) → (∀ p ∈ ps, p.block < W.heap.size) → (∀ p ∈ ps, sp p.block = true) → DataW.TrodAll enc P W' 0 sp true ts vs ds ps
  | [], _, _, _, h, _, _, _ => by
    obtain ⟨rfl, rfl, rfl⟩ := trodAll_nil h
    exact trodAll_mk0
  | t :: ts, _, _, _, h, hr, hlt, hsp => by
    obtain ⟨v, vs1, d, ds1, a, b, rfl, rfl, rfl, h1, h2⟩ := trodAll_cons h
    have ht := hr t (by simp)
    refine ⟨a, b, ?_, trodAll_below hl hb h2 (fun t' h' => hr t' (by simp [h'])) (fun p hp => hlt p (by simp [hp])) (fun p hp => hsp p (by simp [hp])), rfl⟩
    exact WideElems.Trod_stays hl ht.1 ht.2 h1 (fun x hx => hb.same (hlt x (by simp [hx]))) (fun x hx => hsp x (by simp [hx]))

/-- What a row asks, where all that was read lies in old memory, which is as it was. -/
theorem post_below {f : Func} {s : ChangeSpec} {fresh handsOn again : Bool} {W W' : World} {args : Array Value} {v : Value} {ds : List (DataW H)} {before : List MemPlace} (hl : laidOutB P = true)
    (hW : DataW.Whole enc P f.params.toList s.vars false W args.toList ds [] before) (hvn : s.vars = []) (hp : ∀ t ∈ f.params.toList, P.readableRec t = true ∧ t < P.types.size)
    (hres : ∀ (b : Nat) (sp : Nat → Bool) (hd : Bool), DataW.TrodAll enc P W' b sp hd f.resultTypes.toList (v.resultList f.resultTypes.size) (s.fn H ds).results [])
    (hargs : (s.fn H ds).args = ds) (hvars : (s.fn H ds).vars = []) (hb : Below W.heap.size W W')
    (hok : ∀ (j : Nat) (t : TypeId) (r : Value), f.resultTypes[j]? = some t → (v.resultList f.resultTypes.size)[j]? = some r → Value.okWide P W' .any 0 t r) :
    s.post enc P f false fresh handsOn again W args v W' := by
  have hW' := hW
  obtain ⟨p, q, hA, hV, hpq, hz, hn⟩ := hW'
  have hlt := hW.lt
  rw [hvn] at hV
  obtain ⟨_, rfl⟩ := trodVars_none hV
  rw [List.append_nil] at hpq
  subst hpq
  have hA' : ∀ sp : Nat → Bool, (∀ x ∈ before, sp x.block = true) → DataW.TrodAll enc P W' 0 sp true f.params.toList args.toList ds before := fun sp hsp => trodAll_below hl hb hA hp hlt hsp
  have hv0 : ∀ sp : Nat → Bool, DataW.TrodVars enc P W' sp s.vars (s.fn H (ds ++ [])).vars [] := by
    intro sp
    rw [List.append_nil, hvn, hvars]
    exact rfl
  refine ⟨ds, [], before, [], before, [], hW, by rw [List.append_nil]; exact hres _ _ _, by rw [List.append_nil, hargs]; exact hA' _ (fun x hx => by simpa using hlt x hx), hv0 _, hb.frame _, fun _ => ?_⟩
  refine ⟨hok, _, _, ([] ++ before) ++ [], ⟨[] ++ before, [], trodAll_append (hA' (fun _ => true) (fun _ _ => rfl)) (hres _ _ _), hv0 _, rfl, ?_, ?_⟩, ?_⟩
  · intro b off hp'
    have hp2 : MemPlace.cell b off ∈ before := by simpa using hp'
    rw [hb.frozen (p := ⟨b, off, none⟩) (hlt _ hp2)]
    exact hz b off hp2
  · intro h; cases h
  · intro p hp' _
    simpa using hp'
end

def paramsB (P : Program) (ts : List TypeId) : Bool := ts.all (fun t => P.readableRec t && decide (t < P.types.size))
theorem params_ok {P : Program} {ts : List TypeId} (h : paramsB P ts = true) : ∀ t ∈ ts, P.readableRec t = true ∧ t < P.types.size := by
  intro t ht
  have := List.all_eq_true.1 h t ht
  simp only [Bool.and_eq_true, decide_eq_true_eq] at this
  exact this
theorem getD_of' {α : Type} {l : List α} {i : Nat} {x d : α} (h : l[i]? = some x) : l.getD i d = x := by rw [List.getD_eq_getElem?_getD, h]; rfl
theorem i64_of_wf {n : Int} (h : (Lit.int .i64 n).wf = true) : I64 n := by
  have := bounds_i64 h
  exact this

/-- A slice of integers, opened. -/
theorem ints_open {H : Type} {enc : TypeId × Value → H} {W : World} {fuel : Nat} {v : Value} {x : DataW H × List MemPlace} (h : DataW.trod enc Tryz.prog W 0 (fun _ => true) true fuel 22 [v] = some x) :
    ∃ ws : List Int, IntsAt W v ws ∧ (∀ n ∈ ws, I64 n) ∧ ws.length ≤ maxLen ∧ ∃ a c, v = .slice a ws.length c := by
  rcases open_ints Tryz.underlying22 Tryz.underlying3 (by kernel_rfl) h with ⟨h1, -⟩ | ⟨a, len, cap, zs, h1, -, hlc, hcm, hzl, -, hcell, hwf⟩
  · simp only [List.cons.injEq, and_true] at h1
    subst h1
    exact ⟨[], ⟨none, 0, rfl, by simp, by omega, by simp⟩, by simp, by simp, none, 0, rfl⟩
  · simp only [List.cons.injEq, and_true] at h1
    subst h1
    simp only [if_true] at hzl
    have hl : (zs.take len).length = len := by simp; omega
    have hcap : cap ≤ 9223372036854775807 := by unfold maxLen at hcm; omega
    refine ⟨zs.take len, ⟨some a, cap, by rw [hl], by rw [hl]; exact hlc, hcap, ?_⟩, fun n hn => i64_of_wf (hwf n (List.mem_of_mem_take hn)), by rw [hl]; omega, some a, cap, by rw [hl]⟩
    intro h1
    obtain ⟨b, off, rfl, hc⟩ := _root_.Go.ints_at hcell (by omega)
    refine ⟨b, off, rfl, ?_⟩
    intro i n hi
    have hil := (List.getElem?_eq_some_iff.1 hi).1
    rw [hl] at hil
    have := hc i (by omega)
    rw [List.getElem?_take, if_pos hil] at hi
    rw [this, getD_of' hi]

end Go.Proofs.YthmcheoehcmglaaGreat
/- Walks over the leaf functions: what each call does, said of cells. -/
namespace Go.Proofs.YthmcheoehcmglaaGreat
open Go.RowKit
set_option linter.unusedVariables false

set_option maxRecDepth 100000 in
set_option maxHeartbeats 400000 in
theorem in_any (v lo hi : Int) (w : World) :
    Calls Tryz.prog 76 #[.int .i64 v, .int .i64 lo, .int .i64 hi] w fun e w' => e = .returned (.bool (decide (lo ≤ v) && decide (v ≤ hi))) ∧ w' = w := by
  go_enter Tryz.func76, Tryz.ntmps76
  go_wp2
  all_goals go_ret
  · exact ⟨ret_bool (by simp [*]), rfl⟩
  · exact ⟨ret_bool (by simp; omega), rfl⟩

set_option maxRecDepth 100000 in
set_option maxHeartbeats 400000 in
theorem number_none (s : ByteArray) (i n : Int) (w : World) (hs : s.size ≤ maxLen) (h0 : -1 ≤ i) (h1 : i ≤ 1152921504606846976) (n0 : 0 ≤ n) (n1 : n ≤ 4) (hf : i < 0 ∨ (s.size : Int) < i + n) :
    Calls Tryz.prog 75 #[.string s, .int .i64 i, .int .i64 n] w fun e w' => e = .returned (.int .i64 (-1)) ∧ w' = w := by
  unfold maxLen at hs
  by_cases hi : i < 0
  · go_enter Tryz.func75, Tryz.ntmps75
    go_wp2
    go_ret
    exact ⟨rfl, rfl⟩
  · have : (s.size : Int) < i + n := by omega
    go_enter Tryz.func75, Tryz.ntmps75
    go_wp2
    go_ret
    exact ⟨rfl, rfl⟩

theorem be_at (s : ByteArray) (i k : Nat) (h : i + k < s.size) : be ((s.data.toList.drop i).take (k + 1)) = 256 * be ((s.data.toList.drop i).take k) + ((s[i + k]'h).toNat : Int) := by
  rw [be_take _ k (by rw [List.length_drop, len_data]; omega)]
  congr 3
  simp
  rfl

set_option maxRecDepth 100000 in
set_option maxHeartbeats 400000 in
theorem number_some (s : ByteArray) (i n : Nat) (w : World) (hs : s.size ≤ maxLen) (n1 : n ≤ 4) (hf : i + n ≤ s.size) :
    Calls Tryz.prog 75 #[.string s, .int .i64 i, .int .i64 n] w fun e w' => e = .returned (.int .i64 (be ((s.data.toList.drop i).take n))) ∧ w' = w := by
  unfold maxLen at hs
  go_enter Tryz.func75, Tryz.ntmps75
  go_wp2
  go_loop [7, 8] (fun v j => ∃ k : Nat, k ≤ n ∧ j = .int .i64 k ∧ v = .int .i64 (be ((s.data.toList.drop i).take k))) (fun _ j => n - (intOf j).toNat)
  case atStart => exact ⟨0, Nat.zero_le _, rfl, rfl⟩
  case round =>
    obtain ⟨k, hk, rfl, rfl⟩ := hrel
    by_cases hlt : k < n
    · have hb := be_bd4 (s.data.toList.drop i) k (by omega) (by rw [List.length_drop, len_data]; omega)
      have hb1 := hb.1
      have hb2 := hb.2.2.1 (by omega)
      have HS : Hid (be ((s.data.toList.drop i).take (k + 1)) = 256 * be ((s.data.toList.drop i).take k) + ((s[i + k]'(by omega)).toNat : Int)) := be_at s i k (by omega)
      have hby : ((s[i + k]'(by omega)).toNat : Int) < 256 := by have := (s[i + k]'(by omega)).toNat_lt; omega
      clear hb
      go_wp2
      go_round
      case rel => exact ⟨k + 1, by omega, by go_num, by rw [HS.out]⟩
      case measure => simp [intOf]; omega
    · have : k = n := by omega
      subst this
      go_wp2
      go_ret
      exact ⟨rfl, rfl⟩

/-- The reader lies in block b: what is left of the text, and whether it is bad. -/
def Rd (w : World) (b : Nat) (l : List UInt8) (bad : Bool) : Prop :=
  ∃ s : ByteArray, s.data.toList = l ∧ s.size ≤ maxLen ∧ w.heap[b]? = some (.cells #[.string s, .bool bad] 175 (0, 0))

/-- What reading n bytes gives. -/
def rdn (n : Nat) (l : List UInt8) (bad : Bool) : Int × List UInt8 × Bool := if bad = true ∨ l.length < n then (0, l, true) else (be (l.take n), l.drop n, false)

set_option maxRecDepth 100000 in
set_option maxHeartbeats 400000 in
theorem rnumber_bad (b n : Nat) (s : ByteArray) (bad : Bool) (w : World) (hs : s.size ≤ maxLen) (n1 : n ≤ 4) (hb : w.heap[b]? = some (.cells #[.string s, .bool bad] 175 (0, 0))) (h : bad = true ∨ s.size < n) :
    Calls Tryz.prog 110 #[.pointer (some ⟨b, 0, none⟩), .int .i64 n] w fun e w' => e = .returned (.int .u32 0) ∧ w' = w.setCell ⟨b, 1, none⟩ (.bool true) := by
  unfold maxLen at hs
  have c0 : w.cell? ⟨b, 0, none⟩ = some (.string s) := row_cell hb 0
  have c1 : w.cell? ⟨b, 1, none⟩ = some (.bool bad) := row_cell hb 1
  have f1 : w.frozen? ⟨b, 1, none⟩ = false := row_frozen hb 1
  clear hb
  cases bad
  · have h2 : (s.size : Int) < n := by simp at h; omega
    clear h
    go_enter Tryz.func110, Tryz.ntmps110
    go_wp2
    go_ret
    exact ⟨rfl, rfl⟩
  · clear h
    go_enter Tryz.func110, Tryz.ntmps110
    go_wp2
    go_ret
    exact ⟨rfl, rfl⟩

set_option maxRecDepth 100000 in
set_option maxHeartbeats 400000 in
theorem rnumber_ok (b n : Nat) (s : ByteArray) (w : World) (hs : s.size ≤ maxLen) (n1 : n ≤ 4) (hb : w.heap[b]? = some (.cells #[.string s, .bool false] 175 (0, 0))) (h : n ≤ s.size) :
    Calls Tryz.prog 110 #[.pointer (some ⟨b, 0, none⟩), .int .i64 n] w fun e w' => e = .returned (.int .u32 (be (s.data.toList.take n))) ∧ w' = w.setCell ⟨b, 0, none⟩ (.string (s.extract n s.size)) := by
  unfold maxLen at hs
  have c0 : w.cell? ⟨b, 0, none⟩ = some (.string s) := row_cell hb 0
  have c1 : w.cell? ⟨b, 1, none⟩ = some (.bool false) := row_cell hb 1
  have f0 : w.frozen? ⟨b, 0, none⟩ = false := row_frozen hb 0
  have hsn : ¬ s.size < n := by omega
  clear hb
  go_enter Tryz.func110, Tryz.ntmps110
  go_wp2
  go_loop [5, 24] (fun v j => ∃ k : Nat, k ≤ n ∧ j = .int .i64 k ∧ v = .int .u32 (be (s.data.toList.take k))) (fun _ j => n - (intOf j).toNat)
  case atStart => exact ⟨0, Nat.zero_le _, rfl, rfl⟩
  case round =>
    obtain ⟨k, hk, rfl, rfl⟩ := hrel
    by_cases hlt : k < n
    · have hb := be_bd4 s.data.toList k (by omega) (by rw [len_data]; omega)
      have hb1 := hb.1
      have hb2 := hb.2.2.1 (by omega)
      have HS : Hid (be (s.data.toList.take (k + 1)) = 256 * be (s.data.toList.take k) + ((s[k]'(by omega)).toNat : Int)) := by have := be_at s 0 k (by omega); simpa [Hid] using this
      have hby : ((s[k]'(by omega)).toNat : Int) < 256 := by have := (s[k]'(by omega)).toNat_lt; omega
      have hor : bits .or .u32 (be (s.data.toList.take k) * 256) ((s[k]'(by omega)).toNat : Int) = 256 * be (s.data.toList.take k) + ((s[k]'(by omega)).toNat : Int) := or_byte _ _ hb1 hb2 (by omega) hby
      clear hb
      go_wp2
      go_round
      case rel => exact ⟨k + 1, by omega, by go_num, by rw [HS.out]⟩
      case measure => simp [intOf]; omega
    · have : k = n := by omega
      subst this
      go_wp2
      go_ret
      exact ⟨rfl, rfl⟩

end Go.Proofs.YthmcheoehcmglaaGreat
/- Walks over the reader's methods, by what it holds. -/
namespace Go.Proofs.YthmcheoehcmglaaGreat
open Go.RowKit
set_option linter.unusedVariables false

theorem ext_drop (s : ByteArray) (n : Nat) : (s.extract n s.size).data.toList = s.data.toList.drop n := by
  rw [ByteArray.data_extract, Array.toList_extract, ← len_data, List.extract_eq_drop_take']
  simp [List.take_of_length_le]

theorem rdn_bd (n : Nat) (hn : n ≤ 4) (l : List UInt8) (bad : Bool) : 0 ≤ (rdn n l bad).1 ∧ (rdn n l bad).1 < 4294967296 ∧ (n ≤ 2 → (rdn n l bad).1 < 65536) ∧ (n ≤ 1 → (rdn n l bad).1 < 256) := by
  unfold rdn
  split
  · exact ⟨by simp, by simp, by simp, by simp⟩
  · rename_i h
    have := be_bd4 l n hn (by omega)
    exact ⟨this.1, this.2.1, this.2.2.2.1, this.2.2.2.2⟩

theorem rdn_len (n : Nat) (l : List UInt8) (bad : Bool) : (rdn n l bad).2.1.length ≤ l.length := by
  unfold rdn
  split <;> simp

theorem rnumber_any (b n : Nat) (l : List UInt8) (bad : Bool) (w : World) (n1 : n ≤ 4) (h : Rd w b l bad) :
    Calls Tryz.prog 110 #[.pointer (some ⟨b, 0, none⟩), .int .i64 n] w fun e w' =>
      e = .returned (.int .u32 (rdn n l bad).1) ∧ Rd w' b (rdn n l bad).2.1 (rdn n l bad).2.2 ∧ Fr (fun i => i = b) w w' := by
  obtain ⟨s, rfl, hs, hb⟩ := h
  have hl := len_data s
  by_cases hc : bad = true ∨ s.size < n
  · refine (rnumber_bad b n s bad w hs n1 hb hc).mono ?_
    rintro e w' ⟨rfl, rfl⟩
    have e1 : rdn n s.data.toList bad = (0, s.data.toList, true) := by unfold rdn; rw [if_pos (by rw [hl]; exact hc)]
    rw [e1]
    refine ⟨rfl, ⟨s, rfl, hs, ?_⟩, Fr.one _ _ _ _⟩
    rw [row_set hb]
    simp
  · obtain rfl : bad = false := by cases bad <;> simp_all
    refine (rnumber_ok b n s w hs n1 hb (by omega)).mono ?_
    rintro e w' ⟨rfl, rfl⟩
    have e1 : rdn n s.data.toList false = (be (s.data.toList.take n), s.data.toList.drop n, false) := by unfold rdn; rw [if_neg (by rw [hl]; exact hc)]
    rw [e1]
    refine ⟨rfl, ⟨_, ext_drop s n, ?_, ?_⟩, Fr.one _ _ _ _⟩
    · have := ext_drop s n
      have h2 := len_data (s.extract n s.size)
      rw [this, List.length_drop, hl] at h2
      omega
    · rw [row_set hb]
      simp

set_option maxRecDepth 100000 in
set_option maxHeartbeats 400000 in
theorem single_any (b : Nat) (l : List UInt8) (bad : Bool) (w : World) (h : Rd w b l bad) :
    Calls Tryz.prog 94 #[.pointer (some ⟨b, 0, none⟩)] w fun e w' =>
      e = .returned (.int .i64 (rdn 1 l bad).1) ∧ Rd w' b (rdn 1 l bad).2.1 (rdn 1 l bad).2.2 ∧ Fr (fun i => i = b) w w' := by
  have hd := rdn_bd 1 (by omega) l bad
  have d1 := hd.1
  have d2 := hd.2.1
  clear hd
  go_enter Tryz.func94, Tryz.ntmps94
  go_wp2_with (go_at_call 110; refine (rnumber_any b 1 l bad _ (by omega) h).mono ?_; rintro e w' ⟨rfl, hr, hf⟩)
  go_ret
  exact ⟨rfl, hr, hf⟩

set_option maxRecDepth 100000 in
set_option maxHeartbeats 400000 in
theorem pair_any (b : Nat) (l : List UInt8) (bad : Bool) (w : World) (h : Rd w b l bad) :
    Calls Tryz.prog 95 #[.pointer (some ⟨b, 0, none⟩)] w fun e w' =>
      e = .returned (.int .i64 (rdn 2 l bad).1) ∧ Rd w' b (rdn 2 l bad).2.1 (rdn 2 l bad).2.2 ∧ Fr (fun i => i = b) w w' := by
  have hd := rdn_bd 2 (by omega) l bad
  have d1 := hd.1
  have d2 := hd.2.1
  clear hd
  go_enter Tryz.func95, Tryz.ntmps95
  go_wp2_with (go_at_call 110; refine (rnumber_any b 2 l bad _ (by omega) h).mono ?_; rintro e w' ⟨rfl, hr, hf⟩)
  go_ret
  exact ⟨rfl, hr, hf⟩

/-- What a number held against its bounds gives. -/
def wth (lo hi v : Int) (bad : Bool) : Int × Bool := if bad = true ∨ v < lo ∨ hi < v then (0, true) else (v, false)

set_option maxRecDepth 100000 in
set_option maxHeartbeats 400000 in
theorem within_any (b : Nat) (lo hi v : Int) (l : List UInt8) (bad : Bool) (w : World) (h : Rd w b l bad) :
    Calls Tryz.prog 93 #[.pointer (some ⟨b, 0, none⟩), .int .i64 lo, .int .i64 hi, .int .i64 v] w fun e w' =>
      e = .returned (.int .i64 (wth lo hi v bad).1) ∧ Rd w' b l (wth lo hi v bad).2 ∧ Fr (fun i => i = b) w w' := by
  obtain ⟨s, hsl, hs, hb⟩ := h
  have c1 : w.cell? ⟨b, 1, none⟩ = some (.bool bad) := row_cell hb 1
  have f1 : w.frozen? ⟨b, 1, none⟩ = false := row_frozen hb 1
  have HB : Hid (w.heap[b]? = some (.cells #[.string s, .bool bad] 175 (0, 0))) := hb
  have HS : Hid (s.data.toList = l) := hsl
  clear hb hsl
  have fin1 : v < lo ∨ hi < v → wth lo hi v bad = (0, true) := fun h => by unfold wth; rw [if_pos (.inr h)]
  have fin2 : ¬ (v < lo ∨ hi < v) → bad = false → wth lo hi v bad = (v, false) := fun h h' => by unfold wth; rw [if_neg (by simp [h']; omega)]
  have fin3 : bad = true → wth lo hi v bad = (0, true) := fun h' => by unfold wth; rw [if_pos (.inl h')]
  have F1 := (show Hid _ from fin1)
  have F2 := (show Hid _ from fin2)
  have F3 := (show Hid _ from fin3)
  clear fin1 fin2 fin3
  by_cases h1 : v < lo
  · go_enter Tryz.func93, Tryz.ntmps93
    go_wp2
    go_ret
    rw [F1.out (.inl h1)]
    exact ⟨rfl, ⟨s, HS.out, hs, by rw [row_set HB.out]; simp⟩, Fr.one _ _ _ _⟩
  · by_cases h2 : hi < v
    · go_enter Tryz.func93, Tryz.ntmps93
      go_wp2
      go_ret
      rw [F1.out (.inr h2)]
      exact ⟨rfl, ⟨s, HS.out, hs, by rw [row_set HB.out]; simp⟩, Fr.one _ _ _ _⟩
    · cases bad
      · go_enter Tryz.func93, Tryz.ntmps93
        go_wp2
        go_ret
        rw [F2.out (by omega) (by first | rfl | trivial)]
        exact ⟨rfl, ⟨s, HS.out, hs, HB.out⟩, Fr.refl _ _⟩
      · go_enter Tryz.func93, Tryz.ntmps93
        go_wp2
        go_ret
        rw [F3.out (by first | rfl | trivial)]
        exact ⟨rfl, ⟨s, HS.out, hs, HB.out⟩, Fr.refl _ _⟩

end Go.Proofs.YthmcheoehcmglaaGreat
/- Walks over the reader's wire and region. -/
namespace Go.Proofs.YthmcheoehcmglaaGreat
open Go.RowKit
set_option linter.unusedVariables false

theorem Rd.fr {S : Nat → Prop} {w w' : World} {b : Nat} {l : List UInt8} {bad : Bool} (h : Rd w b l bad) (hf : Fr S w w') (hn : ¬ S b) : Rd w' b l bad := by
  obtain ⟨s, h1, h2, h3⟩ := h
  exact ⟨s, h1, h2, hf.get h3 hn⟩
theorem Rd.lt {w : World} {b : Nat} {l : List UInt8} {bad : Bool} (h : Rd w b l bad) : b < w.heap.size := by
  obtain ⟨s, h1, h2, h3⟩ := h
  exact lt_of_get h3
theorem Rd.alloc {w : World} {b : Nat} {l : List UInt8} {bad : Bool} (h : Rd w b l bad) (o : Obj) : Rd (w.alloc o) b l bad := h.fr ((Fr.refl (fun _ => False) w).alloc o) id
theorem Rd.set {w : World} {b : Nat} {l : List UInt8} {bad : Bool} (h : Rd w b l bad) {p : Addr} (hp : p.block ≠ b) (v : Value) : Rd (w.setCell p v) b l bad :=
  h.fr (Fr.set1 w p v) (fun e => hp e.symm)

theorem heap_new (w : World) (o : Obj) : (w.alloc o).heap[w.heap.size]? = some o := heap_alloc_new w o

/-- What the reader's wire gives. -/
def rwire (l : List UInt8) (bad : Bool) : (Int × Int) × List UInt8 × Bool :=
  let x := rdn 1 l bad
  let y := rdn 1 x.2.1 x.2.2
  ((x.1, y.1), y.2.1, y.2.2)

set_option maxRecDepth 100000 in
set_option maxHeartbeats 400000 in
theorem wire_any (b : Nat) (l : List UInt8) (bad : Bool) (w : World) (h : Rd w b l bad) :
    Calls Tryz.prog 97 #[.pointer (some ⟨b, 0, none⟩)] w fun e w' =>
      e = .returned (.agg #[.int .i64 (rwire l bad).1.1, .int .i64 (rwire l bad).1.2]) ∧ Rd w' b (rwire l bad).2.1 (rwire l bad).2.2 ∧ Fr (fun i => i = b) w w' := by
  have hlt := h.lt
  unfold rwire
  dsimp only
  go_enter Tryz.func97, Tryz.ntmps97
  go_wp2_with fail
  refine (single_any b l bad _ ((h.alloc _).alloc _)).mono ?_
  rintro e w1 ⟨rfl, hr1, hf1⟩
  have g1 : w1.heap[w.heap.size + 1]? = some (.cells #[.int .i64 0, .int .i64 0] 177 (0, 0)) := hf1.get (heap_alloc2_new _ _ _) (by omega)
  have p1 : w1.heap[w.heap.size]? = some (.cells #[.int .i64 0, .int .i64 0] 177 (0, 0)) := hf1.get (heap_alloc2_old _ _ _) (by omega)
  have c1 := row_cell g1
  have f1 := row_frozen g1
  go_wp2_with fail
  clear c1 f1
  refine (single_any b _ _ _ (hr1.set (by simp; omega) _)).mono ?_
  rintro e w2 ⟨rfl, hr2, hf2⟩
  have g2 : w2.heap[w.heap.size + 1]? = some (.cells #[.int .i64 (rdn 1 l bad).1, .int .i64 0] 177 (0, 0)) := hf2.get (by rw [row_set g1]; simp) (by omega)
  have p2 : w2.heap[w.heap.size]? = some (.cells #[.int .i64 0, .int .i64 0] 177 (0, 0)) := hf2.get (set_other p1 (by simp) _) (by omega)
  have hF : Fr (fun i => i = b) w w2 := (((((Fr.refl _ w).alloc _).alloc _).step hf1 (fun i h => .inl h)).setCell (.inr (by simp)) _).step hf2 (fun i h => .inl h)
  clear hf1 hf2 g1 p1
  have c2 := row_cell g2
  have f2 := row_frozen g2
  have c3 := row_cell p2
  have f3 := row_frozen p2
  go_wp2_with fail
  refine bodyPost_ret (v := .agg #[.int .i64 (rdn 1 l bad).1, .int .i64 (rdn 1 (rdn 1 l bad).2.1 (rdn 1 l bad).2.2).1]) ?_ rfl ⟨rfl, ?_, ?_⟩
  · simp [results, Tryz.results97, go_sem, c3]
  · exact ((hr2.set (by simp; omega) _).set (by simp; omega) _).set (by simp; omega) _
  · exact ((hF.setCell (.inr (by simp)) _).setCell (.inr (by simp)) _).setCell (.inr (by simp)) _

/-- What the reader's region gives: first address, words, base, rights. -/
def rreg (l : List UInt8) (bad : Bool) : (Int × Int × Int × Int) × List UInt8 × Bool :=
  let x1 := rdn 2 l bad
  let x2 := rdn 2 x1.2.1 x1.2.2
  let x3 := wth 1 65535 x2.1 x2.2.2
  let x4 := rdn 2 x2.2.1 x3.2
  let x5 := rdn 1 x4.2.1 x4.2.2
  let x6 := wth 1 7 x5.1 x5.2.2
  ((x1.1, x3.1, x4.1, x6.1), x5.2.1, x6.2)

set_option maxRecDepth 100000 in
set_option maxHeartbeats 1000000 in
theorem region_any (b : Nat) (l : List UInt8) (bad : Bool) (w : World) (h : Rd w b l bad) :
    Calls Tryz.prog 111 #[.pointer (some ⟨b, 0, none⟩)] w fun e w' =>
      e = .returned (.agg #[.int .i64 (rreg l bad).1.1, .int .i64 (rreg l bad).1.2.1, .int .i64 (rreg l bad).1.2.2.1, .int .i64 (rreg l bad).1.2.2.2]) ∧ Rd w' b (rreg l bad).2.1 (rreg l bad).2.2 ∧ Fr (fun i => i = b) w w' := by
  have hlt := h.lt
  unfold rreg
  dsimp only
  go_enter Tryz.func111, Tryz.ntmps111
  go_wp2_with fail
  refine (pair_any b l bad _ ((h.alloc _).alloc _)).mono ?_
  rintro e w1 ⟨rfl, hr1, hf1⟩
  have g1 := hf1.get (heap_alloc2_new _ _ _) (by omega)
  have p1 := hf1.get (heap_alloc2_old _ _ _) (by omega)
  have F1 : Fr (fun i => i = b) w w1 := ((((Fr.refl _ w).alloc _).alloc _).step hf1 (fun i h => .inl h))
  clear hf1
  have c1 := row_cell g1
  have f1 := row_frozen g1
  go_wp2_with fail
  clear c1 f1
  refine (pair_any b _ _ _ (hr1.set (by simp; omega) _)).mono ?_
  rintro e w2 ⟨rfl, hr2, hf2⟩
  have g2 := hf2.get (row_set g1 0 _) (by omega)
  have p2 := hf2.get (set_other p1 (by simp) _) (by omega)
  have F2 : Fr (fun i => i = b) w w2 := (F1.setCell (.inr (by simp)) _).step hf2 (fun i h => .inl h)
  simp only [List.setIfInBounds_toArray, List.set] at g2
  clear hf2 g1 p1 F1 hr1
  go_wp2_with fail
  refine (within_any b _ _ _ _ _ _ hr2).mono ?_
  rintro e w3 ⟨rfl, hr3, hf3⟩
  have g3 := hf3.get g2 (by omega)
  have p3 := hf3.get p2 (by omega)
  have F3 : Fr (fun i => i = b) w w3 := F2.step hf3 (fun i h => .inl h)
  clear hf3 g2 p2 F2 hr2
  have c3 := row_cell g3
  have f3 := row_frozen g3
  go_wp2_with fail
  clear c3 f3
  refine (pair_any b _ _ _ (hr3.set (by simp; omega) _)).mono ?_
  rintro e w4 ⟨rfl, hr4, hf4⟩
  have g4 := hf4.get (row_set g3 1 _) (by omega)
  have p4 := hf4.get (set_other p3 (by simp) _) (by omega)
  have F4 : Fr (fun i => i = b) w w4 := (F3.setCell (.inr (by simp)) _).step hf4 (fun i h => .inl h)
  simp only [List.setIfInBounds_toArray, List.set] at g4
  clear hf4 g3 p3 F3 hr3
  have c4 := row_cell g4
  have f4 := row_frozen g4
  go_wp2_with fail
  clear c4 f4
  refine (single_any b _ _ _ (hr4.set (by simp; omega) _)).mono ?_
  rintro e w5 ⟨rfl, hr5, hf5⟩
  have g5 := hf5.get (row_set g4 2 _) (by omega)
  have p5 := hf5.get (set_other p4 (by simp) _) (by omega)
  have F5 : Fr (fun i => i = b) w w5 := (F4.setCell (.inr (by simp)) _).step hf5 (fun i h => .inl h)
  simp only [List.setIfInBounds_toArray, List.set] at g5
  clear hf5 g4 p4 F4 hr4
  go_wp2_with fail
  refine (within_any b _ _ _ _ _ _ hr5).mono ?_
  rintro e w6 ⟨rfl, hr6, hf6⟩
  have g6 := hf6.get g5 (by omega)
  have p6 := hf6.get p5 (by omega)
  have F6 : Fr (fun i => i = b) w w6 := F5.step hf6 (fun i h => .inl h)
  clear hf6 g5 p5 F5 hr5
  have c6 := row_cell g6
  have f6 := row_frozen g6
  have d6 := row_cell p6
  have e6 := row_frozen p6
  go_wp2_with fail
  refine bodyPost_ret (v := .agg #[.int .i64 _, .int .i64 _, .int .i64 _, .int .i64 _]) ?_ rfl ⟨rfl, ?_, ?_⟩
  · simp [results, Tryz.results111, go_sem, d6]
  · exact (((((hr6.set (by simp; omega) _).set (by simp; omega) _).set (by simp; omega) _).set (by simp; omega) _).set (by simp; omega) _)
  · exact ((((F6.setCell (.inr (by simp)) _).setCell (.inr (by simp)) _).setCell (.inr (by simp)) _).setCell (.inr (by simp)) _).setCell (.inr (by simp)) _

end Go.Proofs.YthmcheoehcmglaaGreat
