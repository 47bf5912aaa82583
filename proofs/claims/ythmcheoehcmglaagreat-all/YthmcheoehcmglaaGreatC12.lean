/- The kernel's calls: Call. -/
import Derived.Test.YthmcheoehcmglaaGreatC7
import Derived.Test.YthmcheoehcmglaaGreatT1
import Derived.Test.YthmcheoehcmglaaGreatP7
namespace Go.Proofs.YthmcheoehcmglaaGreat
open Go.RowKit
set_option linter.unusedVariables false
attribute [local go_sem ↓] Go.wp_at_zero Go.wp_at_succ

/-- A call of a function that is a value, in a region that draws its order: by the callee's contract. -/
theorem step_callV {P : Program} {w : World} {ops : Array Oper} {o : Oper} {a : Act} {K : Act → World → Prop} {Q : Exit → Act → World → Prop} {E : Prop} {f : FuncId} {x : Operand} {xl : List Operand} {ats : Array TypeId} {fn : Func}
    (hf : P.funcs[f]? = some fn) (hnm : (fn.name == "runtime.NumGoroutine") = false) (hbd : fn.body.isNone = false) (hgd : o.guard = none) (ho : o.op = .call { callee := .value x, args := xl.toArray, argTypes := ats })
    (hx : a.eval x = .func (Fn.func f) #[] #[]) (args : List Value) (hargs : xl.map a.eval = args) (h : Calls P f args.toArray w fun e w' => ∃ r, e = .returned r ∧ K (a.put o.dst r) w') :
    if Region.wanted o (yielded ops a.tmps) = true then Oper.wp P o a w K Q else E := by
  obtain ⟨dst, op, ty, pos, after, guard⟩ := o
  simp only at hgd ho h
  subst hgd ho
  rw [if_pos (by simp [Region.wanted])]
  unfold Oper.wp
  have hr : (callFunc f args.toArray).run P w = .ok (.enter f args.toArray) w := by
    unfold callFunc program
    simp only [bind, Sem.bind, Sem.run, hf, hnm, hbd]
    rfl
  have he : (execOp a.eval { dst := dst, op := .call { callee := .value x, args := xl.toArray, argTypes := ats }, type := ty, pos := pos, after := after, guard := none }).run P w = .ok (.enter f args.toArray) w := by
    rw [← hr]
    simp only [execOp, resolve, hx, Sem.run_bind]
    simp [Deferred.ofValue, invoke, hargs]
  rw [he, Oper.upon_enter]
  refine h.mono ?_
  rintro e w' ⟨r, rfl, hk⟩
  exact hk

def callM (x : KX) (k : Nat) (ck : Int) (s : StV) (mem : List Int) : Nat → Int × StV × List Int
  | 0 => (0, { s with status := 1 }, mem)
  | 1 => (0, { s with y := true }, mem)
  | 2 => (0, set0 s k, mem)
  | 3 => sendM x k s mem
  | 4 => receiveM x k s mem
  | 5 => lookM x k s mem
  | 6 => (0, set0 s (ck % 4294967296), mem)
  | _ => (4, s, mem)

def callL : List Nat := [168, 169, 170, 171, 172, 173, 174]

theorem callee_any (x : KX) (ck : Int) (hck : ck ≤ 9223372036854775807) (mem : List Int) (w : World) (hR : KerR x ck mem w) (k : Nat) (hk : k ≤ 4) (B : Nat) (hB : ¬ KS x B) (s : StV) (c a b n : Int) (o : Value) (h : WorkAt w B s c a b n o) (hs : StB s) (j f : Nat) (hf : callL[j]? = some f) :
    Calls Tryz.prog f #[.agg #[.pointer (some ⟨x.X, 0, none⟩), .int .i64 k], .pointer (some ⟨B, 0, none⟩)] w fun e w' => CallPost x ck B c a b n o (callM x k ck s mem j) w e w' := by
  have hj : j < 7 := (List.getElem?_eq_some_iff.1 hf).1
  have kp : ∀ w', Fr (fun i => i = B) w w' → KerR x ck mem w' := fun w' h1 => hR.fr h1 (fun i hi => by rw [hi]; exact hB)
  have wd : ∀ w', Fr (fun i => i = B) w w' → Fr (fun i => i = x.M ∨ i = B) w w' := fun w' h1 => h1.mono (fun i hi => .inr hi)
  match j, hj with
  | 0, _ => cases hf; exact (halt_any w _ k B s c a b n o h hs.l).mono fun e w' h1 => ⟨h1.1, h1.2.1, kp w' h1.2.2, wd w' h1.2.2⟩
  | 1, _ => cases hf; exact (yield_any w _ k B s c a b n o h hs.l).mono fun e w' h1 => ⟨h1.1, h1.2.1, kp w' h1.2.2, wd w' h1.2.2⟩
  | 2, _ => cases hf; exact (who_any w _ k hk B s c a b n o h hs.l).mono fun e w' h1 => ⟨h1.1, h1.2.1, kp w' h1.2.2, wd w' h1.2.2⟩
  | 3, _ => cases hf; exact send_any x ck mem w hR k hk B hB s c a b n o h hs
  | 4, _ => cases hf; exact receive_any x ck mem w hR k hk B hB s c a b n o h hs
  | 5, _ => cases hf; exact look_any x ck mem w hR k hk B hB s c a b n o h hs
  | 6, _ => cases hf; exact (time_any x ck mem w hR k B s c a b n o h hs.l hck).mono fun e w' h1 => ⟨h1.1, h1.2.1, kp w' h1.2.2, wd w' h1.2.2⟩

theorem callee_fn (j f : Nat) (hf : callL[j]? = some f) : ∃ fn, Tryz.prog.funcs[f]? = some fn ∧ (fn.name == "runtime.NumGoroutine") = false ∧ fn.body.isNone = false := by
  have hj : j < 7 := (List.getElem?_eq_some_iff.1 hf).1
  match j, hj with
  | 0, _ => cases hf; exact ⟨_, Tryz.func168, by kernel_rfl, by kernel_rfl⟩
  | 1, _ => cases hf; exact ⟨_, Tryz.func169, by kernel_rfl, by kernel_rfl⟩
  | 2, _ => cases hf; exact ⟨_, Tryz.func170, by kernel_rfl, by kernel_rfl⟩
  | 3, _ => cases hf; exact ⟨_, Tryz.func171, by kernel_rfl, by kernel_rfl⟩
  | 4, _ => cases hf; exact ⟨_, Tryz.func172, by kernel_rfl, by kernel_rfl⟩
  | 5, _ => cases hf; exact ⟨_, Tryz.func173, by kernel_rfl, by kernel_rfl⟩
  | 6, _ => cases hf; exact ⟨_, Tryz.func174, by kernel_rfl, by kernel_rfl⟩

def callTab : List Value := callL.map fnV
theorem callTab_one : callTab.toArray.all (·.oneCell') = true := by rw [List.all_toArray]; rfl

set_option maxRecDepth 100000 in
set_option maxHeartbeats 4000000 in
theorem tcall_any (x : KX) (ck : Int) (hck : ck ≤ 9223372036854775807) (mem : List Int) (w : World) (hR : KerR x ck mem w) (k : Nat) (hk : k ≤ 4) (B : Nat) (hB : ¬ KS x B) (s : StV) (c a b n : Int) (o : Value) (h : WorkAt w B s c a b n o) (hs : StB s) (nn : Nat) (hn : nn < 65536) :
    Calls Tryz.prog 164 #[turnVal x k, .pointer (some ⟨B, 0, none⟩), .int .u32 nn] w fun e w' => CallPost x ck B c a b n o (callM x k ck s mem nn) w e w' := by
  have H := hid h
  have HR := hid hR
  have HS := hid hs
  unfold turnVal
  by_cases h7 : nn < 7
  · obtain ⟨f, hf⟩ : ∃ f, callL[nn]? = some f := ⟨_, List.getElem?_eq_getElem h7⟩
    have HCA := hid (fun (w1 : World) (hw : Fr (fun _ => False) w w1) => callee_any x ck hck mem w1 (hR.frF hw) k hk B hB s c a b n o (h.fr hw) hs nn f hf)
    obtain ⟨fn, hfn1, hfn2, hfn3⟩ := callee_fn nn f hf
    have HT : Hid (callTab[nn]? = some (.func (Fn.func f) #[] #[])) := by unfold Hid callTab; rw [List.getElem?_map, hf]; rfl
    have HFN1 := hid hfn1
    have HFN2 := hid hfn2
    have HFN3 := hid hfn3
    have h7i : (nn : Int) < 7 := by omega
    generalize callM x k ck s mem nn = q at *
    clear h hR hs hf hfn1 hfn2 hfn3
    go_enter Tryz.func164, Tryz.ntmps164
    go_wp2_with (first
      | (refine wpList_storeRow ?_ 226 (.tmp 7) (.tmp 8) ?_ (w.heap.size + 1) 226 _ callTab.toArray ?_ ?_ (heap_alloc2_new w _ _) ?_ ?_ callTab_one ?_; rfl; rfl; rfl; rfl; kernel_rfl; rfl; intro w3 g3 hf3; have HF3 := hid ((((Fr.refl (fun _ => False) w).alloc _).alloc _).step hf3 (fun i hi => .inr (by omega))); have hT3 := hf3.get1 (heap_alloc_old w _ _) (by omega); have tb : w3.drew.cell? ⟨w.heap.size + 1, nn, none⟩ = some (.func (Fn.func f) #[] #[]) := (row_cell g3 nn).trans (by rw [List.getElem?_toArray]; exact HT.out); have ta : w3.drew.cell? ⟨w.heap.size, 0, none⟩ = some (.pointer (some ⟨x.X, 0, none⟩)) := row_cell hT3 0; have tc : w3.drew.cell? ⟨w.heap.size, 1, none⟩ = some (.int .i64 k) := row_cell hT3 1; clear g3 hf3 hT3))
    go_region_law
      (first
        | (refine step_callV HFN1.out HFN2.out HFN3.out (by rfl) (by rfl) (by rfl) [.agg #[.pointer (some ⟨x.X, 0, none⟩), .int .i64 k], .pointer (some ⟨B, 0, none⟩)] (by rfl) ((HCA.out _ ?_).mono ?_); exact HF3.out.drew; rintro e w4 ⟨rfl, hp⟩; refine ⟨_, rfl, ?_⟩))
    all_goals
      have HP := hid hp
      have HF4 := hid ((HF3.out.drew.toS (S := fun i => i = x.M ∨ i = B)).step hp.2.2 (fun i hi => .inl hi))
      clear hp ta tb tc
      go_wp2_with fail
      go_ret
      exact ⟨rfl, HP.out.1, HP.out.2.1, HF4.out⟩
  · have HQ : Hid (callM x k ck s mem nn = (4, s, mem)) := by
      unfold Hid
      obtain ⟨d, rfl⟩ : ∃ d, nn = d + 7 := ⟨nn - 7, by omega⟩
      rfl
    have h7i : (7 : Int) ≤ (nn : Int) := by omega
    generalize callM x k ck s mem nn = q at *
    clear h hR hs
    go_enter Tryz.func164, Tryz.ntmps164
    go_wp2_with (first
      | (refine wpList_storeRow ?_ 226 (.tmp 7) (.tmp 8) ?_ (w.heap.size + 1) 226 _ callTab.toArray ?_ ?_ (heap_alloc2_new w _ _) ?_ ?_ callTab_one ?_; rfl; rfl; rfl; rfl; kernel_rfl; rfl; intro w3 g3 hf3; have HF3 := hid ((((Fr.refl (fun _ => False) w).alloc _).alloc _).step hf3 (fun i hi => .inr (by omega))); clear g3 hf3))
    go_ret
    rw [HQ.out]
    exact ⟨rfl, H.out.fr HF3.out, HR.out.frF HF3.out, HF3.out.toS⟩

end Go.Proofs.YthmcheoehcmglaaGreat
/- The devices: findDevice, device, put; Get and Put of a turn. -/
namespace Go.Proofs.YthmcheoehcmglaaGreat
open Go.RowKit
set_option linter.unusedVariables false
attribute [local go_sem ↓] Go.wp_at_zero Go.wp_at_succ

/-- The device that has its input (0) or its output (1) at an address. -/
def findDev (ds : List Int) (part a : Int) : Option Int :=
  if 32768 ≤ a ∧ (a - 32768) % 2 = part ∧ (a - 32768) / 2 < ds.length then some (ds.getD ((a - 32768) / 2).toNat 0) else none

set_option maxRecDepth 100000 in
set_option maxHeartbeats 2000000 in
theorem findDevice_any (w : World) (b off : Nat) (ds : List Int) (v : Value) (hc : w.cell? ⟨b, off + 14, none⟩ = some v) (ho : w.ownsRow 0 3 1 v ds.length (ds.map (Value.int .i64))) (hl : ds.length ≤ 8) (part a : Int) (p0 : 0 ≤ part) (p1 : part ≤ 1) (a0 : 0 ≤ a) (a1 : a < 4294967296) :
    Calls Tryz.prog 184 #[.pointer (some ⟨b, off, none⟩), .int .u32 part, .int .u32 a] w fun e w' => e = .returned (.tuple #[.int .i64 ((findDev ds part a).getD 0), .bool (findDev ds part a).isSome]) ∧ w' = w := by
  by_cases h1 : a < 32768
  · have HN : Hid (findDev ds part a = none) := by unfold Hid findDev; rw [if_neg (by omega)]
    clear hc ho
    go_enter Tryz.func184, Tryz.ntmps184
    go_wp2_with fail
    go_ret2
    rw [HN.out]
    exact ⟨rfl, rfl⟩
  · obtain ⟨d, hd⟩ : ∃ d : Nat, a - 32768 = (d : Int) := ⟨(a - 32768).toNat, by omega⟩
    obtain ⟨k, hk⟩ : ∃ k : Nat, (d : Int) / 2 = (k : Int) := ⟨d / 2, by omega⟩
    obtain ⟨p, hp⟩ : ∃ p : Nat, (d : Int) % 2 = (p : Int) := ⟨d % 2, by omega⟩
    have h1' : 32768 ≤ a := by omega
    clear h1
    have HD : Hid (findDev ds part a = if (p : Int) = part ∧ (k : Int) < ds.length then some (ds.getD k 0) else none) := by
      unfold Hid findDev
      rw [hd, hk, hp, Int.toNat_natCast]
      by_cases h : (p : Int) = part ∧ (k : Int) < ds.length
      · rw [if_pos h, if_pos ⟨by omega, h⟩]
      · rw [if_neg h, if_neg (fun h' => h h'.2)]
    generalize findDev ds part a = q at *
    by_cases h2 : (p : Int) = part
    · obtain ⟨av, cv, rfl⟩ := owns_shape ho
      by_cases h3 : (k : Int) < (ds.length : Int)
      · rw [if_pos ⟨h2, h3⟩] at HD
        obtain ⟨g, cp, hv, -, hgl⟩ := ho.form (by omega)
        simp only [Value.slice.injEq] at hv
        obtain ⟨rfl, -, rfl⟩ := hv
        have hk3 : k < ds.length := by omega
        have cd : w.cell? ⟨g, k, none⟩ = some (.int .i64 (ds.getD k 0)) := ints_at ho k hk3
        clear ho hgl
        generalize ds.getD k 0 = r at *
        go_enter Tryz.func184, Tryz.ntmps184
        go_wp2_with fail
        go_ret2
        rw [HD.out]
        exact ⟨rfl, rfl⟩
      · rw [if_neg (fun h => h3 h.2)] at HD
        clear ho
        go_enter Tryz.func184, Tryz.ntmps184
        go_wp2_with fail
        go_ret2
        rw [HD.out]
        exact ⟨rfl, rfl⟩
    · rw [if_neg (fun h => h2 h.1)] at HD
      clear hc ho
      go_enter Tryz.func184, Tryz.ntmps184
      go_wp2_with fail
      go_ret2
      rw [HD.out]
      exact ⟨rfl, rfl⟩

set_option maxRecDepth 100000 in
set_option maxHeartbeats 2000000 in
theorem tdevice_any (x : KX) (ck : Int) (mem : List Int) (w : World) (h : KerR x ck mem w) (k : Nat) (ds : List Int) (hk : x.dvs[k]? = some ds) (part a : Int) (p0 : 0 ≤ part) (p1 : part ≤ 1) (a0 : 0 ≤ a) (a1 : a < 4294967296) :
    Calls Tryz.prog 176 #[.agg #[.pointer (some ⟨x.X, 0, none⟩), .int .i64 k], .int .u32 part, .int .u32 a] w fun e w' => e = .returned (.tuple #[.pointer ((findDev ds part a).map (fun d => ⟨x.gD, d.toNat * 2, none⟩)), .bool (findDev ds part a).isSome]) ∧ Fr (fun _ => False) w w' := by
  have hkl : k < x.regs.length := by rw [← h.dl]; exact (List.getElem?_eq_some_iff.1 hk).1
  have hki : (k : Int) < (x.regs.length : Int) := by omega
  have hwl := h.wl
  have hdb := h.db ds (List.mem_of_getElem? hk)
  have HBD : Hid (∀ d, findDev ds part a = some d → 0 ≤ d ∧ d < x.dn) := by
    intro d hd
    unfold findDev at hd
    split at hd
    · rename_i hh
      cases hd
      have hi : ((a - 32768) / 2).toNat < ds.length := by omega
      rw [List.getD_eq_getElem?_getD, List.getElem?_eq_getElem hi]
      exact hdb.2 _ (List.getElem_mem hi)
    · cases hd
  have hd8 := h.dn8
  have HFD := hid (fun (w1 : World) (b off : Nat) (v : Value) (hc : w1.cell? ⟨b, off + 14, none⟩ = some v) (ho : w1.ownsRow 0 3 1 v ds.length (ds.map (Value.int .i64))) => findDevice_any w1 b off ds v hc ho hdb.1 part a p0 p1 a0 a1)
  generalize findDev ds part a = q at *
  go_enter Tryz.func176, Tryz.ntmps176
  go_wp2_with fail
  have HF0 : Hid (Fr (fun _ => False) w (w.alloc (.cells #[.pointer (some ⟨x.X, 0, none⟩), .int .i64 k] 139))) := (Fr.refl _ w).alloc _
  have hb := heap_alloc_new w (.cells #[.pointer (some ⟨x.X, 0, none⟩), .int .i64 k] 139)
  generalize w.alloc (.cells #[.pointer (some ⟨x.X, 0, none⟩), .int .i64 k] 139) = wa at *
  have hA := h.frF HF0.out
  obtain ⟨v, hv, hc, ho⟩ := hA.dg k ds hk
  have HFW := hid (fun (w1 : World) (hf : Fr (fun _ => False) wa w1) => HFD.out w1 x.gK (k * 15) v (by rw [← hc]; exact World.cell?_of_block (hf.block x.gK (hA.gk.elim fun cur hc => lt_of_get hc) id)) (hf.owns ho (fun _ _ h => h)))
  have c0 : wa.drew.cell? ⟨w.heap.size, 0, none⟩ = some (.pointer (some ⟨x.X, 0, none⟩)) := row_cell hb 0
  have c1 : wa.drew.cell? ⟨w.heap.size, 1, none⟩ = some (.int .i64 k) := row_cell hb 1
  have cw : wa.drew.cell? ⟨x.X, 4, none⟩ = some (.slice (some ⟨x.gK, 0, none⟩) x.regs.length x.cK) := row_cell hA.hx _
  have HA := hid hA
  have HB := hid hb
  clear h hA hv hc ho hb hk hdb
  go_region_law
    (first
      | (refine step_call Tryz.func184 (by kernel_rfl) (by kernel_rfl) (by rfl) (by rfl) [.pointer (some ⟨x.gK, k * 15, none⟩), .int .u32 part, .int .u32 a] (by rfl) ((HFW.out _ ?_).mono ?_); exact (Fr.refl _ wa).drew; rintro e w2 ⟨rfl, rfl⟩; refine ⟨_, rfl, ?_⟩))
  all_goals
    clear c0 c1 cw
    cases q with
    | none =>
      go_wp2_with fail
      go_ret2
      exact ⟨rfl, HF0.out.drew⟩
    | some d =>
      have hd := HBD.out d rfl
      obtain ⟨j, rfl⟩ := Int.eq_ofNat_of_zero_le hd.1
      have hji : (j : Int) < (x.dn : Int) := hd.2
      have hj : j < x.dn := by omega
      have b0 : wa.drew.cell? ⟨w.heap.size, 0, none⟩ = some (.pointer (some ⟨x.X, 0, none⟩)) := row_cell HB.out 0
      have k0 : wa.drew.cell? ⟨x.X, 6, none⟩ = some (.slice (some ⟨x.gD, 0, none⟩) x.dn x.dn) := row_cell HA.out.hx _
      clear hd
      go_wp2_with fail
      go_ret2
      exact ⟨rfl, HF0.out.drew⟩

end Go.Proofs.YthmcheoehcmglaaGreat
/- The devices: put; what a machine's devices are; Get and Put of a turn. -/
namespace Go.Proofs.YthmcheoehcmglaaGreat
open Go.RowKit
set_option linter.unusedVariables false
attribute [local go_sem ↓] Go.wp_at_zero Go.wp_at_succ

/-- A word's bytes, the high one first. -/
def wordB (v : Int) : List Int := [v / 16777216, v / 65536 % 256, v / 256 % 256, v % 256]
def logB (l : List Int) : List Int := l.flatMap wordB
theorem logB_snoc (l : List Int) (v : Int) : logB (l ++ [v]) = logB l ++ wordB v := by simp [logB]
theorem logB_len (l : List Int) : (logB l).length = 4 * l.length := by
  induction l with
  | nil => rfl
  | cons v l ih => simp only [logB, List.flatMap_cons, List.length_append, List.length_cons] at ih ⊢; rw [ih]; simp [wordB]; omega

abbrev DevV := Int × List Int
def devCells (devs : List DevV) (vL : List Value) : List Value := (devs.zip vL).flatMap (fun p => [.int .u32 p.1.1, p.2])
def logCells (l : List Int) : List Value := (logB l).map (Value.int .u8)

/-- The devices of a machine lie in block g. -/
structure DevR (g dn : Nat) (devs : List DevV) (vL : List Value) (w : World) : Prop where
  hd : w.heap[g]? = some (.cells (devCells devs vL).toArray 109 (0, 0))
  n1 : devs.length = dn
  n2 : vL.length = dn
  lb : ∀ d ∈ devs, 0 ≤ d.1 ∧ d.1 < 4294967296
  lg : ∀ (i : Nat) (d : DevV) (v : Value), devs[i]? = some d → vL[i]? = some v → w.ownsRow 0 5 1 v (logB d.2).length (logCells d.2)
  ds : ∀ (i j : Nat) (v v' : Value) (b : Nat), i ≠ j → vL[i]? = some v → vL[j]? = some v' → v.ownBlock = some b → v'.ownBlock ≠ some b

theorem dev_get (devs : List DevV) (vL : List Value) (i : Nat) (d : DevV) (v : Value) (h1 : devs[i]? = some d) (h2 : vL[i]? = some v) : (devCells devs vL)[i * 2]? = some (.int .u32 d.1) ∧ (devCells devs vL)[i * 2 + 1]? = some v := by
  have hz : (devs.zip vL)[i]? = some (d, v) := by rw [List.getElem?_zip_eq_some]; exact ⟨h1, h2⟩
  obtain ⟨hi, he⟩ := List.getElem?_eq_some_iff.1 hz
  have e0 := flat_get (fun p : DevV × Value => [.int .u32 p.1.1, p.2]) 2 (fun _ => rfl) (devs.zip vL) i 0 hi (by omega)
  have e1 := flat_get (fun p : DevV × Value => [.int .u32 p.1.1, p.2]) 2 (fun _ => rfl) (devs.zip vL) i 1 hi (by omega)
  rw [he] at e0 e1
  exact ⟨e0, e1⟩
theorem devCells_len (devs : List DevV) (vL : List Value) : (devCells devs vL).length = 2 * (devs.zip vL).length := by
  unfold devCells
  induction devs.zip vL with
  | nil => rfl
  | cons p l ih => simp only [List.flatMap_cons, List.length_append, ih, List.length_cons, List.length_nil]; omega
theorem devCells_set1 (i : Nat) : ∀ (devs : List DevV) (vL : List Value) (d : DevV) (l : List Int) (v : Value), devs[i]? = some d → i < vL.length → devCells (devs.set i (d.1, l)) (vL.set i v) = (devCells devs vL).set (i * 2 + 1) v := by
  induction i with
  | zero =>
    intro devs vL d l v hd hv
    match devs, vL, hv with
    | d' :: devs, u :: vL, _ =>
      cases hd
      simp [devCells]
  | succ i ih =>
    intro devs vL d l v hd hv
    match devs, vL, hv with
    | d' :: devs, u :: vL, hv =>
      have := ih devs vL d l v (by simpa using hd) (by simpa using hv)
      unfold devCells at this ⊢
      simp only [List.set_cons_succ, List.zip_cons_cons, List.flatMap_cons]
      rw [this, show (i + 1) * 2 + 1 = (i * 2 + 1) + 1 + 1 by omega]
      rfl
theorem devCells_set0 (i : Nat) : ∀ (devs : List DevV) (vL : List Value) (d : DevV) (v : Int), devs[i]? = some d → i < vL.length → devCells (devs.set i (v, d.2)) vL = (devCells devs vL).set (i * 2) (.int .u32 v) := by
  induction i with
  | zero =>
    intro devs vL d v hd hv
    match devs, vL, hv with
    | d' :: devs, u :: vL, _ =>
      cases hd
      simp [devCells]
  | succ i ih =>
    intro devs vL d v hd hv
    match devs, vL, hv with
    | d' :: devs, u :: vL, hv =>
      have := ih devs vL d v (by simpa using hd) (by simpa using hv)
      unfold devCells at this ⊢
      simp only [List.set_cons_succ, List.zip_cons_cons, List.flatMap_cons]
      rw [this, show (i + 1) * 2 = (i * 2) + 1 + 1 by omega]
      rfl

theorem DevR.fr {g dn : Nat} {devs : List DevV} {vL : List Value} {w w' : World} {T : Nat → Prop} (h : DevR g dn devs vL w) (hf : Fr T w w') (hg : ¬ T g) (hl : ∀ v ∈ vL, ∀ b, v.ownBlock = some b → ¬ T b) : DevR g dn devs vL w' :=
  ⟨hf.get h.hd hg, h.n1, h.n2, h.lb, fun i d v h1 h2 => hf.owns (h.lg i d v h1 h2) (fun b hb => hl v (List.mem_of_getElem? h2) b hb), h.ds⟩
theorem DevR.frF {g dn : Nat} {devs : List DevV} {vL : List Value} {w w' : World} (h : DevR g dn devs vL w) (hf : Fr (fun _ => False) w w') : DevR g dn devs vL w' := h.fr hf id (fun _ _ _ _ => id)
theorem DevR.own {g dn : Nat} {devs : List DevV} {vL : List Value} {w : World} (h : DevR g dn devs vL w) {v : Value} (hv : v ∈ vL) {b : Nat} (hb : v.ownBlock = some b) : ∃ cs, w.heap[b]? = some (.cells cs 5 (0, 0)) := by
  obtain ⟨i, hi⟩ := List.getElem?_of_mem hv
  have hil : i < devs.length := by rw [h.n1, ← h.n2]; exact (List.getElem?_eq_some_iff.1 hi).1
  have ho := h.lg i _ v (List.getElem?_eq_getElem hil) hi
  rcases ho.2 with ⟨rfl, _⟩ | ⟨g, cap, cur, rfl, _, hg, _⟩
  · cases hb
  · cases hb
    exact ⟨cur, hg⟩

theorem slU8 : SlT Tryz.prog 107 5 1 1 := SlT.mk' (z := .int .u8 0) Tryz.underlying107 (by kernel_rfl) rfl (by omega)

/-- Four bytes are appended, at a plain region's list. -/
theorem wpList_app4 {P : Program} {w : World} {ops : Array Oper} {rest : List Oper} {o : Oper} {a : Act} {Q : Exit → Act → World → Prop} {t e : TypeId} (T : SlT P t e 1 1)
    (hgd : o.guard = none) (s x : Operand) (ho : o.op = .call { callee := .builtin .append, args := #[s, x], argTypes := #[t, t] })
    (base : Nat) (v : Value) (n : Nat) (xs : List Value) (hs : a.eval s = v) (hown : w.ownsRow base e 1 v n xs)
    (B : Nat) (cs : Array Value) (e' : TypeId) (hx : a.eval x = .slice (some ⟨B, 0, none⟩) 4 4) (hB : w.heap[B]? = some (.cells cs e' (0, 0))) (hl : cs.size = 4) (h1 : ∀ u ∈ cs.toList, u.oneCell' = true)
    (hn : n + 4 ≤ 140737488355328) (hbase : base ≤ w.heap.size)
    (h : ∀ g cap w', w'.ownsRow base e 1 (.slice (some ⟨g, 0, none⟩) (n + 4) cap) (n + 4) (xs ++ cs.toList) → Fr (fun i => v.ownBlock = some i) w w' → (v.ownBlock = some g ∨ g = w.heap.size) → wpList P ops Q rest (a.put o.dst (.slice (some ⟨g, 0, none⟩) (n + 4) cap)) w') :
    wpList P ops Q (o :: rest) a w := by
  obtain ⟨i, z, hi, hz, hsz, hb, hzs⟩ := T.info
  exact wpList_append_lies w hgd s x t ho base e i z 1 1 T.ht hi hz hsz hb hzs T.pos v n xs hs hown ⟨B, 0, none⟩ 4 4 cs.toList hx (by simp [hl]) (World.news_of_block hB) h1
    (by omega) (by unfold maxLen; omega) (by omega) hbase w.heap.size rfl
    (fun g cap w' h2 h3 h4 h5 => h g cap w' h2 ⟨h3.os, h3.tape, h3.output, h3.size, fun k hk hn => h3.block k hk (fun e => hn e.symm)⟩ h4)

/-- A device's log has grown. -/
theorem DevR.put {g dn : Nat} {devs : List DevV} {vL : List Value} {wa w3 : World} (h : DevR g dn devs vL wa) (i : Nat) (d : DevV) (vo : Value) (hi : devs[i]? = some d) (hvo : vL[i]? = some vo) (v : Int) (gg cap : Nat)
    (hown : w3.ownsRow 0 5 1 (.slice (some ⟨gg, 0, none⟩) ((logB d.2).length + 4) cap) ((logB d.2).length + 4) (logCells d.2 ++ (wordB v).map (Value.int .u8))) (hf : Fr (fun b => vo.ownBlock = some b) wa w3) (hg : vo.ownBlock = some gg ∨ gg = wa.heap.size) :
    DevR g dn (devs.set i (d.1, d.2 ++ [v])) (vL.set i (.slice (some ⟨gg, 0, none⟩) ((logB d.2).length + 4) cap)) (w3.setCell ⟨g, i * 2 + 1, none⟩ (.slice (some ⟨gg, 0, none⟩) ((logB d.2).length + 4) cap)) := by
  have ho := h.lg i d vo hi hvo
  have hil : i < devs.length := (List.getElem?_eq_some_iff.1 hi).1
  have hvl : i < vL.length := (List.getElem?_eq_some_iff.1 hvo).1
  have hd3 := hf.getT ho h.hd (by decide)
  have fresh : ∀ j v', j ≠ i → vL[j]? = some v' → v'.ownBlock ≠ some gg := by
    intro j v' hj hv' e
    rcases hg with h1 | h1
    · exact h.ds i j vo v' gg (fun e => hj e.symm) hvo hv' h1 e
    · have hjl : j < devs.length := by rw [h.n1, ← h.n2]; exact (List.getElem?_eq_some_iff.1 hv').1
      have := ((h.lg j _ v' (List.getElem?_eq_getElem hjl) hv').lt gg e).2
      omega
  refine ⟨?_, by simp [h.n1], by simp [h.n2], ?_, ?_, ?_⟩
  · rw [row_set hd3, List.setIfInBounds_toArray, devCells_set1 i devs vL d (d.2 ++ [v]) _ hi hvl]
  · intro d' hd'
    rcases List.mem_or_eq_of_mem_set hd' with h1 | h1
    · exact h.lb d' h1
    · rw [h1]; exact h.lb d (List.mem_of_getElem? hi)
  · intro j d' v' hj hv'
    by_cases hij : i = j
    · subst hij
      rw [List.getElem?_set_self hil] at hj
      rw [List.getElem?_set_self hvl] at hv'
      cases hj
      cases hv'
      have e : logB (d.2 ++ [v]) = logB d.2 ++ wordB v := logB_snoc _ _
      unfold logCells at hown ⊢
      rw [e, List.length_append, List.map_append, show (wordB v).length = 4 from rfl]
      exact owns_setT hown hd3 (by decide) _
    · rw [List.getElem?_set_ne hij] at hj hv'
      exact owns_setT (hf.owns (h.lg j d' v' hj hv') (fun b hb hb' => h.ds i j vo v' b hij hvo hv' hb' hb)) hd3 (by decide) _
  · intro a b u u' c hab hu hu' hc hc'
    by_cases h1 : i = a
    · subst h1
      rw [List.getElem?_set_self hvl] at hu
      rw [List.getElem?_set_ne hab] at hu'
      cases hu
      cases hc
      exact fresh b u' (fun e => hab e.symm) hu' hc'
    · rw [List.getElem?_set_ne h1] at hu
      by_cases h2 : i = b
      · subst h2
        rw [List.getElem?_set_self hvl] at hu'
        cases hu'
        cases hc'
        exact fresh a u hab hu hc
      · rw [List.getElem?_set_ne h2] at hu'
        exact h.ds a b u u' c hab hu hu' hc hc'

def LogOk (devs : List DevV) : Prop := ∀ d ∈ devs, 4 * d.2.length + 4 ≤ 140737488355328

set_option maxRecDepth 100000 in
set_option maxHeartbeats 2000000 in
theorem dput_any (g dn : Nat) (devs : List DevV) (vL : List Value) (w : World) (h : DevR g dn devs vL w) (i : Nat) (d : DevV) (hi : devs[i]? = some d) (hL : LogOk devs) (v : Int) (v0 : 0 ≤ v) (v1 : v < 4294967296) :
    Calls Tryz.prog 177 #[.pointer (some ⟨g, i * 2, none⟩), .int .u32 v] w fun e w' => e = .returned (.tuple #[]) ∧ ∃ u : Value, DevR g dn (devs.set i (d.1, d.2 ++ [v])) (vL.set i u) w' ∧ (∀ b, u.ownBlock = some b → (∃ v ∈ vL, v.ownBlock = some b) ∨ w.heap.size ≤ b) ∧ Fr (fun b => b = g ∨ ∃ v ∈ vL, v.ownBlock = some b) w w' := by
  have hil : i < vL.length := by rw [h.n2, ← h.n1]; exact (List.getElem?_eq_some_iff.1 hi).1
  obtain ⟨vo, hvo⟩ : ∃ vo, vL[i]? = some vo := ⟨_, List.getElem?_eq_getElem hil⟩
  have ho := h.lg i d vo hi hvo
  have hc := (dev_get devs vL i d vo hi hvo).2
  have c1 : w.cell? ⟨g, i * 2 + 1, none⟩ = some vo := (row_cell h.hd _).trans (by rw [List.getElem?_toArray]; exact hc)
  have hlen : (logB d.2).length + 4 ≤ 140737488355328 := by rw [logB_len]; exact hL d (List.mem_of_getElem? hi)
  have HH := hid h
  have HI := hid hi
  have HVO := hid hvo
  have HO := hid ho
  have hq1 : v / 16777216 % 256 = v / 16777216 := by omega
  clear h hi hvo ho hc
  go_enter Tryz.func177, Tryz.ntmps177
  go_wp2_with (refine wpList_app4 slU8 (by rfl) _ _ (by rfl) 0 vo _ _ (by rfl) (HO.out.alloc _) w.heap.size #[.int .u8 (v / 16777216), .int .u8 (v / 65536 % 256), .int .u8 (v / 256 % 256), .int .u8 (v % 256)] _ (by rfl) (heap_alloc_new w _) rfl (by simp [Value.oneCell']) hlen (Nat.zero_le _) ?_; intro gg cap w3 hown3 hf3 hat; have gd3 := hf3.getT (HO.out.alloc _) (get_alloc HH.out.hd _) (by decide); have ck3 : w3.cell? ⟨g, i * 2 + 1, none⟩ = w.cell? ⟨g, i * 2 + 1, none⟩ := (row_cell gd3 _).trans (row_cell HH.out.hd _).symm; rw [c1] at ck3; have fk3 := row_frozen gd3 (i * 2 + 1); have HN := hid (DevR.put (HH.out.frF ((Fr.refl _ w).alloc _)) i d vo HI.out HVO.out v gg cap hown3 hf3 hat); have HF3 := hid hf3; have HAT := hid hat; clear hown3 hf3 hat gd3)
  go_end0
  refine ⟨rfl, _, HN.out, ?_, ?_⟩
  · intro b hb
    cases hb
    rcases HAT.out with h1 | h1
    · exact .inl ⟨vo, List.mem_of_getElem? HVO.out, h1⟩
    · exact .inr (by rw [h1]; simp)
  · refine Fr.setCell ?_ (.inl (.inl rfl)) _
    exact ((Fr.refl _ w).alloc _).step HF3.out (fun b hb => .inl (.inr ⟨vo, List.mem_of_getElem? HVO.out, hb⟩))

end Go.Proofs.YthmcheoehcmglaaGreat
/- The processor: step and Cycle. -/
namespace Go.Proofs.YthmcheoehcmglaaGreat
open Go.RowKit
set_option linter.unusedVariables false
attribute [local go_sem ↓] Go.wp_at_zero Go.wp_at_succ

def stepM {σ : Type} (O : Ops σ) (s : StV) (m : σ) : StV × σ :=
  let r := instrM O s m
  if r.1 = 0 then (r.2.1, r.2.2) else ({ s with status := 2, cause := r.1 }, r.2.2)
/-- A cycle of a ward's turn. -/
def cycleM {σ : Type} (O : Ops σ) (s : StV) (m : σ) : StV × σ :=
  if goes s = false then (s, m) else if 0 < s.busy then ({ s with busy := s.busy - 1 }, m) else stepM O s m

/-- A state lies within a block. -/
structure StAt (w : World) (b off : Nat) (T : TypeId) (L : List Value) (s : StV) : Prop where
  h : w.heap[b]? = some (.cells L.toArray T (0, 0))
  l : off + 13 ≤ L.length
  c : stCells s = (L.drop off).take 13

theorem st_lit (s : StV) (h : s.regs.length = 8) : ∃ r0 r1 r2 r3 r4 r5 r6 r7, s.regs = [r0, r1, r2, r3, r4, r5, r6, r7] ∧ stCells s = [.int .u32 r0, .int .u32 r1, .int .u32 r2, .int .u32 r3, .int .u32 r4, .int .u32 r5, .int .u32 r6, .int .u32 r7, .int .u32 s.place, .int .i64 s.status, .int .i64 s.cause, .int .i64 s.busy, .bool s.y] := by
  obtain ⟨r0, r1, r2, r3, r4, r5, r6, r7, hr⟩ := st13 _ h
  exact ⟨r0, r1, r2, r3, r4, r5, r6, r7, hr, by unfold stCells; rw [hr]; rfl⟩

theorem StAt.cell {w : World} {b off : Nat} {T : TypeId} {L : List Value} {s : StV} (h : StAt w b off T L s) (j : Nat) (hj : j < 13) : w.cell? ⟨b, off + j, none⟩ = (stCells s)[j]? := by
  rw [row_cell h.h, List.getElem?_toArray, h.c, List.getElem?_take, if_pos hj, List.getElem?_drop]
theorem StAt.at {w : World} {b off : Nat} {T : TypeId} {L : List Value} {s : StV} (h : StAt w b off T L s) (h8 : s.regs.length = 8) (j : Nat) (hj : j < 5) : w.cell? ⟨b, off + (8 + j), none⟩ = ([.int .u32 s.place, .int .i64 s.status, .int .i64 s.cause, .int .i64 s.busy, .bool s.y] : List Value)[j]? := by
  obtain ⟨r0, r1, r2, r3, r4, r5, r6, r7, hr, hc⟩ := st_lit s h8
  rw [h.cell (8 + j) (by omega), hc, Nat.add_comm]
  rfl
theorem StAt.fr {w w' : World} {b off : Nat} {T : TypeId} {L : List Value} {s : StV} {X : Nat → Prop} (h : StAt w b off T L s) (hf : Fr X w w') (hn : ¬ X b) : StAt w' b off T L s := ⟨hf.get h.h hn, h.l, h.c⟩

/-- One of the state's cells is set. -/
theorem StAt.set {w : World} {b off : Nat} {T : TypeId} {L : List Value} {s s' : StV} (h : StAt w b off T L s) (j : Nat) (hj : j < 13) (v : Value) (hs : stCells s' = (stCells s).set j v) : StAt (w.setCell ⟨b, off + j, none⟩ v) b off T (splice L off (stCells s')) s' := by
  have h13 : (stCells s).length = 13 := by rw [h.c]; simp; have := h.l; omega
  have h13' : (stCells s').length = 13 := by rw [hs]; simp [h13]
  have hl := h.l
  have e : L.set (off + j) v = splice L off (stCells s') := by
    apply List.ext_getElem?
    intro i
    rw [splice_get L off (stCells s') (by omega), hs, List.getElem?_set, List.getElem?_set, List.length_set, h13]
    by_cases h1 : off ≤ i ∧ i < off + 13
    · rw [if_pos h1]
      by_cases h2 : off + j = i
      · subst h2
        rw [if_pos rfl, if_pos (by omega), if_pos (by omega), if_pos (by omega)]
      · rw [if_neg h2, if_neg (by omega), h.c, List.getElem?_take, if_pos (by omega), List.getElem?_drop, show off + (i - off) = i by omega]
    · rw [if_neg h1, if_neg (by omega)]
  refine ⟨by rw [row_set h.h, List.setIfInBounds_toArray, e], by rw [length_splice _ _ _ (by omega)]; omega, ?_⟩
  apply List.ext_getElem?
  intro i
  rw [List.getElem?_take]
  by_cases h1 : i < 13
  · rw [if_pos h1, List.getElem?_drop, splice_get L off (stCells s') (by omega), if_pos (by omega), Nat.add_sub_cancel_left]
  · rw [if_neg h1, List.getElem?_eq_none (by omega)]

theorem splice_splice {α : Type} (L : List α) (off : Nat) (a b : List α) (h : a.length = b.length) (hl : off + a.length ≤ L.length) : splice (splice L off a) off b = splice L off b := by
  apply List.ext_getElem?
  intro i
  rw [splice_get _ _ _ (by rw [length_splice _ _ _ hl]; omega), splice_get _ _ _ hl, splice_get _ _ _ (by omega)]
  by_cases h1 : off ≤ i ∧ i < off + b.length
  · rw [if_pos h1, if_pos h1]
  · rw [if_neg h1, if_neg h1, if_neg (by omega)]

/-- What a cycle leaves. -/
def CycPost {σ : Type} (R : σ → World → Prop) (W : Nat → Prop) (b off : Nat) (T : TypeId) (L : List Value) (r : StV × σ) (w : World) (e : Ending) (w' : World) : Prop :=
  e = .returned (.tuple #[]) ∧ ∃ w1, R r.2 w1 ∧ Fr W w w1 ∧ Fr (fun i => i = b) w1 w' ∧ StAt w' b off T (splice L off (stCells r.1)) r.1

theorem splice_self {s : StV} {L : List Value} {off : Nat} (hl : off + 13 ≤ L.length) (h : stCells s = (L.drop off).take 13) : splice L off (stCells s) = L := by
  unfold splice
  rw [h]
  have : ((L.drop off).take 13).length = 13 := by simp; omega
  rw [this, ← List.drop_drop, List.take_append_drop, List.take_append_drop]

theorem work_one (r0 r1 r2 r3 r4 r5 r6 r7 p : Int) (a b c : Int) (y : Bool) (o : Value) (ho : o.oneCell' = true) : (#[.int .u32 r0, .int .u32 r1, .int .u32 r2, .int .u32 r3, .int .u32 r4, .int .u32 r5, .int .u32 r6, .int .u32 r7, .int .u32 p, .int .i64 a, .int .i64 b, .int .i64 c, .bool y, .int .i64 0, .int .i64 0, .int .i64 0, .int .u32 0, o] : Array Value).all (·.oneCell') = true := by
  show ([.int .u32 r0, .int .u32 r1, .int .u32 r2, .int .u32 r3, .int .u32 r4, .int .u32 r5, .int .u32 r6, .int .u32 r7, .int .u32 p, .int .i64 a, .int .i64 b, .int .i64 c, .bool y, .int .i64 0, .int .i64 0, .int .i64 0, .int .u32 0, o] : List Value).toArray.all (·.oneCell') = true
  rw [List.all_toArray]
  simp only [List.all_cons, List.all_nil, ho]
  rfl

theorem instrM_B {σ : Type} {O : Ops σ} {rv : Value} {S W : Nat → Prop} {R Q : σ → World → Prop} (ok : OutOk O rv S W R Q) (m : σ) (w : World) (hR : R m w) (s : StV) (h : StB s) : StB (instrM O s m).2.1 := by
  have hp : StB { s with place := (s.place + 1) % 4294967296 } := h.place _ (by omega) (by omega)
  unfold instrM
  split
  · exact h
  · split
    · exact h
    · rename_i v hv _ f cyc hc
      have hcy := code_cyc _ _ _ hc
      split
      · exact h
      · have hw := workM_B ok m w hR ((v / 16777216).toNat - 1) (v / 1048576 % 8).toNat (v / 65536 % 8).toNat (v % 65536) (by omega) (by omega) _ hp
        dsimp only
        split
        · dsimp only
          split
          · exact ⟨hw.l, hw.r, hw.p0, hw.p1, hw.s0, hw.s1, hw.c0, hw.c1, by simp only; omega, by simp only; omega⟩
          · exact hw
        · exact hw

theorem st_one13 (r0 r1 r2 r3 r4 r5 r6 r7 p : Int) (a b c : Int) (y : Bool) : ([.int .u32 r0, .int .u32 r1, .int .u32 r2, .int .u32 r3, .int .u32 r4, .int .u32 r5, .int .u32 r6, .int .u32 r7, .int .u32 p, .int .i64 a, .int .i64 b, .int .i64 c, .bool y] : List Value).toArray.all (·.oneCell') = true := by
  rw [List.all_toArray]
  rfl

theorem StAt.put {w' : World} {b off : Nat} {T : TypeId} {L : List Value} {s' : StV} (hl : off + 13 ≤ L.length) (h8 : s'.regs.length = 8) (g : w'.heap[b]? = some (.cells (splice L off (stCells s')).toArray T (0, 0))) : StAt w' b off T (splice L off (stCells s')) s' := by
  have h13 : (stCells s').length = 13 := by simp [stCells, h8]
  refine ⟨g, by rw [length_splice _ _ _ (by omega)]; omega, ?_⟩
  apply List.ext_getElem?
  intro i
  rw [List.getElem?_take]
  by_cases h1 : i < 13
  · rw [if_pos h1, List.getElem?_drop, splice_get L off (stCells s') (by omega), if_pos (by omega), Nat.add_sub_cancel_left]
  · rw [if_neg h1, List.getElem?_eq_none (by omega)]

set_option maxRecDepth 100000 in
set_option maxHeartbeats 4000000 in
theorem step_any {σ : Type} {O : Ops σ} {rv : Value} {S W : Nat → Prop} {R Q : σ → World → Prop} (ok : OutOk O rv S W R Q) (w : World) (m : σ) (hR : R m w) (b off : Nat) (T : TypeId) (L : List Value) (s : StV) (h : StAt w b off T L s) (hb : ¬ W b) (hs : StB s) :
    Calls Tryz.prog 90 #[.pointer (some ⟨b, off, none⟩), .iface 139 rv] w fun e w' => CycPost Q W b off T L (stepM O s m) w e w' := by
  have H := hid h
  have HOK := hid ok
  have HR := hid hR
  have HS := hid hs
  obtain ⟨r0, r1, r2, r3, r4, r5, r6, r7, hr, hc⟩ := st_lit s hs.l
  have HC := hid hc
  have HRG := hid hr
  have HL : Hid ([.int .u32 r0, .int .u32 r1, .int .u32 r2, .int .u32 r3, .int .u32 r4, .int .u32 r5, .int .u32 r6, .int .u32 r7, .int .u32 s.place, .int .i64 s.status, .int .i64 s.cause, .int .i64 s.busy, .bool s.y] = (L.drop off).take 13) := by unfold Hid; rw [← hc]; exact h.c
  have HW0 : Hid (workCells s 0 0 0 0 (.iface 139 rv) = [.int .u32 r0, .int .u32 r1, .int .u32 r2, .int .u32 r3, .int .u32 r4, .int .u32 r5, .int .u32 r6, .int .u32 r7, .int .u32 s.place, .int .i64 s.status, .int .i64 s.cause, .int .i64 s.busy, .bool s.y, .int .i64 0, .int .i64 0, .int .i64 0, .int .u32 0, .iface 139 rv]) := by unfold workCells Hid; rw [hc]; rfl
  have HIB := hid (instrM_B ok m w hR s hs)
  have HQ : Hid (stepM O s m = if (instrM O s m).1 = 0 then ((instrM O s m).2.1, (instrM O s m).2.2) else ({ s with status := 2, cause := (instrM O s m).1 }, (instrM O s m).2.2)) := rfl
  have HNB : Hid (¬ S w.heap.size) := fun hh => absurd (ok.lt m w _ hR hh) (Nat.lt_irrefl _)
  have HIN := hid (fun w1 h1 h2 => instr_any ok w1 m h1 w.heap.size HNB.out s h2 hs)
  generalize stepM O s m = q at *
  generalize instrM O s m = r at *
  obtain ⟨c, s', m'⟩ := r
  simp only at HQ HIB
  clear h ok hR hs hc hr
  go_enter Tryz.func90, Tryz.ntmps90
  go_wp2_with (first
    | (refine wpList_loadMid (hu := Tryz.underlying91) ?_ 91 (.tmp 7) ?_ b off T L [.int .u32 r0, .int .u32 r1, .int .u32 r2, .int .u32 r3, .int .u32 r4, .int .u32 r5, .int .u32 r6, .int .u32 r7, .int .u32 s.place, .int .i64 s.status, .int .i64 s.cause, .int .i64 s.busy, .bool s.y] ?_ H.out.h HL.out ?_ ?_ ?_; rfl; rfl; rfl; rfl; kernel_rfl)
    | (refine wpList_storeRow ?_ 191 (.tmp 4) (.tmp 10) ?_ w.heap.size 191 _ #[.int .u32 r0, .int .u32 r1, .int .u32 r2, .int .u32 r3, .int .u32 r4, .int .u32 r5, .int .u32 r6, .int .u32 r7, .int .u32 s.place, .int .i64 s.status, .int .i64 s.cause, .int .i64 s.busy, .bool s.y, .int .i64 0, .int .i64 0, .int .i64 0, .int .u32 0, .iface 139 rv] ?_ ?_ (heap_alloc_new w _) ?_ ?_ (work_one _ _ _ _ _ _ _ _ _ _ _ _ _ _ rfl) ?_; rfl; rfl; rfl; rfl; kernel_rfl; rfl; intro w1 g1 hf1; have HG1 := hid g1; have HF1 := hid (((Fr.refl (fun _ => False) w).alloc _).step hf1 (fun i hi => .inr (by rw [hi]; exact Nat.le_refl _))); clear g1 hf1))
  refine (HIN.out w1 ?_ ?_).mono ?_
  · exact HOK.out.fr m w w1 _ HR.out HF1.out (fun _ h => h.elim)
  · unfold WorkAt; rw [HW0.out]; exact HG1.out
  rintro e w2 ⟨rfl, hw2, hr2, hf2⟩
  have HF2 : Hid (Fr W w w2) := (HF1.out.toS (S := W)).step hf2 (fun i hi => hi.elim (fun h => .inl h) (fun h => .inr (by rw [h]; exact Nat.le_refl _)))
  have HR2 := hid hr2
  have HW2 := hid hw2
  have HA2 := hid (H.out.fr HF2.out hb)
  simp only at HR2 HW2
  clear hf2 hr2 hw2 HG1 HF1 HIN
  by_cases hc0 : c = 0
  case pos =>
    subst hc0
    have HQ2 : Hid (q = (s', m')) := HQ.out
    obtain ⟨c', a', b', n', hw2⟩ := HW2.out rfl
    have HW3 := hid hw2
    obtain ⟨q0, q1, q2, q3, q4, q5, q6, q7, hq, hqc⟩ := st_lit s' HIB.out.l
    have HQC := hid hqc
    have HWL : Hid ([.int .u32 q0, .int .u32 q1, .int .u32 q2, .int .u32 q3, .int .u32 q4, .int .u32 q5, .int .u32 q6, .int .u32 q7, .int .u32 s'.place, .int .i64 s'.status, .int .i64 s'.cause, .int .i64 s'.busy, .bool s'.y] = ((workCells s' c' a' b' n' (.iface 139 rv)).drop 0).take 13) := by unfold Hid workCells; rw [hqc]; rfl
    clear hw2 hq hqc HW2 HQ
    go_wp2_with (first
      | (refine wpList_loadMid (hu := Tryz.underlying91) ?_ 91 (.tmp 22) ?_ w.heap.size 0 191 (workCells s' c' a' b' n' (.iface 139 rv)) [.int .u32 q0, .int .u32 q1, .int .u32 q2, .int .u32 q3, .int .u32 q4, .int .u32 q5, .int .u32 q6, .int .u32 q7, .int .u32 s'.place, .int .i64 s'.status, .int .i64 s'.cause, .int .i64 s'.busy, .bool s'.y] ?_ HW3.out HWL.out ?_ ?_ ?_; rfl; rfl; rfl; rfl; kernel_rfl)
      | (refine wpList_storeMid ?_ 91 (.tmp 24) (.tmp 23) ?_ b off T L [.int .u32 q0, .int .u32 q1, .int .u32 q2, .int .u32 q3, .int .u32 q4, .int .u32 q5, .int .u32 q6, .int .u32 q7, .int .u32 s'.place, .int .i64 s'.status, .int .i64 s'.cause, .int .i64 s'.busy, .bool s'.y] ?_ ?_ HA2.out.h ?_ ?_ ?_ ?_; rfl; rfl; rfl; rfl; kernel_rfl; exact HA2.out.l; exact st_one13 _ _ _ _ _ _ _ _ _ _ _ _ _; intro w3 g3 hf3; have HG3 := hid g3; have HF3 := hid hf3; clear g3 hf3))
    go_end0
    rw [HQ2.out]
    refine ⟨rfl, w2, HR2.out, HF2.out, HF3.out, StAt.put HA2.out.l HIB.out.l ?_⟩
    rw [HQC.out]
    exact HG3.out
  case neg =>
    have hcb : (c != 0) = true := by simp [hc0]
    have HQ2 : Hid (q = ({ s with status := 2, cause := c }, m')) := by unfold Hid; rw [HQ.out, if_neg hc0]
    have h8 := HS.out.l
    have HA3 : Hid (StAt (w2.setCell ⟨b, off + 9, none⟩ (.int .i64 2)) b off T (splice L off (stCells { s with status := 2 })) { s with status := 2 }) := HA2.out.set 9 (by omega) _ (by unfold stCells; simp only [HRG.out]; rfl)
    have HA4 : Hid (StAt ((w2.setCell ⟨b, off + 9, none⟩ (.int .i64 2)).setCell ⟨b, off + 10, none⟩ (.int .i64 c)) b off T (splice (splice L off (stCells { s with status := 2 })) off (stCells { s with status := 2, cause := c })) { s with status := 2, cause := c }) := HA3.out.set 10 (by omega) _ (by unfold stCells; simp only [HRG.out]; rfl)
    have c9 : w2.cell? ⟨b, off + 9, none⟩ = some (.int .i64 s.status) := HA2.out.at h8 1 (by omega)
    have f9 : w2.frozen? ⟨b, off + 9, none⟩ = false := row_frozen HA2.out.h _
    have c10 : (w2.setCell ⟨b, off + 9, none⟩ (.int .i64 2)).cell? ⟨b, off + 10, none⟩ = some (.int .i64 s.cause) := HA3.out.at h8 2 (by omega)
    have f10 : (w2.setCell ⟨b, off + 9, none⟩ (.int .i64 2)).frozen? ⟨b, off + 10, none⟩ = false := row_frozen HA3.out.h _
    clear HQ HW2
    go_wp2_with fail
    go_end0
    rw [HQ2.out]
    refine ⟨rfl, w2, HR2.out, HF2.out, ((Fr.one w2 b (off + 9) _).setCell (p := ⟨b, off + 10, none⟩) (.inl rfl) _), ?_⟩
    have hh := HA4.out
    rw [splice_splice _ _ _ _ (by simp [stCells, h8]) (by have := HA2.out.l; simp [stCells, h8]; omega)] at hh
    exact hh

end Go.Proofs.YthmcheoehcmglaaGreat
/- The processor: Cycle. -/
namespace Go.Proofs.YthmcheoehcmglaaGreat
open Go.RowKit
set_option linter.unusedVariables false
attribute [local go_sem ↓] Go.wp_at_zero Go.wp_at_succ

set_option maxRecDepth 100000 in
set_option maxHeartbeats 4000000 in
theorem cycle_st {σ : Type} {O : Ops σ} {rv : Value} {S W : Nat → Prop} {R Q : σ → World → Prop} (ok : OutOk O rv S W R Q) (w : World) (m : σ) (hR : R m w) (b off : Nat) (T : TypeId) (L : List Value) (s : StV) (h : StAt w b off T L s) (hb : ¬ W b) (hs : StB s) :
    Calls Tryz.prog 63 #[.pointer (some ⟨b, off, none⟩), .iface 139 rv] w fun e w' => CycPost Q W b off T L (cycleM O s m) w e w' := by
  have H := hid h
  have HOK := hid ok
  have HR := hid hR
  have HS := hid hs
  have h8 := hs.l
  have b0 := hs.b0
  have b1 := hs.b1
  have HGO := hid (goesOn_any w b off s (h.at h8 1 (by omega)) (h.at h8 4 (by omega)))
  have HST := hid (step_any ok w m hR b off T L s h hb hs)
  have HCM : Hid (cycleM O s m = if goes s = false then (s, m) else if 0 < s.busy then ({ s with busy := s.busy - 1 }, m) else stepM O s m) := rfl
  generalize stepM O s m = q at *
  generalize cycleM O s m = cq at *
  have cB : w.cell? ⟨b, off + 11, none⟩ = some (.int .i64 s.busy) := h.at h8 3 (by omega)
  have fB : w.frozen? ⟨b, off + 11, none⟩ = false := row_frozen h.h _
  clear h ok hR hs
  cases hg : goes s with
  | false =>
    rw [hg] at HGO HCM
    go_enter Tryz.func63, Tryz.ntmps63
    go_wp2_with fail
    refine HGO.out.mono ?_
    rintro e w1 ⟨rfl, rfl⟩
    go_wp2_with fail
    go_end0
    rw [show cq = (s, m) from HCM.out]
    refine ⟨rfl, w1, HOK.out.toQ _ _ HR.out, Fr.refl _ _, Fr.refl _ _, ?_⟩
    rw [splice_self H.out.l H.out.c]
    exact H.out
  | true =>
    rw [hg] at HGO HCM
    by_cases hbz : 0 < s.busy
    · have HCM2 : Hid (cq = ({ s with busy := s.busy - 1 }, m)) := by unfold Hid; rw [HCM.out, if_neg (by simp), if_pos hbz]
      have HA := hid (H.out.set (s' := { s with busy := s.busy - 1 }) 11 (by omega) (.int .i64 (s.busy - 1)) (by obtain ⟨r0, r1, r2, r3, r4, r5, r6, r7, hr⟩ := st13 _ h8; unfold stCells; simp only [hr]; rfl))
      clear HCM
      go_enter Tryz.func63, Tryz.ntmps63
      go_wp2_with fail
      refine HGO.out.mono ?_
      rintro e w1 ⟨rfl, rfl⟩
      go_wp2_with fail
      go_end0
      rw [HCM2.out]
      exact ⟨rfl, w1, HOK.out.toQ _ _ HR.out, Fr.refl _ _, Fr.one w1 b (off + 11) _, HA.out⟩
    · have HCM2 : Hid (cq = q) := by unfold Hid; rw [HCM.out, if_neg (by simp), if_neg hbz]
      clear HCM
      go_enter Tryz.func63, Tryz.ntmps63
      go_wp2_with fail
      refine HGO.out.mono ?_
      rintro e w1 ⟨rfl, rfl⟩
      go_wp2_with fail
      refine HST.out.mono ?_
      rintro e w2 ⟨rfl, hp⟩
      have HP := hid hp
      clear hp
      go_wp2_with fail
      go_end0
      rw [HCM2.out]
      exact ⟨rfl, HP.out⟩

end Go.Proofs.YthmcheoehcmglaaGreat
/- What a ward reaches in its turn: Get and Put, with devices; the whole outside. -/
namespace Go.Proofs.YthmcheoehcmglaaGreat
open Go.RowKit
set_option linter.unusedVariables false
attribute [local go_sem ↓] Go.wp_at_zero Go.wp_at_succ

/-- What a ward reads and writes: the memory, the devices. -/
abbrev MemD := List Int × List DevV

def getM (x : KX) (k : Nat) (m : MemD) (a : Int) : Option Int :=
  match findDev (x.dvs.getD k []) 0 a with
  | some d => some (m.2.getD d.toNat (0, [])).1
  | none => readM (x.regs.getD k []) 1 m.1 a
def putD (devs : List DevV) (i : Nat) (v : Int) : List DevV := devs.set i ((devs.getD i (0, [])).1, (devs.getD i (0, [])).2 ++ [v])
def putM (x : KX) (k : Nat) (m : MemD) (a v : Int) : Option MemD :=
  match findDev (x.dvs.getD k []) 1 a with
  | some d => some (m.1, putD m.2 d.toNat v)
  | none => (findR 2 a (x.regs.getD k [])).map (fun i => (m.1.set i.toNat v, m.2))
def opsK (x : KX) (k : Nat) (ck : Int) : Ops MemD where
  fetch m a := readM (x.regs.getD k []) 4 m.1 a
  get m a := getM x k m a
  put m a v := putM x k m a v
  call m s n := ((callM x k ck s m.1 n.toNat).1, (callM x k ck s m.1 n.toNat).2.1, ((callM x k ck s m.1 n.toNat).2.2, m.2))

theorem findDev_bd {ds : List Int} {part a d : Int} {n : Nat} (hb : ∀ d ∈ ds, 0 ≤ d ∧ d < n) (h : findDev ds part a = some d) : 0 ≤ d ∧ d < n := by
  unfold findDev at h
  split at h
  · cases h
    rename_i hh
    have hi : ((a - 32768) / 2).toNat < ds.length := by omega
    rw [List.getD_eq_getElem?_getD, List.getElem?_eq_getElem hi]
    exact hb _ (List.getElem_mem hi)
  · cases h

theorem getD_of {α : Type} {l : List α} {i : Nat} {x d : α} (h : l[i]? = some x) : l.getD i d = x := by rw [List.getD_eq_getElem?_getD, h]; rfl

set_option maxRecDepth 100000 in
set_option maxHeartbeats 2000000 in
theorem tget_any (x : KX) (ck : Int) (m : MemD) (vL : List Value) (w : World) (h : KerR x ck m.1 w) (hD : DevR x.gD x.dn m.2 vL w) (k : Nat) (hk : k < x.regs.length) (a : Int) (a0 : 0 ≤ a) (a1 : a < 4294967296) :
    Calls Tryz.prog 166 #[turnVal x k, .int .u32 a] w fun e w' => e = .returned (.tuple #[.int .u32 ((getM x k m a).getD 0), .bool (getM x k m a).isSome]) ∧ Fr (fun _ => False) w w' := by
  have hk2 : k < x.dvs.length := by rw [h.dl]; exact hk
  obtain ⟨rs, hrs⟩ : ∃ rs, x.regs[k]? = some rs := ⟨_, List.getElem?_eq_getElem hk⟩
  obtain ⟨ds, hds⟩ : ∃ ds, x.dvs[k]? = some ds := ⟨_, List.getElem?_eq_getElem hk2⟩
  have HQ : Hid (getM x k m a = match findDev ds 0 a with | some d => some (m.2.getD d.toNat (0, [])).1 | none => readM rs 1 m.1 a) := by unfold Hid getM; rw [getD_of hds, getD_of hrs]
  have HDV := hid (fun (w1 : World) (hf : Fr (fun _ => False) w w1) => tdevice_any x ck m.1 w1 (h.frF hf) k ds hds 0 a (by omega) (by omega) a0 a1)
  have HRD := hid (fun (w1 : World) (hf : Fr (fun _ => False) w w1) => tread_any x ck m.1 w1 (h.frF hf) k rs hrs 1 a (by omega) (by omega) a0 a1)
  have HBD : Hid (∀ d, findDev ds 0 a = some d → 0 ≤ d ∧ d < x.dn) := fun d hd => findDev_bd (h.db ds (List.mem_of_getElem? hds)).2 hd
  have HDD := hid hD
  generalize readM rs 1 m.1 a = q at *
  generalize findDev ds 0 a = fd at *
  generalize getM x k m a = r at *
  unfold turnVal
  clear h hD hrs hds
  cases fd with
  | none =>
    replace HQ : Hid (r = q) := HQ
    go_enter Tryz.func166, Tryz.ntmps166
    go_wp2_with fail
    refine (HDV.out _ ((Fr.refl _ w).alloc _)).mono ?_
    rintro e w1 ⟨rfl, hf1⟩
    have HF1 := hid (((Fr.refl _ w).alloc _).step hf1 (fun _ h => .inl h))
    have HB := hid (hf1.get (heap_alloc_new w _) id)
    have b0 : w1.cell? ⟨w.heap.size, 0, none⟩ = some (.pointer (some ⟨x.X, 0, none⟩)) := row_cell HB.out 0
    have b1 : w1.cell? ⟨w.heap.size, 1, none⟩ = some (.int .i64 k) := row_cell HB.out 1
    clear hf1
    go_wp2_with fail
    refine (HRD.out _ HF1.out).mono ?_
    rintro e w2 ⟨rfl, hf2⟩
    have HF2 := hid (HF1.out.step hf2 (fun _ h => .inl h))
    clear hf2
    go_wp2_with fail
    go_ret2
    rw [HQ.out]
    exact ⟨rfl, HF2.out⟩
  | some d =>
    have hd := HBD.out d rfl
    obtain ⟨j, rfl⟩ := Int.eq_ofNat_of_zero_le hd.1
    have hj : j < x.dn := by omega
    have hj1 : j < m.2.length := by rw [HDD.out.n1]; exact hj
    have hj2 : j < vL.length := by rw [HDD.out.n2]; exact hj
    obtain ⟨dv, hdv⟩ : ∃ dv, m.2[j]? = some dv := ⟨_, List.getElem?_eq_getElem hj1⟩
    have hc := (dev_get m.2 vL j dv _ hdv (List.getElem?_eq_getElem hj2)).1
    replace HQ : Hid (r = some dv.1) := by
      have h1 := HQ.out
      simp only [Int.toNat_natCast, getD_of hdv] at h1
      exact h1
    have HC : Hid (∀ w1, Fr (fun _ => False) w w1 → w1.cell? ⟨x.gD, j * 2, none⟩ = some (.int .u32 dv.1)) := fun w1 hf => (row_cell (HDD.out.frF hf).hd _).trans (by rw [List.getElem?_toArray]; exact hc)
    simp only [Option.map_some, Int.toNat_natCast, Option.isSome_some] at HDV
    clear hd hc hdv
    go_enter Tryz.func166, Tryz.ntmps166
    go_wp2_with fail
    refine (HDV.out _ ((Fr.refl _ w).alloc _)).mono ?_
    rintro e w1 ⟨rfl, hf1⟩
    have HF1 := hid (((Fr.refl _ w).alloc _).step hf1 (fun _ h => .inl h))
    have c1 := HC.out w1 HF1.out
    clear hf1
    go_wp2_with fail
    go_ret2
    rw [HQ.out]
    exact ⟨rfl, HF1.out⟩

/-- The blocks that a ward's turn reads; those that it writes. -/
def KSd (x : KX) (vL : List Value) (i : Nat) : Prop := KS x i ∨ i = x.gD ∨ ∃ v ∈ vL, v.ownBlock = some i
def KWd (x : KX) (vL : List Value) (i : Nat) : Prop := i = x.M ∨ i = x.gD ∨ ∃ v ∈ vL, v.ownBlock = some i

/-- The logs' blocks are old ones, or new since there were N blocks. -/
def LogsIn (vL vL' : List Value) (N : Nat) : Prop := ∀ v ∈ vL', ∀ b, v.ownBlock = some b → (∃ u ∈ vL, u.ownBlock = some b) ∨ N ≤ b

theorem LogsIn.refl (vL : List Value) (N : Nat) : LogsIn vL vL N := fun v hv b hb => .inl ⟨v, hv, hb⟩

set_option maxRecDepth 100000 in
set_option maxHeartbeats 2000000 in
theorem tput_any (x : KX) (ck : Int) (m : MemD) (vL : List Value) (w : World) (h : KerR x ck m.1 w) (hD : DevR x.gD x.dn m.2 vL w) (hvl : x.vD.length = x.dvs.length) (hL : LogOk m.2) (k : Nat) (hk : k < x.regs.length) (a v : Int) (a0 : 0 ≤ a) (a1 : a < 4294967296) (v0 : 0 ≤ v) (v1 : v < 4294967296) :
    Calls Tryz.prog 167 #[turnVal x k, .int .u32 a, .int .u32 v] w fun e w' => e = .returned (.bool (putM x k m a v).isSome) ∧ (KerR x ck ((putM x k m a v).getD m).1 w' ∧ ∃ vL', DevR x.gD x.dn ((putM x k m a v).getD m).2 vL' w' ∧ LogsIn vL vL' w.heap.size) ∧ Fr (KWd x vL) w w' := by
  have hk2 : k < x.dvs.length := by rw [h.dl]; exact hk
  obtain ⟨rs, hrs⟩ : ∃ rs, x.regs[k]? = some rs := ⟨_, List.getElem?_eq_getElem hk⟩
  obtain ⟨ds, hds⟩ : ∃ ds, x.dvs[k]? = some ds := ⟨_, List.getElem?_eq_getElem hk2⟩
  have HQ : Hid (putM x k m a v = match findDev ds 1 a with | some d => some (m.1, putD m.2 d.toNat v) | none => (findR 2 a rs).map (fun i => (m.1.set i.toNat v, m.2))) := by unfold Hid putM; rw [getD_of hds, getD_of hrs]
  have HDV := hid (fun (w1 : World) (hf : Fr (fun _ => False) w w1) => tdevice_any x ck m.1 w1 (h.frF hf) k ds hds 1 a (by omega) (by omega) a0 a1)
  have HFD := hid (fun (w1 : World) (hf : Fr (fun _ => False) w w1) => tfind_any x ck m.1 w1 (h.frF hf) k rs hrs 2 a (by omega) (by omega) a0 a1)
  have HFB := hid (findR_bd x ck m.1 w h k rs hrs 2 a)
  have HBD : Hid (∀ d, findDev ds 1 a = some d → 0 ≤ d ∧ d < x.dn) := fun d hd => findDev_bd (h.db ds (List.mem_of_getElem? hds)).2 hd
  have HDD := hid hD
  have HR := hid h
  generalize findR 2 a rs = q at *
  generalize findDev ds 1 a = fd at *
  generalize putM x k m a v = r at *
  unfold turnVal
  clear h hD hrs hds
  cases fd with
  | none =>
    replace HQ : Hid (r = q.map (fun i => (m.1.set i.toNat v, m.2))) := HQ
    go_enter Tryz.func167, Tryz.ntmps167
    go_wp2_with fail
    refine (HDV.out _ ((Fr.refl _ w).alloc _)).mono ?_
    rintro e w1 ⟨rfl, hf1⟩
    have HF1 := hid (((Fr.refl _ w).alloc _).step hf1 (fun _ h => .inl h))
    have HB := hid (hf1.get (heap_alloc_new w _) id)
    have b0 : w1.cell? ⟨w.heap.size, 0, none⟩ = some (.pointer (some ⟨x.X, 0, none⟩)) := row_cell HB.out 0
    have b1 : w1.cell? ⟨w.heap.size, 1, none⟩ = some (.int .i64 k) := row_cell HB.out 1
    clear hf1
    go_wp2_with fail
    refine (HFD.out _ HF1.out).mono ?_
    rintro e w2 ⟨rfl, hf2⟩
    have HF2 := hid (HF1.out.step hf2 (fun _ h => .inl h))
    have HB2 := hid (hf2.get HB.out id)
    clear hf2 b0 b1
    cases q with
    | none =>
      go_wp2_with fail
      go_ret
      rw [HQ.out]
      exact ⟨rfl, ⟨HR.out.frF HF2.out, vL, HDD.out.frF HF2.out, LogsIn.refl _ _⟩, HF2.out.toS⟩
    | some i =>
      have hb := HFB.out i rfl
      obtain ⟨j, rfl⟩ := Int.eq_ofNat_of_zero_le hb.1
      have hj : j < x.n := by omega
      have hji : (j : Int) < (x.n : Int) := by omega
      have H1 := hid (HR.out.frF HF2.out)
      have b0 : w2.cell? ⟨w.heap.size, 0, none⟩ = some (.pointer (some ⟨x.X, 0, none⟩)) := row_cell HB2.out 0
      have k0 : w2.cell? ⟨x.X, 0, none⟩ = some (.slice (some ⟨x.M, 0, none⟩) x.n x.n) := row_cell H1.out.hx _
      have m0 := H1.out.word j hj
      have f0 : w2.frozen? ⟨x.M, j, none⟩ = false := row_frozen H1.out.hm j
      have HS := hid (H1.out.set1 j v v0 v1)
      have HDN : Hid (DevR x.gD x.dn m.2 vL (w2.setCell ⟨x.M, j, none⟩ (.int .u32 v))) := by
        have hd2 := HDD.out.frF HF2.out
        refine hd2.fr (Fr.one w2 x.M j _) ?_ ?_
        · intro e
          have h1 := hd2.hd
          rw [e, H1.out.hm] at h1
          simp only [Option.some.injEq, Obj.cells.injEq] at h1
          exact absurd h1.2.1 (by decide)
        · intro u hu b hb e
          obtain ⟨cs, hcs⟩ := hd2.own hu hb
          rw [e, H1.out.hm] at hcs
          simp only [Option.some.injEq, Obj.cells.injEq] at hcs
          exact absurd hcs.2.1 (by decide)
      clear hb
      go_wp2_with fail
      go_ret
      rw [HQ.out]
      exact ⟨rfl, ⟨HS.out, vL, HDN.out, LogsIn.refl _ _⟩, (HF2.out.toS (S := KWd x vL)).setCell (p := ⟨x.M, j, none⟩) (.inl (.inl rfl)) _⟩
  | some d =>
    have hd := HBD.out d rfl
    obtain ⟨j, rfl⟩ := Int.eq_ofNat_of_zero_le hd.1
    have hj : j < x.dn := by omega
    have hj1 : j < m.2.length := by rw [HDD.out.n1]; exact hj
    obtain ⟨dv, hdv⟩ : ∃ dv, m.2[j]? = some dv := ⟨_, List.getElem?_eq_getElem hj1⟩
    replace HQ : Hid (r = some (m.1, m.2.set j (dv.1, dv.2 ++ [v]))) := by
      have h1 := HQ.out
      simp only [Int.toNat_natCast, putD, getD_of hdv] at h1
      exact h1
    have HPT := hid (fun (w1 : World) (hf : Fr (fun _ => False) w w1) => dput_any x.gD x.dn m.2 vL w1 (HDD.out.frF hf) j dv hdv hL v v0 v1)
    simp only [Option.map_some, Int.toNat_natCast, Option.isSome_some] at HDV
    clear hd hdv
    go_enter Tryz.func167, Tryz.ntmps167
    go_wp2_with fail
    refine (HDV.out _ ((Fr.refl _ w).alloc _)).mono ?_
    rintro e w1 ⟨rfl, hf1⟩
    have HF1 := hid (((Fr.refl _ w).alloc _).step hf1 (fun _ h => .inl h))
    clear hf1
    go_wp2_with fail
    refine (HPT.out _ HF1.out).mono ?_
    rintro e w2 ⟨rfl, u, hd2, hu, hf2⟩
    have HD2 := hid hd2
    have HF2 := hid hf2
    have HU := hid hu
    clear hd2 hf2 hu
    go_wp2_with fail
    go_ret
    rw [HQ.out]
    have hne : ∀ b, (b = x.gD ∨ ∃ v ∈ vL, v.ownBlock = some b) → ¬ KS x b := by
      intro b hb
      rcases hb with rfl | ⟨u, hu, hub⟩
      · exact HR.out.notKS HDD.out.hd hvl (by decide) (by decide) (by decide) (by decide) (by decide) (by decide)
      · obtain ⟨cs, hcs⟩ := HDD.out.own hu hub
        exact HR.out.notKS hcs hvl (by decide) (by decide) (by decide) (by decide) (by decide) (by decide)
    refine ⟨rfl, ⟨(HR.out.frF HF1.out).fr HF2.out hne, _, HD2.out, ?_⟩, (HF1.out.toS (S := KWd x vL)).step HF2.out (fun b hb => .inl (.inr hb))⟩
    intro v' hv' b hb
    rcases List.mem_or_eq_of_mem_set hv' with h1 | h1
    · exact .inl ⟨v', h1, hb⟩
    · rw [h1] at hb
      rcases HU.out b hb with h2 | h2
      · exact .inl h2
      · exact .inr (Nat.le_trans HF1.out.size h2)

end Go.Proofs.YthmcheoehcmglaaGreat
/- The whole outside of a ward's turn. -/
namespace Go.Proofs.YthmcheoehcmglaaGreat
open Go.RowKit
set_option linter.unusedVariables false

theorem KerR.memB {x : KX} {ck : Int} {mem : List Int} {w : World} (h : KerR x ck mem w) (i : Nat) : 0 ≤ mem.getD i 0 ∧ mem.getD i 0 < 4294967296 := by
  rw [List.getD_eq_getElem?_getD]
  cases hi : mem[i]? with
  | none => simp
  | some v => exact h.mb v (List.mem_of_getElem? hi)

theorem StB.set0 {s : StV} (h : StB s) (v : Int) (v0 : 0 ≤ v) (v1 : v < 4294967296) : StB (set0 s v) := h.set 0 v v0 v1

theorem callM_B (x : KX) (k : Nat) (hk : k ≤ 4) (ck : Int) (mem : List Int) (hm : ∀ i, 0 ≤ mem.getD i 0 ∧ mem.getD i 0 < 4294967296) (s : StV) (h : StB s) (n : Nat) : StB (callM x k ck s mem n).2.1 := by
  match n with
  | 0 => exact ⟨h.l, h.r, h.p0, h.p1, by simp [callM], by simp [callM], h.c0, h.c1, h.b0, h.b1⟩
  | 1 => exact ⟨h.l, h.r, h.p0, h.p1, h.s0, h.s1, h.c0, h.c1, h.b0, h.b1⟩
  | 2 => exact h.set0 _ (by omega) (by omega)
  | 3 =>
    simp only [callM, sendM]
    split
    · exact h
    · split
      · split
        · exact h.set0 _ (by omega) (by omega)
        · exact h.set0 _ (by omega) (by omega)
      · exact h
  | 4 =>
    simp only [callM, receiveM]
    split
    · exact h
    · split
      · split
        · exact h.set0 _ (by omega) (by omega)
        · refine StB.set0 ?_ _ (by omega) (by omega)
          exact h.set 2 _ (hm _).1 (hm _).2
      · exact h
  | 5 =>
    simp only [callM, lookM]
    split
    · exact h
    · split
      · split
        · exact h.set0 _ (by omega) (by omega)
        · exact h.set0 _ (by omega) (by omega)
      · exact h
  | 6 => exact h.set0 _ (by omega) (by omega)
  | n + 7 => exact h
theorem callM_C (x : KX) (k : Nat) (ck : Int) (mem : List Int) (s : StV) (n : Nat) : 0 ≤ (callM x k ck s mem n).1 ∧ (callM x k ck s mem n).1 ≤ 5 := by
  match n with
  | 0 => simp [callM]
  | 1 => simp [callM]
  | 2 => simp [callM]
  | 3 => simp only [callM, sendM]; split <;> (try split) <;> (try split) <;> simp
  | 4 => simp only [callM, receiveM]; split <;> (try split) <;> (try split) <;> simp
  | 5 => simp only [callM, lookM]; split <;> (try split) <;> (try split) <;> simp
  | 6 => simp [callM]
  | n + 7 => simp [callM]

def RK (x : KX) (ck : Int) (vL : List Value) (N : Nat) (m : MemD) (w : World) : Prop := KerR x ck m.1 w ∧ DevR x.gD x.dn m.2 vL w ∧ LogOk m.2 ∧ N ≤ w.heap.size
def QK (x : KX) (ck : Int) (vL : List Value) (N : Nat) (m : MemD) (w : World) : Prop := KerR x ck m.1 w ∧ ∃ vL', DevR x.gD x.dn m.2 vL' w ∧ LogsIn vL vL' N

theorem KerR.ltKS {x : KX} {ck : Int} {mem : List Int} {w : World} (h : KerR x ck mem w) (hvl : x.vD.length = x.dvs.length) {i : Nat} (hi : KS x i) : i < w.heap.size := by
  rcases hi with e | e | e | ⟨v, hv, e⟩ | e | e | ⟨v, hv, e⟩
  · subst e; exact lt_of_get h.hx
  · subst e; exact lt_of_get h.hm
  · subst e; obtain ⟨c, hc⟩ := h.gk; exact lt_of_get hc
  · obtain ⟨k, hk⟩ := List.getElem?_of_mem hv
    have hkl : k < x.regs.length := by rw [h.wn]; exact (List.getElem?_eq_some_iff.1 hk).1
    obtain ⟨v', hv', _, ho⟩ := h.rg k _ (List.getElem?_eq_getElem hkl)
    rw [hk] at hv'
    cases hv'
    exact (ho.lt i e).2
  · exact (h.wi.lt i e).2
  · exact (h.hq.lt i e).2
  · obtain ⟨k, hk⟩ := List.getElem?_of_mem hv
    have hkl : k < x.dvs.length := by rw [← hvl]; exact (List.getElem?_eq_some_iff.1 hk).1
    obtain ⟨v', hv', _, ho⟩ := h.dg k _ (List.getElem?_eq_getElem hkl)
    rw [hk] at hv'
    cases hv'
    exact (ho.lt i e).2

theorem DevR.notT {g dn : Nat} {devs : List DevV} {vL : List Value} {w : World} (h : DevR g dn devs vL w) {i : Nat} {cs : Array Value} {t : TypeId} {f : Nat × Nat} (hi : w.heap[i]? = some (.cells cs t f)) (h1 : t ≠ 109) (h2 : t ≠ 5) : i ≠ g ∧ ∀ v ∈ vL, v.ownBlock ≠ some i := by
  refine ⟨?_, ?_⟩
  · intro e
    rw [e, h.hd] at hi
    simp only [Option.some.injEq, Obj.cells.injEq] at hi
    exact h1 hi.2.1.symm
  · intro v hv e
    obtain ⟨c, hc⟩ := h.own hv e
    rw [hc] at hi
    simp only [Option.some.injEq, Obj.cells.injEq] at hi
    exact h2 hi.2.1.symm

theorem outOk (x : KX) (ck : Int) (hck : ck ≤ 9223372036854775807) (hvl : x.vD.length = x.dvs.length) (vL : List Value) (N : Nat) (k : Nat) (hk : k < x.regs.length) (hk4 : k ≤ 4) :
    OutOk (opsK x k ck) (turnVal x k) (KSd x vL) (KWd x vL) (RK x ck vL N) (QK x ck vL N) where
  toQ m w h := ⟨h.1, vL, h.2.1, LogsIn.refl _ _⟩
  frQ := by
    rintro m w w' T ⟨hR, vL', hD, hl⟩ hf hT
    have hn : ∀ i, T i → ¬ KS x i ∧ i ≠ x.gD ∧ ∀ v ∈ vL', v.ownBlock ≠ some i := by
      intro i hi
      obtain ⟨cs, hcs⟩ := hT i hi
      have := hD.notT hcs (by decide) (by decide)
      exact ⟨hR.notKS hcs hvl (by decide) (by decide) (by decide) (by decide) (by decide) (by decide), this.1, this.2⟩
    exact ⟨hR.fr hf (fun i hi => (hn i hi).1), vL', hD.fr hf (fun hi => (hn _ hi).2.1 rfl) (fun v hv b hb hi => (hn b hi).2.2 v hv hb), hl⟩
  fr := by
    rintro m w w' T ⟨hR, hD, hl, hN⟩ hf hT
    exact ⟨hR.fr hf (fun i hi hs => hT i hi (.inl hs)), hD.fr hf (fun hi => hT _ hi (.inr (.inl rfl))) (fun v hv b hb hi => hT b hi (.inr (.inr ⟨v, hv, hb⟩))), hl, Nat.le_trans hN hf.size⟩
  fetch := by
    rintro m w a ⟨hR, hD, hl, hN⟩ a0 a1
    have h := tfetch_any x ck m.1 w hR k _ (List.getElem?_eq_getElem hk) a a0 a1
    have e : (opsK x k ck).fetch m a = readM x.regs[k] 4 m.1 a := by simp only [opsK]; rw [getD_of (List.getElem?_eq_getElem hk)]
    rw [e]
    exact h
  get := by
    rintro m w a ⟨hR, hD, hl, hN⟩ a0 a1
    exact tget_any x ck m vL w hR hD k hk a a0 a1
  put := by
    rintro m w a v ⟨hR, hD, hl, hN⟩ a0 a1 v0 v1
    refine (tput_any x ck m vL w hR hD hvl hl k hk a v a0 a1 v0 v1).mono ?_
    rintro e w' ⟨rfl, ⟨h1, vL', h2, h3⟩, h4⟩
    refine ⟨rfl, ⟨h1, vL', h2, ?_⟩, h4⟩
    intro u hu b hb
    rcases h3 u hu b hb with h | h
    · exact .inl h
    · exact .inr (Nat.le_trans hN h)
  call := by
    rintro m w B s c a b n o nn ⟨hR, hD, hl, hN⟩ hB hW hS n0 n1
    obtain ⟨j, rfl⟩ := Int.eq_ofNat_of_zero_le n0
    refine (tcall_any x ck hck m.1 w hR k hk4 B (fun h => hB (.inl h)) s c a b n o hW hS j (by omega)).mono ?_
    rintro e w' ⟨rfl, h1, h2, h3⟩
    refine ⟨rfl, h1, ⟨h2, vL, ?_, LogsIn.refl _ _⟩, h3.mono (fun i hi => hi.elim (fun e => .inl (.inl e)) (fun e => .inr e))⟩
    have hM := hD.notT hR.hm (by decide) (by decide)
    refine hD.fr h3 ?_ ?_
    · rintro (e | e)
      · exact hM.1 e.symm
      · exact hB (by rw [← e]; exact .inr (.inl rfl))
    · rintro v hv i hi (e | e)
      · rw [e] at hi; exact hM.2 v hv hi
      · rw [e] at hi; exact hB (.inr (.inr ⟨v, hv, hi⟩))
  lt := by
    rintro m w i ⟨hR, hD, hl, hN⟩ (h | h | ⟨v, hv, h⟩)
    · exact hR.ltKS hvl h
    · rw [h]; exact lt_of_get hD.hd
    · obtain ⟨cs, hcs⟩ := hD.own hv h
      exact lt_of_get hcs
  sub := by
    rintro i (h | h | h)
    · exact .inl (.inr (.inl h))
    · exact .inr (.inl h)
    · exact .inr (.inr h)
  fetchB := by
    rintro m w a v ⟨hR, hD, hl, hN⟩ h
    simp only [opsK, readM, Option.map_eq_some_iff] at h
    obtain ⟨i, _, rfl⟩ := h
    exact hR.memB _
  getB := by
    rintro m w a v ⟨hR, hD, hl, hN⟩ h
    simp only [opsK, getM] at h
    split at h
    · cases h
      rename_i d _
      rw [List.getD_eq_getElem?_getD]
      cases hi : m.2[d.toNat]? with
      | none => simp
      | some u => exact hD.lb u (List.mem_of_getElem? hi)
    · simp only [readM, Option.map_eq_some_iff] at h
      obtain ⟨i, _, rfl⟩ := h
      exact hR.memB _
  callB := by
    rintro m w s n ⟨hR, hD, hl, hN⟩ hs
    exact callM_B x k hk4 ck m.1 hR.memB s hs n.toNat
  callC := by
    rintro m w s n ⟨hR, hD, hl, hN⟩ hs
    exact callM_C x k ck m.1 s n.toNat

end Go.Proofs.YthmcheoehcmglaaGreat
