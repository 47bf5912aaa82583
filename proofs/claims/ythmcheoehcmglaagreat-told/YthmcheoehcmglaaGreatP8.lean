/- The kernel's calls: Call. -/
import Derived.Test.YthmcheoehcmglaaGreatC7
import Derived.Test.YthmcheoehcmglaaGreatT1
import Derived.Test.YthmcheoehcmglaaGreatP7
namespace Go.Proofs.YthmcheoehcmglaaGreat
open Go.RowKit
set_option linter.unusedVariables false
attribute [local go_sem ↓] Go.wp_at_zero Go.wp_at_succ

/-- A call of a function that is a value, in a region that draws its order: by the callee's contract. -/
theorem step_callV {P : Program} {w : World} {ops : Array Oper} {o : Oper} {a : Act} {K : Act → World → Prop} {Q : Exit → Act → World → Prop} {E : Prop} {f : FuncId} {x : Operand} {xl : List Operand} {ats : Array TypeId} {fn : Func}
    (hf : P.funcs[f]? = some fn) (hnm : (fn.name == "runtime.NumGoroutine") = false) (hbd : fn.body.isNone = false) (hgd : o.guard = none) (ho : o.op = .call { callee := .value x, args := xl.toArray, argTypes := ats })
    (hx : a.eval x = .func (Fn.func f) #[] #[]) (args : List Value) (hargs : xl.map a.eval = args) (h : Calls P f args.toArray w fun e w' => ∃ r, e = .returned r ∧ K (a.put o.dst r) w') :
    if Region.wanted o (yielded ops a.tmps) = true then Oper.wp P o a w K Q else E := by
  obtain ⟨dst, op, ty, pos, after, guard⟩ := o
  simp only at hgd ho h
  subst hgd ho
  rw [if_pos (by simp [Region.wanted])]
  unfold Oper.wp
  have hr : (callFunc f args.toArray).run P w = .ok (.enter f args.toArray) w := by
    unfold callFunc program
    simp only [bind, Sem.bind, Sem.run, hf, hnm, hbd]
    rfl
  have he : (execOp a.eval { dst := dst, op := .call { callee := .value x, args := xl.toArray, argTypes := ats }, type := ty, pos := pos, after := after, guard := none }).run P w = .ok (.enter f args.toArray) w := by
    rw [← hr]
    simp only [execOp, resolve, hx, Sem.run_bind]
    simp [Deferred.ofValue, invoke, hargs]
  rw [he, Oper.upon_enter]
  refine h.mono ?_
  rintro e w' ⟨r, rfl, hk⟩
  exact hk

def callM (x : KX) (k : Nat) (ck : Int) (s : StV) (mem : List Int) : Nat → Int × StV × List Int
  | 0 => (0, { s with status := 1 }, mem)
  | 1 => (0, { s with y := true }, mem)
  | 2 => (0, set0 s k, mem)
  | 3 => sendM x k s mem
  | 4 => receiveM x k s mem
  | 5 => lookM x k s mem
  | 6 => (0, set0 s (ck % 4294967296), mem)
  | _ => (4, s, mem)

def callL : List Nat := [168, 169, 170, 171, 172, 173, 174]

theorem callee_any (x : KX) (ck : Int) (hck : ck ≤ 9223372036854775807) (mem : List Int) (w : World) (hR : KerR x ck mem w) (k : Nat) (hk : k ≤ 4) (B : Nat) (hB : ¬ KS x B) (s : StV) (c a b n : Int) (o : Value) (h : WorkAt w B s c a b n o) (hs : StB s) (j f : Nat) (hf : callL[j]? = some f) :
    Calls Tryz.prog f #[.agg #[.pointer (some ⟨x.X, 0, none⟩), .int .i64 k], .pointer (some ⟨B, 0, none⟩)] w fun e w' => CallPost x ck B c a b n o (callM x k ck s mem j) w e w' := by
  have hj : j < 7 := (List.getElem?_eq_some_iff.1 hf).1
  have kp : ∀ w', Fr (fun i => i = B) w w' → KerR x ck mem w' := fun w' h1 => hR.fr h1 (fun i hi => by rw [hi]; exact hB)
  have wd : ∀ w', Fr (fun i => i = B) w w' → Fr (fun i => i = x.M ∨ i = B) w w' := fun w' h1 => h1.mono (fun i hi => .inr hi)
  match j, hj with
  | 0, _ => cases hf; exact (halt_any w _ k B s c a b n o h hs.l).mono fun e w' h1 => ⟨h1.1, h1.2.1, kp w' h1.2.2, wd w' h1.2.2⟩
  | 1, _ => cases hf; exact (yield_any w _ k B s c a b n o h hs.l).mono fun e w' h1 => ⟨h1.1, h1.2.1, kp w' h1.2.2, wd w' h1.2.2⟩
  | 2, _ => cases hf; exact (who_any w _ k hk B s c a b n o h hs.l).mono fun e w' h1 => ⟨h1.1, h1.2.1, kp w' h1.2.2, wd w' h1.2.2⟩
  | 3, _ => cases hf; exact send_any x ck mem w hR k hk B hB s c a b n o h hs
  | 4, _ => cases hf; exact receive_any x ck mem w hR k hk B hB s c a b n o h hs
  | 5, _ => cases hf; exact look_any x ck mem w hR k hk B hB s c a b n o h hs
  | 6, _ => cases hf; exact (time_any x ck mem w hR k B s c a b n o h hs.l hck).mono fun e w' h1 => ⟨h1.1, h1.2.1, kp w' h1.2.2, wd w' h1.2.2⟩

theorem callee_fn (j f : Nat) (hf : callL[j]? = some f) : ∃ fn, Tryz.prog.funcs[f]? = some fn ∧ (fn.name == "runtime.NumGoroutine") = false ∧ fn.body.isNone = false := by
  have hj : j < 7 := (List.getElem?_eq_some_iff.1 hf).1
  match j, hj with
  | 0, _ => cases hf; exact ⟨_, Tryz.func168, by kernel_rfl, by kernel_rfl⟩
  | 1, _ => cases hf; exact ⟨_, Tryz.func169, by kernel_rfl, by kernel_rfl⟩
  | 2, _ => cases hf; exact ⟨_, Tryz.func170, by kernel_rfl, by kernel_rfl⟩
  | 3, _ => cases hf; exact ⟨_, Tryz.func171, by kernel_rfl, by kernel_rfl⟩
  | 4, _ => cases hf; exact ⟨_, Tryz.func172, by kernel_rfl, by kernel_rfl⟩
  | 5, _ => cases hf; exact ⟨_, Tryz.func173, by kernel_rfl, by kernel_rfl⟩
  | 6, _ => cases hf; exact ⟨_, Tryz.func174, by kernel_rfl, by kernel_rfl⟩

def callTab : List Value := callL.map fnV
theorem callTab_one : callTab.toArray.all (·.oneCell') = true := by rw [List.all_toArray]; rfl

set_option maxRecDepth 100000 in
set_option maxHeartbeats 4000000 in
theorem tcall_any (x : KX) (ck : Int) (hck : ck ≤ 9223372036854775807) (mem : List Int) (w : World) (hR : KerR x ck mem w) (k : Nat) (hk : k ≤ 4) (B : Nat) (hB : ¬ KS x B) (s : StV) (c a b n : Int) (o : Value) (h : WorkAt w B s c a b n o) (hs : StB s) (nn : Nat) (hn : nn < 65536) :
    Calls Tryz.prog 164 #[turnVal x k, .pointer (some ⟨B, 0, none⟩), .int .u32 nn] w fun e w' => CallPost x ck B c a b n o (callM x k ck s mem nn) w e w' := by
  have H := hid h
  have HR := hid hR
  have HS := hid hs
  unfold turnVal
  by_cases h7 : nn < 7
  · obtain ⟨f, hf⟩ : ∃ f, callL[nn]? = some f := ⟨_, List.getElem?_eq_getElem h7⟩
    have HCA := hid (fun (w1 : World) (hw : Fr (fun _ => False) w w1) => callee_any x ck hck mem w1 (hR.frF hw) k hk B hB s c a b n o (h.fr hw) hs nn f hf)
    obtain ⟨fn, hfn1, hfn2, hfn3⟩ := callee_fn nn f hf
    have HT : Hid (callTab[nn]? = some (.func (Fn.func f) #[] #[])) := by unfold Hid callTab; rw [List.getElem?_map, hf]; rfl
    have HFN1 := hid hfn1
    have HFN2 := hid hfn2
    have HFN3 := hid hfn3
    have h7i : (nn : Int) < 7 := by omega
    generalize callM x k ck s mem nn = q at *
    clear h hR hs hf hfn1 hfn2 hfn3
    go_enter Tryz.func164, Tryz.ntmps164
    go_wp2_with (first
      | (refine wpList_storeRow ?_ 226 (.tmp 7) (.tmp 8) ?_ (w.heap.size + 1) 226 _ callTab.toArray ?_ ?_ (heap_alloc2_new w _ _) ?_ ?_ callTab_one ?_; rfl; rfl; rfl; rfl; kernel_rfl; rfl; intro w3 g3 hf3; have HF3 := hid ((((Fr.refl (fun _ => False) w).alloc _).alloc _).step hf3 (fun i hi => .inr (by omega))); have hT3 := hf3.get1 (heap_alloc_old w _ _) (by omega); have tb : w3.drew.cell? ⟨w.heap.size + 1, nn, none⟩ = some (.func (Fn.func f) #[] #[]) := (row_cell g3 nn).trans (by rw [List.getElem?_toArray]; exact HT.out); have ta : w3.drew.cell? ⟨w.heap.size, 0, none⟩ = some (.pointer (some ⟨x.X, 0, none⟩)) := row_cell hT3 0; have tc : w3.drew.cell? ⟨w.heap.size, 1, none⟩ = some (.int .i64 k) := row_cell hT3 1; clear g3 hf3 hT3))
    go_region_law
      (first
        | (refine step_callV HFN1.out HFN2.out HFN3.out (by rfl) (by rfl) (by rfl) [.agg #[.pointer (some ⟨x.X, 0, none⟩), .int .i64 k], .pointer (some ⟨B, 0, none⟩)] (by rfl) ((HCA.out _ ?_).mono ?_); exact HF3.out.drew; rintro e w4 ⟨rfl, hp⟩; refine ⟨_, rfl, ?_⟩))
    all_goals
      have HP := hid hp
      have HF4 := hid ((HF3.out.drew.toS (S := fun i => i = x.M ∨ i = B)).step hp.2.2 (fun i hi => .inl hi))
      clear hp ta tb tc
      go_wp2_with fail
      go_ret
      exact ⟨rfl, HP.out.1, HP.out.2.1, HF4.out⟩
  · have HQ : Hid (callM x k ck s mem nn = (4, s, mem)) := by
      unfold Hid
      obtain ⟨d, rfl⟩ : ∃ d, nn = d + 7 := ⟨nn - 7, by omega⟩
      rfl
    have h7i : (7 : Int) ≤ (nn : Int) := by omega
    generalize callM x k ck s mem nn = q at *
    clear h hR hs
    go_enter Tryz.func164, Tryz.ntmps164
    go_wp2_with (first
      | (refine wpList_storeRow ?_ 226 (.tmp 7) (.tmp 8) ?_ (w.heap.size + 1) 226 _ callTab.toArray ?_ ?_ (heap_alloc2_new w _ _) ?_ ?_ callTab_one ?_; rfl; rfl; rfl; rfl; kernel_rfl; rfl; intro w3 g3 hf3; have HF3 := hid ((((Fr.refl (fun _ => False) w).alloc _).alloc _).step hf3 (fun i hi => .inr (by omega))); clear g3 hf3))
    go_ret
    rw [HQ.out]
    exact ⟨rfl, H.out.fr HF3.out, HR.out.frF HF3.out, HF3.out.toS⟩

end Go.Proofs.YthmcheoehcmglaaGreat
/- The devices: findDevice, device, put; Get and Put of a turn. -/
namespace Go.Proofs.YthmcheoehcmglaaGreat
open Go.RowKit
set_option linter.unusedVariables false
attribute [local go_sem ↓] Go.wp_at_zero Go.wp_at_succ

/-- The device that has its input (0) or its output (1) at an address. -/
def findDev (ds : List Int) (part a : Int) : Option Int :=
  if 32768 ≤ a ∧ (a - 32768) % 2 = part ∧ (a - 32768) / 2 < ds.length then some (ds.getD ((a - 32768) / 2).toNat 0) else none

set_option maxRecDepth 100000 in
set_option maxHeartbeats 2000000 in
theorem findDevice_any (w : World) (b off : Nat) (ds : List Int) (v : Value) (hc : w.cell? ⟨b, off + 14, none⟩ = some v) (ho : w.ownsRow 0 3 1 v ds.length (ds.map (Value.int .i64))) (hl : ds.length ≤ 8) (part a : Int) (p0 : 0 ≤ part) (p1 : part ≤ 1) (a0 : 0 ≤ a) (a1 : a < 4294967296) :
    Calls Tryz.prog 184 #[.pointer (some ⟨b, off, none⟩), .int .u32 part, .int .u32 a] w fun e w' => e = .returned (.tuple #[.int .i64 ((findDev ds part a).getD 0), .bool (findDev ds part a).isSome]) ∧ w' = w := by
  by_cases h1 : a < 32768
  · have HN : Hid (findDev ds part a = none) := by unfold Hid findDev; rw [if_neg (by omega)]
    clear hc ho
    go_enter Tryz.func184, Tryz.ntmps184
    go_wp2_with fail
    go_ret2
    rw [HN.out]
    exact ⟨rfl, rfl⟩
  · obtain ⟨d, hd⟩ : ∃ d : Nat, a - 32768 = (d : Int) := ⟨(a - 32768).toNat, by omega⟩
    obtain ⟨k, hk⟩ : ∃ k : Nat, (d : Int) / 2 = (k : Int) := ⟨d / 2, by omega⟩
    obtain ⟨p, hp⟩ : ∃ p : Nat, (d : Int) % 2 = (p : Int) := ⟨d % 2, by omega⟩
    have h1' : 32768 ≤ a := by omega
    clear h1
    have HD : Hid (findDev ds part a = if (p : Int) = part ∧ (k : Int) < ds.length then some (ds.getD k 0) else none) := by
      unfold Hid findDev
      rw [hd, hk, hp, Int.toNat_natCast]
      by_cases h : (p : Int) = part ∧ (k : Int) < ds.length
      · rw [if_pos h, if_pos ⟨by omega, h⟩]
      · rw [if_neg h, if_neg (fun h' => h h'.2)]
    generalize findDev ds part a = q at *
    by_cases h2 : (p : Int) = part
    · obtain ⟨av, cv, rfl⟩ := owns_shape ho
      by_cases h3 : (k : Int) < (ds.length : Int)
      · rw [if_pos ⟨h2, h3⟩] at HD
        obtain ⟨g, cp, hv, -, hgl⟩ := ho.form (by omega)
        simp only [Value.slice.injEq] at hv
        obtain ⟨rfl, -, rfl⟩ := hv
        have hk3 : k < ds.length := by omega
        have cd : w.cell? ⟨g, k, none⟩ = some (.int .i64 (ds.getD k 0)) := ints_at ho k hk3
        clear ho hgl
        generalize ds.getD k 0 = r at *
        go_enter Tryz.func184, Tryz.ntmps184
        go_wp2_with fail
        go_ret2
        rw [HD.out]
        exact ⟨rfl, rfl⟩
      · rw [if_neg (fun h => h3 h.2)] at HD
        clear ho
        go_enter Tryz.func184, Tryz.ntmps184
        go_wp2_with fail
        go_ret2
        rw [HD.out]
        exact ⟨rfl, rfl⟩
    · rw [if_neg (fun h => h2 h.1)] at HD
      clear hc ho
      go_enter Tryz.func184, Tryz.ntmps184
      go_wp2_with fail
      go_ret2
      rw [HD.out]
      exact ⟨rfl, rfl⟩

set_option maxRecDepth 100000 in
set_option maxHeartbeats 2000000 in
theorem tdevice_any (x : KX) (ck : Int) (mem : List Int) (w : World) (h : KerR x ck mem w) (k : Nat) (ds : List Int) (hk : x.dvs[k]? = some ds) (part a : Int) (p0 : 0 ≤ part) (p1 : part ≤ 1) (a0 : 0 ≤ a) (a1 : a < 4294967296) :
    Calls Tryz.prog 176 #[.agg #[.pointer (some ⟨x.X, 0, none⟩), .int .i64 k], .int .u32 part, .int .u32 a] w fun e w' => e = .returned (.tuple #[.pointer ((findDev ds part a).map (fun d => ⟨x.gD, d.toNat * 2, none⟩)), .bool (findDev ds part a).isSome]) ∧ Fr (fun _ => False) w w' := by
  have hkl : k < x.regs.length := by rw [← h.dl]; exact (List.getElem?_eq_some_iff.1 hk).1
  have hki : (k : Int) < (x.regs.length : Int) := by omega
  have hwl := h.wl
  have hdb := h.db ds (List.mem_of_getElem? hk)
  have HBD : Hid (∀ d, findDev ds part a = some d → 0 ≤ d ∧ d < x.dn) := by
    intro d hd
    unfold findDev at hd
    split at hd
    · rename_i hh
      cases hd
      have hi : ((a - 32768) / 2).toNat < ds.length := by omega
      rw [List.getD_eq_getElem?_getD, List.getElem?_eq_getElem hi]
      exact hdb.2 _ (List.getElem_mem hi)
    · cases hd
  have hd8 := h.dn8
  have HFD := hid (fun (w1 : World) (b off : Nat) (v : Value) (hc : w1.cell? ⟨b, off + 14, none⟩ = some v) (ho : w1.ownsRow 0 3 1 v ds.length (ds.map (Value.int .i64))) => findDevice_any w1 b off ds v hc ho hdb.1 part a p0 p1 a0 a1)
  generalize findDev ds part a = q at *
  go_enter Tryz.func176, Tryz.ntmps176
  go_wp2_with fail
  have HF0 : Hid (Fr (fun _ => False) w (w.alloc (.cells #[.pointer (some ⟨x.X, 0, none⟩), .int .i64 k] 139))) := (Fr.refl _ w).alloc _
  have hb := heap_alloc_new w (.cells #[.pointer (some ⟨x.X, 0, none⟩), .int .i64 k] 139)
  generalize w.alloc (.cells #[.pointer (some ⟨x.X, 0, none⟩), .int .i64 k] 139) = wa at *
  have hA := h.frF HF0.out
  obtain ⟨v, hv, hc, ho⟩ := hA.dg k ds hk
  have HFW := hid (fun (w1 : World) (hf : Fr (fun _ => False) wa w1) => HFD.out w1 x.gK (k * 15) v (by rw [← hc]; exact World.cell?_of_block (hf.block x.gK (hA.gk.elim fun cur hc => lt_of_get hc) id)) (hf.owns ho (fun _ _ h => h)))
  have c0 : wa.drew.cell? ⟨w.heap.size, 0, none⟩ = some (.pointer (some ⟨x.X, 0, none⟩)) := row_cell hb 0
  have c1 : wa.drew.cell? ⟨w.heap.size, 1, none⟩ = some (.int .i64 k) := row_cell hb 1
  have cw : wa.drew.cell? ⟨x.X, 4, none⟩ = some (.slice (some ⟨x.gK, 0, none⟩) x.regs.length x.cK) := row_cell hA.hx _
  have HA := hid hA
  have HB := hid hb
  clear h hA hv hc ho hb hk hdb
  go_region_law
    (first
      | (refine step_call Tryz.func184 (by kernel_rfl) (by kernel_rfl) (by rfl) (by rfl) [.pointer (some ⟨x.gK, k * 15, none⟩), .int .u32 part, .int .u32 a] (by rfl) ((HFW.out _ ?_).mono ?_); exact (Fr.refl _ wa).drew; rintro e w2 ⟨rfl, rfl⟩; refine ⟨_, rfl, ?_⟩))
  all_goals
    clear c0 c1 cw
    cases q with
    | none =>
      go_wp2_with fail
      go_ret2
      exact ⟨rfl, HF0.out.drew⟩
    | some d =>
      have hd := HBD.out d rfl
      obtain ⟨j, rfl⟩ := Int.eq_ofNat_of_zero_le hd.1
      have hji : (j : Int) < (x.dn : Int) := hd.2
      have hj : j < x.dn := by omega
      have b0 : wa.drew.cell? ⟨w.heap.size, 0, none⟩ = some (.pointer (some ⟨x.X, 0, none⟩)) := row_cell HB.out 0
      have k0 : wa.drew.cell? ⟨x.X, 6, none⟩ = some (.slice (some ⟨x.gD, 0, none⟩) x.dn x.dn) := row_cell HA.out.hx _
      clear hd
      go_wp2_with fail
      go_ret2
      exact ⟨rfl, HF0.out.drew⟩

end Go.Proofs.YthmcheoehcmglaaGreat
/- The devices: put; what a machine's devices are; Get and Put of a turn. -/
namespace Go.Proofs.YthmcheoehcmglaaGreat
open Go.RowKit
set_option linter.unusedVariables false
attribute [local go_sem ↓] Go.wp_at_zero Go.wp_at_succ

/-- A word's bytes, the high one first. -/
def wordB (v : Int) : List Int := [v / 16777216, v / 65536 % 256, v / 256 % 256, v % 256]
def logB (l : List Int) : List Int := l.flatMap wordB
theorem logB_snoc (l : List Int) (v : Int) : logB (l ++ [v]) = logB l ++ wordB v := by simp [logB]
theorem logB_len (l : List Int) : (logB l).length = 4 * l.length := by
  induction l with
  | nil => rfl
  | cons v l ih => simp only [logB, List.flatMap_cons, List.length_append, List.length_cons] at ih ⊢; rw [ih]; simp [wordB]; omega

abbrev DevV := Int × List Int
def devCells (devs : List DevV) (vL : List Value) : List Value := (devs.zip vL).flatMap (fun p => [.int .u32 p.1.1, p.2])
def logCells (l : List Int) : List Value := (logB l).map (Value.int .u8)

/-- The devices of a machine lie in block g. -/
structure DevR (g dn : Nat) (devs : List DevV) (vL : List Value) (w : World) : Prop where
  hd : w.heap[g]? = some (.cells (devCells devs vL).toArray 109 (0, 0))
  n1 : devs.length = dn
  n2 : vL.length = dn
  lb : ∀ d ∈ devs, 0 ≤ d.1 ∧ d.1 < 4294967296
  lg : ∀ (i : Nat) (d : DevV) (v : Value), devs[i]? = some d → vL[i]? = some v → w.ownsRow 0 5 1 v (logB d.2).length (logCells d.2)
  ds : ∀ (i j : Nat) (v v' : Value) (b : Nat), i ≠ j → vL[i]? = some v → vL[j]? = some v' → v.ownBlock = some b → v'.ownBlock ≠ some b

theorem dev_get (devs : List DevV) (vL : List Value) (i : Nat) (d : DevV) (v : Value) (h1 : devs[i]? = some d) (h2 : vL[i]? = some v) : (devCells devs vL)[i * 2]? = some (.int .u32 d.1) ∧ (devCells devs vL)[i * 2 + 1]? = some v := by
  have hz : (devs.zip vL)[i]? = some (d, v) := by rw [List.getElem?_zip_eq_some]; exact ⟨h1, h2⟩
  obtain ⟨hi, he⟩ := List.getElem?_eq_some_iff.1 hz
  have e0 := flat_get (fun p : DevV × Value => [.int .u32 p.1.1, p.2]) 2 (fun _ => rfl) (devs.zip vL) i 0 hi (by omega)
  have e1 := flat_get (fun p : DevV × Value => [.int .u32 p.1.1, p.2]) 2 (fun _ => rfl) (devs.zip vL) i 1 hi (by omega)
  rw [he] at e0 e1
  exact ⟨e0, e1⟩
theorem devCells_len (devs : List DevV) (vL : List Value) : (devCells devs vL).length = 2 * (devs.zip vL).length := by
  unfold devCells
  induction devs.zip vL with
  | nil => rfl
  | cons p l ih => simp only [List.flatMap_cons, List.length_append, ih, List.length_cons, List.length_nil]; omega
theorem devCells_set1 (i : Nat) : ∀ (devs : List DevV) (vL : List Value) (d : DevV) (l : List Int) (v : Value), devs[i]? = some d → i < vL.length → devCells (devs.set i (d.1, l)) (vL.set i v) = (devCells devs vL).set (i * 2 + 1) v := by
  induction i with
  | zero =>
    intro devs vL d l v hd hv
    match devs, vL, hv with
    | d' :: devs, u :: vL, _ =>
      cases hd
      simp [devCells]
  | succ i ih =>
    intro devs vL d l v hd hv
    match devs, vL, hv with
    | d' :: devs, u :: vL, hv =>
      have := ih devs vL d l v (by simpa using hd) (by simpa using hv)
      unfold devCells at this ⊢
      simp only [List.set_cons_succ, List.zip_cons_cons, List.flatMap_cons]
      rw [this, show (i + 1) * 2 + 1 = (i * 2 + 1) + 1 + 1 by omega]
      rfl
theorem devCells_set0 (i : Nat) : ∀ (devs : List DevV) (vL : List Value) (d : DevV) (v : Int), devs[i]? = some d → i < vL.length → devCells (devs.set i (v, d.2)) vL = (devCells devs vL).set (i * 2) (.int .u32 v) := by
  induction i with
  | zero =>
    intro devs vL d v hd hv
    match devs, vL, hv with
    | d' :: devs, u :: vL, _ =>
      cases hd
      simp [devCells]
  | succ i ih =>
    intro devs vL d v hd hv
    match devs, vL, hv with
    | d' :: devs, u :: vL, hv =>
      have := ih devs vL d v (by simpa using hd) (by simpa using hv)
      unfold devCells at this ⊢
      simp only [List.set_cons_succ, List.zip_cons_cons, List.flatMap_cons]
      rw [this, show (i + 1) * 2 = (i * 2) + 1 + 1 by omega]
      rfl

theorem DevR.fr {g dn : Nat} {devs : List DevV} {vL : List Value} {w w' : World} {T : Nat → Prop} (h : DevR g dn devs vL w) (hf : Fr T w w') (hg : ¬ T g) (hl : ∀ v ∈ vL, ∀ b, v.ownBlock = some b → ¬ T b) : DevR g dn devs vL w' :=
  ⟨hf.get h.hd hg, h.n1, h.n2, h.lb, fun i d v h1 h2 => hf.owns (h.lg i d v h1 h2) (fun b hb => hl v (List.mem_of_getElem? h2) b hb), h.ds⟩
theorem DevR.frF {g dn : Nat} {devs : List DevV} {vL : List Value} {w w' : World} (h : DevR g dn devs vL w) (hf : Fr (fun _ => False) w w') : DevR g dn devs vL w' := h.fr hf id (fun _ _ _ _ => id)
theorem DevR.own {g dn : Nat} {devs : List DevV} {vL : List Value} {w : World} (h : DevR g dn devs vL w) {v : Value} (hv : v ∈ vL) {b : Nat} (hb : v.ownBlock = some b) : ∃ cs, w.heap[b]? = some (.cells cs 5 (0, 0)) := by
  obtain ⟨i, hi⟩ := List.getElem?_of_mem hv
  have hil : i < devs.length := by rw [h.n1, ← h.n2]; exact (List.getElem?_eq_some_iff.1 hi).1
  have ho := h.lg i _ v (List.getElem?_eq_getElem hil) hi
  rcases ho.2 with ⟨rfl, _⟩ | ⟨g, cap, cur, rfl, _, hg, _⟩
  · cases hb
  · cases hb
    exact ⟨cur, hg⟩

theorem slU8 : SlT Tryz.prog 107 5 1 1 := SlT.mk' (z := .int .u8 0) Tryz.underlying107 (by kernel_rfl) rfl (by omega)

/-- Four bytes are appended, at a plain region's list. -/
theorem wpList_app4 {P : Program} {w : World} {ops : Array Oper} {rest : List Oper} {o : Oper} {a : Act} {Q : Exit → Act → World → Prop} {t e : TypeId} (T : SlT P t e 1 1)
    (hgd : o.guard = none) (s x : Operand) (ho : o.op = .call { callee := .builtin .append, args := #[s, x], argTypes := #[t, t] })
    (base : Nat) (v : Value) (n : Nat) (xs : List Value) (hs : a.eval s = v) (hown : w.ownsRow base e 1 v n xs)
    (B : Nat) (cs : Array Value) (e' : TypeId) (hx : a.eval x = .slice (some ⟨B, 0, none⟩) 4 4) (hB : w.heap[B]? = some (.cells cs e' (0, 0))) (hl : cs.size = 4) (h1 : ∀ u ∈ cs.toList, u.oneCell' = true)
    (hn : n + 4 ≤ 140737488355328) (hbase : base ≤ w.heap.size)
    (h : ∀ g cap w', w'.ownsRow base e 1 (.slice (some ⟨g, 0, none⟩) (n + 4) cap) (n + 4) (xs ++ cs.toList) → Fr (fun i => v.ownBlock = some i) w w' → (v.ownBlock = some g ∨ g = w.heap.size) → wpList P ops Q rest (a.put o.dst (.slice (some ⟨g, 0, none⟩) (n + 4) cap)) w') :
    wpList P ops Q (o :: rest) a w := by
  obtain ⟨i, z, hi, hz, hsz, hb, hzs⟩ := T.info
  exact wpList_append_lies w hgd s x t ho base e i z 1 1 T.ht hi hz hsz hb hzs T.pos v n xs hs hown ⟨B, 0, none⟩ 4 4 cs.toList hx (by simp [hl]) (World.news_of_block hB) h1
    (by omega) (by unfold maxLen; omega) (by omega) hbase w.heap.size rfl
    (fun g cap w' h2 h3 h4 h5 => h g cap w' h2 ⟨h3.os, h3.tape, h3.output, h3.size, fun k hk hn => h3.block k hk (fun e => hn e.symm)⟩ h4)

/-- A device's log has grown. -/
theorem DevR.put {g dn : Nat} {devs : List DevV} {vL : List Value} {wa w3 : World} (h : DevR g dn devs vL wa) (i : Nat) (d : DevV) (vo : Value) (hi : devs[i]? = some d) (hvo : vL[i]? = some vo) (v : Int) (gg cap : Nat)
    (hown : w3.ownsRow 0 5 1 (.slice (some ⟨gg, 0, none⟩) ((logB d.2).length + 4) cap) ((logB d.2).length + 4) (logCells d.2 ++ (wordB v).map (Value.int .u8))) (hf : Fr (fun b => vo.ownBlock = some b) wa w3) (hg : vo.ownBlock = some gg ∨ gg = wa.heap.size) :
    DevR g dn (devs.set i (d.1, d.2 ++ [v])) (vL.set i (.slice (some ⟨gg, 0, none⟩) ((logB d.2).length + 4) cap)) (w3.setCell ⟨g, i * 2 + 1, none⟩ (.slice (some ⟨gg, 0, none⟩) ((logB d.2).length + 4) cap)) := by
  have ho := h.lg i d vo hi hvo
  have hil : i < devs.length := (List.getElem?_eq_some_iff.1 hi).1
  have hvl : i < vL.length := (List.getElem?_eq_some_iff.1 hvo).1
  have hd3 := hf.getT ho h.hd (by decide)
  have fresh : ∀ j v', j ≠ i → vL[j]? = some v' → v'.ownBlock ≠ some gg := by
    intro j v' hj hv' e
    rcases hg with h1 | h1
    · exact h.ds i j vo v' gg (fun e => hj e.symm) hvo hv' h1 e
    · have hjl : j < devs.length := by rw [h.n1, ← h.n2]; exact (List.getElem?_eq_some_iff.1 hv').1
      have := ((h.lg j _ v' (List.getElem?_eq_getElem hjl) hv').lt gg e).2
      omega
  refine ⟨?_, by simp [h.n1], by simp [h.n2], ?_, ?_, ?_⟩
  · rw [row_set hd3, List.setIfInBounds_toArray, devCells_set1 i devs vL d (d.2 ++ [v]) _ hi hvl]
  · intro d' hd'
    rcases List.mem_or_eq_of_mem_set hd' with h1 | h1
    · exact h.lb d' h1
    · rw [h1]; exact h.lb d (List.mem_of_getElem? hi)
  · intro j d' v' hj hv'
    by_cases hij : i = j
    · subst hij
      rw [List.getElem?_set_self hil] at hj
      rw [List.getElem?_set_self hvl] at hv'
      cases hj
      cases hv'
      have e : logB (d.2 ++ [v]) = logB d.2 ++ wordB v := logB_snoc _ _
      unfold logCells at hown ⊢
      rw [e, List.length_append, List.map_append, show (wordB v).length = 4 from rfl]
      exact owns_setT hown hd3 (by decide) _
    · rw [List.getElem?_set_ne hij] at hj hv'
      exact owns_setT (hf.owns (h.lg j d' v' hj hv') (fun b hb hb' => h.ds i j vo v' b hij hvo hv' hb' hb)) hd3 (by decide) _
  · intro a b u u' c hab hu hu' hc hc'
    by_cases h1 : i = a
    · subst h1
      rw [List.getElem?_set_self hvl] at hu
      rw [List.getElem?_set_ne hab] at hu'
      cases hu
      cases hc
      exact fresh b u' (fun e => hab e.symm) hu' hc'
    · rw [List.getElem?_set_ne h1] at hu
      by_cases h2 : i = b
      · subst h2
        rw [List.getElem?_set_self hvl] at hu'
        cases hu'
        cases hc'
        exact fresh a u hab hu hc
      · rw [List.getElem?_set_ne h2] at hu'
        exact h.ds a b u u' c hab hu hu' hc hc'

def LogOk (devs : List DevV) : Prop := ∀ d ∈ devs, 4 * d.2.length + 4 ≤ 140737488355328

set_option maxRecDepth 100000 in
set_option maxHeartbeats 2000000 in
theorem dput_any (g dn : Nat) (devs : List DevV) (vL : List Value) (w : World) (h : DevR g dn devs vL w) (i : Nat) (d : DevV) (hi : devs[i]? = some d) (hL : LogOk devs) (v : Int) (v0 : 0 ≤ v) (v1 : v < 4294967296) :
    Calls Tryz.prog 177 #[.pointer (some ⟨g, i * 2, none⟩), .int .u32 v] w fun e w' => e = .returned (.tuple #[]) ∧ ∃ u : Value, DevR g dn (devs.set i (d.1, d.2 ++ [v])) (vL.set i u) w' ∧ (∀ b, u.ownBlock = some b → (∃ v ∈ vL, v.ownBlock = some b) ∨ w.heap.size ≤ b) ∧ Fr (fun b => b = g ∨ ∃ v ∈ vL, v.ownBlock = some b) w w' := by
  have hil : i < vL.length := by rw [h.n2, ← h.n1]; exact (List.getElem?_eq_some_iff.1 hi).1
  obtain ⟨vo, hvo⟩ : ∃ vo, vL[i]? = some vo := ⟨_, List.getElem?_eq_getElem hil⟩
  have ho := h.lg i d vo hi hvo
  have hc := (dev_get devs vL i d vo hi hvo).2
  have c1 : w.cell? ⟨g, i * 2 + 1, none⟩ = some vo := (row_cell h.hd _).trans (by rw [List.getElem?_toArray]; exact hc)
  have hlen : (logB d.2).length + 4 ≤ 140737488355328 := by rw [logB_len]; exact hL d (List.mem_of_getElem? hi)
  have HH := hid h
  have HI := hid hi
  have HVO := hid hvo
  have HO := hid ho
  have hq1 : v / 16777216 % 256 = v / 16777216 := by omega
  clear h hi hvo ho hc
  go_enter Tryz.func177, Tryz.ntmps177
  go_wp2_with (refine wpList_app4 slU8 (by rfl) _ _ (by rfl) 0 vo _ _ (by rfl) (HO.out.alloc _) w.heap.size #[.int .u8 (v / 16777216), .int .u8 (v / 65536 % 256), .int .u8 (v / 256 % 256), .int .u8 (v % 256)] _ (by rfl) (heap_alloc_new w _) rfl (by simp [Value.oneCell']) hlen (Nat.zero_le _) ?_; intro gg cap w3 hown3 hf3 hat; have gd3 := hf3.getT (HO.out.alloc _) (get_alloc HH.out.hd _) (by decide); have ck3 : w3.cell? ⟨g, i * 2 + 1, none⟩ = w.cell? ⟨g, i * 2 + 1, none⟩ := (row_cell gd3 _).trans (row_cell HH.out.hd _).symm; rw [c1] at ck3; have fk3 := row_frozen gd3 (i * 2 + 1); have HN := hid (DevR.put (HH.out.frF ((Fr.refl _ w).alloc _)) i d vo HI.out HVO.out v gg cap hown3 hf3 hat); have HF3 := hid hf3; have HAT := hid hat; clear hown3 hf3 hat gd3)
  go_end0
  refine ⟨rfl, _, HN.out, ?_, ?_⟩
  · intro b hb
    cases hb
    rcases HAT.out with h1 | h1
    · exact .inl ⟨vo, List.mem_of_getElem? HVO.out, h1⟩
    · exact .inr (by rw [h1]; simp)
  · refine Fr.setCell ?_ (.inl (.inl rfl)) _
    exact ((Fr.refl _ w).alloc _).step HF3.out (fun b hb => .inl (.inr ⟨vo, List.mem_of_getElem? HVO.out, hb⟩))

end Go.Proofs.YthmcheoehcmglaaGreat
/- The processor: step and Cycle. -/
namespace Go.Proofs.YthmcheoehcmglaaGreat
open Go.RowKit
set_option linter.unusedVariables false
attribute [local go_sem ↓] Go.wp_at_zero Go.wp_at_succ

def stepM {σ : Type} (O : Ops σ) (s : StV) (m : σ) : StV × σ :=
  let r := instrM O s m
  if r.1 = 0 then (r.2.1, r.2.2) else ({ s with status := 2, cause := r.1 }, r.2.2)
/-- A cycle of a ward's turn. -/
def cycleM {σ : Type} (O : Ops σ) (s : StV) (m : σ) : StV × σ :=
  if goes s = false then (s, m) else if 0 < s.busy then ({ s with busy := s.busy - 1 }, m) else stepM O s m

/-- A state lies within a block. -/
structure StAt (w : World) (b off : Nat) (T : TypeId) (L : List Value) (s : StV) : Prop where
  h : w.heap[b]? = some (.cells L.toArray T (0, 0))
  l : off + 13 ≤ L.length
  c : stCells s = (L.drop off).take 13

theorem st_lit (s : StV) (h : s.regs.length = 8) : ∃ r0 r1 r2 r3 r4 r5 r6 r7, s.regs = [r0, r1, r2, r3, r4, r5, r6, r7] ∧ stCells s = [.int .u32 r0, .int .u32 r1, .int .u32 r2, .int .u32 r3, .int .u32 r4, .int .u32 r5, .int .u32 r6, .int .u32 r7, .int .u32 s.place, .int .i64 s.status, .int .i64 s.cause, .int .i64 s.busy, .bool s.y] := by
  obtain ⟨r0, r1, r2, r3, r4, r5, r6, r7, hr⟩ := st13 _ h
  exact ⟨r0, r1, r2, r3, r4, r5, r6, r7, hr, by unfold stCells; rw [hr]; rfl⟩

theorem StAt.cell {w : World} {b off : Nat} {T : TypeId} {L : List Value} {s : StV} (h : StAt w b off T L s) (j : Nat) (hj : j < 13) : w.cell? ⟨b, off + j, none⟩ = (stCells s)[j]? := by
  rw [row_cell h.h, List.getElem?_toArray, h.c, List.getElem?_take, if_pos hj, List.getElem?_drop]
theorem StAt.at {w : World} {b off : Nat} {T : TypeId} {L : List Value} {s : StV} (h : StAt w b off T L s) (h8 : s.regs.length = 8) (j : Nat) (hj : j < 5) : w.cell? ⟨b, off + (8 + j), none⟩ = ([.int .u32 s.place, .int .i64 s.status, .int .i64 s.cause, .int .i64 s.busy, .bool s.y] : List Value)[j]? := by
  obtain ⟨r0, r1, r2, r3, r4, r5, r6, r7, hr, hc⟩ := st_lit s h8
  rw [h.cell (8 + j) (by omega), hc, Nat.add_comm]
  rfl
theorem StAt.fr {w w' : World} {b off : Nat} {T : TypeId} {L : List Value} {s : StV} {X : Nat → Prop} (h : StAt w b off T L s) (hf : Fr X w w') (hn : ¬ X b) : StAt w' b off T L s := ⟨hf.get h.h hn, h.l, h.c⟩

/-- One of the state's cells is set. -/
theorem StAt.set {w : World} {b off : Nat} {T : TypeId} {L : List Value} {s s' : StV} (h : StAt w b off T L s) (j : Nat) (hj : j < 13) (v : Value) (hs : stCells s' = (stCells s).set j v) : StAt (w.setCell ⟨b, off + j, none⟩ v) b off T (splice L off (stCells s')) s' := by
  have h13 : (stCells s).length = 13 := by rw [h.c]; simp; have := h.l; omega
  have h13' : (stCells s').length = 13 := by rw [hs]; simp [h13]
  have hl := h.l
  have e : L.set (off + j) v = splice L off (stCells s') := by
    apply List.ext_getElem?
    intro i
    rw [splice_get L off (stCells s') (by omega), hs, List.getElem?_set, List.getElem?_set, List.length_set, h13]
    by_cases h1 : off ≤ i ∧ i < off + 13
    · rw [if_pos h1]
      by_cases h2 : off + j = i
      · subst h2
        rw [if_pos rfl, if_pos (by omega), if_pos (by omega), if_pos (by omega)]
      · rw [if_neg h2, if_neg (by omega), h.c, List.getElem?_take, if_pos (by omega), List.getElem?_drop, show off + (i - off) = i by omega]
    · rw [if_neg h1, if_neg (by omega)]
  refine ⟨by rw [row_set h.h, List.setIfInBounds_toArray, e], by rw [length_splice _ _ _ (by omega)]; omega, ?_⟩
  apply List.ext_getElem?
  intro i
  rw [List.getElem?_take]
  by_cases h1 : i < 13
  · rw [if_pos h1, List.getElem?_drop, splice_get L off (stCells s') (by omega), if_pos (by omega), Nat.add_sub_cancel_left]
  · rw [if_neg h1, List.getElem?_eq_none (by omega)]

theorem splice_splice {α : Type} (L : List α) (off : Nat) (a b : List α) (h : a.length = b.length) (hl : off + a.length ≤ L.length) : splice (splice L off a) off b = splice L off b := by
  apply List.ext_getElem?
  intro i
  rw [splice_get _ _ _ (by rw [length_splice _ _ _ hl]; omega), splice_get _ _ _ hl, splice_get _ _ _ (by omega)]
  by_cases h1 : off ≤ i ∧ i < off + b.length
  · rw [if_pos h1, if_pos h1]
  · rw [if_neg h1, if_neg h1, if_neg (by omega)]

/-- What a cycle leaves. -/
def CycPost {σ : Type} (R : σ → World → Prop) (W : Nat → Prop) (b off : Nat) (T : TypeId) (L : List Value) (r : StV × σ) (w : World) (e : Ending) (w' : World) : Prop :=
  e = .returned (.tuple #[]) ∧ ∃ w1, R r.2 w1 ∧ Fr W w w1 ∧ Fr (fun i => i = b) w1 w' ∧ StAt w' b off T (splice L off (stCells r.1)) r.1

theorem splice_self {s : StV} {L : List Value} {off : Nat} (hl : off + 13 ≤ L.length) (h : stCells s = (L.drop off).take 13) : splice L off (stCells s) = L := by
  unfold splice
  rw [h]
  have : ((L.drop off).take 13).length = 13 := by simp; omega
  rw [this, ← List.drop_drop, List.take_append_drop, List.take_append_drop]

theorem work_one (r0 r1 r2 r3 r4 r5 r6 r7 p : Int) (a b c : Int) (y : Bool) (o : Value) (ho : o.oneCell' = true) : (#[.int .u32 r0, .int .u32 r1, .int .u32 r2, .int .u32 r3, .int .u32 r4, .int .u32 r5, .int .u32 r6, .int .u32 r7, .int .u32 p, .int .i64 a, .int .i64 b, .int .i64 c, .bool y, .int .i64 0, .int .i64 0, .int .i64 0, .int .u32 0, o] : Array Value).all (·.oneCell') = true := by
  show ([.int .u32 r0, .int .u32 r1, .int .u32 r2, .int .u32 r3, .int .u32 r4, .int .u32 r5, .int .u32 r6, .int .u32 r7, .int .u32 p, .int .i64 a, .int .i64 b, .int .i64 c, .bool y, .int .i64 0, .int .i64 0, .int .i64 0, .int .u32 0, o] : List Value).toArray.all (·.oneCell') = true
  rw [List.all_toArray]
  simp only [List.all_cons, List.all_nil, ho]
  rfl

theorem instrM_B {σ : Type} {O : Ops σ} {rv : Value} {S W : Nat → Prop} {R Q : σ → World → Prop} (ok : OutOk O rv S W R Q) (m : σ) (w : World) (hR : R m w) (s : StV) (h : StB s) : StB (instrM O s m).2.1 := by
  have hp : StB { s with place := (s.place + 1) % 4294967296 } := h.place _ (by omega) (by omega)
  unfold instrM
  split
  · exact h
  · split
    · exact h
    · rename_i v hv _ f cyc hc
      have hcy := code_cyc _ _ _ hc
      split
      · exact h
      · have hw := workM_B ok m w hR ((v / 16777216).toNat - 1) (v / 1048576 % 8).toNat (v / 65536 % 8).toNat (v % 65536) (by omega) (by omega) _ hp
        dsimp only
        split
        · dsimp only
          split
          · exact ⟨hw.l, hw.r, hw.p0, hw.p1, hw.s0, hw.s1, hw.c0, hw.c1, by simp only; omega, by simp only; omega⟩
          · exact hw
        · exact hw

theorem st_one13 (r0 r1 r2 r3 r4 r5 r6 r7 p : Int) (a b c : Int) (y : Bool) : ([.int .u32 r0, .int .u32 r1, .int .u32 r2, .int .u32 r3, .int .u32 r4, .int .u32 r5, .int .u32 r6, .int .u32 r7, .int .u32 p, .int .i64 a, .int .i64 b, .int .i64 c, .bool y] : List Value).toArray.all (·.oneCell') = true := by
  rw [List.all_toArray]
  rfl

theorem StAt.put {w' : World} {b off : Nat} {T : TypeId} {L : List Value} {s' : StV} (hl : off + 13 ≤ L.length) (h8 : s'.regs.length = 8) (g : w'.heap[b]? = some (.cells (splice L off (stCells s')).toArray T (0, 0))) : StAt w' b off T (splice L off (stCells s')) s' := by
  have h13 : (stCells s').length = 13 := by simp [stCells, h8]
  refine ⟨g, by rw [length_splice _ _ _ (by omega)]; omega, ?_⟩
  apply List.ext_getElem?
  intro i
  rw [List.getElem?_take]
  by_cases h1 : i < 13
  · rw [if_pos h1, List.getElem?_drop, splice_get L off (stCells s') (by omega), if_pos (by omega), Nat.add_sub_cancel_left]
  · rw [if_neg h1, List.getElem?_eq_none (by omega)]

set_option maxRecDepth 100000 in
set_option maxHeartbeats 4000000 in
theorem step_any {σ : Type} {O : Ops σ} {rv : Value} {S W : Nat → Prop} {R Q : σ → World → Prop} (ok : OutOk O rv S W R Q) (w : World) (m : σ) (hR : R m w) (b off : Nat) (T : TypeId) (L : List Value) (s : StV) (h : StAt w b off T L s) (hb : ¬ W b) (hs : StB s) :
    Calls Tryz.prog 90 #[.pointer (some ⟨b, off, none⟩), .iface 139 rv] w fun e w' => CycPost Q W b off T L (stepM O s m) w e w' := by
  have H := hid h
  have HOK := hid ok
  have HR := hid hR
  have HS := hid hs
  obtain ⟨r0, r1, r2, r3, r4, r5, r6, r7, hr, hc⟩ := st_lit s hs.l
  have HC := hid hc
  have HRG := hid hr
  have HL : Hid ([.int .u32 r0, .int .u32 r1, .int .u32 r2, .int .u32 r3, .int .u32 r4, .int .u32 r5, .int .u32 r6, .int .u32 r7, .int .u32 s.place, .int .i64 s.status, .int .i64 s.cause, .int .i64 s.busy, .bool s.y] = (L.drop off).take 13) := by unfold Hid; rw [← hc]; exact h.c
  have HW0 : Hid (workCells s 0 0 0 0 (.iface 139 rv) = [.int .u32 r0, .int .u32 r1, .int .u32 r2, .int .u32 r3, .int .u32 r4, .int .u32 r5, .int .u32 r6, .int .u32 r7, .int .u32 s.place, .int .i64 s.status, .int .i64 s.cause, .int .i64 s.busy, .bool s.y, .int .i64 0, .int .i64 0, .int .i64 0, .int .u32 0, .iface 139 rv]) := by unfold workCells Hid; rw [hc]; rfl
  have HIB := hid (instrM_B ok m w hR s hs)
  have HQ : Hid (stepM O s m = if (instrM O s m).1 = 0 then ((instrM O s m).2.1, (instrM O s m).2.2) else ({ s with status := 2, cause := (instrM O s m).1 }, (instrM O s m).2.2)) := rfl
  have HNB : Hid (¬ S w.heap.size) := fun hh => absurd (ok.lt m w _ hR hh) (Nat.lt_irrefl _)
  have HIN := hid (fun w1 h1 h2 => instr_any ok w1 m h1 w.heap.size HNB.out s h2 hs)
  generalize stepM O s m = q at *
  generalize instrM O s m = r at *
  obtain ⟨c, s', m'⟩ := r
  simp only at HQ HIB
  clear h ok hR hs hc hr
  go_enter Tryz.func90, Tryz.ntmps90
  go_wp2_with (first
    | (refine wpList_loadMid (hu := Tryz.underlying91) ?_ 91 (.tmp 7) ?_ b off T L [.int .u32 r0, .int .u32 r1, .int .u32 r2, .int .u32 r3, .int .u32 r4, .int .u32 r5, .int .u32 r6, .int .u32 r7, .int .u32 s.place, .int .i64 s.status, .int .i64 s.cause, .int .i64 s.busy, .bool s.y] ?_ H.out.h HL.out ?_ ?_ ?_; rfl; rfl; rfl; rfl; kernel_rfl)
    | (refine wpList_storeRow ?_ 191 (.tmp 4) (.tmp 10) ?_ w.heap.size 191 _ #[.int .u32 r0, .int .u32 r1, .int .u32 r2, .int .u32 r3, .int .u32 r4, .int .u32 r5, .int .u32 r6, .int .u32 r7, .int .u32 s.place, .int .i64 s.status, .int .i64 s.cause, .int .i64 s.busy, .bool s.y, .int .i64 0, .int .i64 0, .int .i64 0, .int .u32 0, .iface 139 rv] ?_ ?_ (heap_alloc_new w _) ?_ ?_ (work_one _ _ _ _ _ _ _ _ _ _ _ _ _ _ rfl) ?_; rfl; rfl; rfl; rfl; kernel_rfl; rfl; intro w1 g1 hf1; have HG1 := hid g1; have HF1 := hid (((Fr.refl (fun _ => False) w).alloc _).step hf1 (fun i hi => .inr (by rw [hi]; exact Nat.le_refl _))); clear g1 hf1))
  refine (HIN.out w1 ?_ ?_).mono ?_
  · exact HOK.out.fr m w w1 _ HR.out HF1.out (fun _ h => h.elim)
  · unfold WorkAt; rw [HW0.out]; exact HG1.out
  rintro e w2 ⟨rfl, hw2, hr2, hf2⟩
  have HF2 : Hid (Fr W w w2) := (HF1.out.toS (S := W)).step hf2 (fun i hi => hi.elim (fun h => .inl h) (fun h => .inr (by rw [h]; exact Nat.le_refl _)))
  have HR2 := hid hr2
  have HW2 := hid hw2
  have HA2 := hid (H.out.fr HF2.out hb)
  simp only at HR2 HW2
  clear hf2 hr2 hw2 HG1 HF1 HIN
  by_cases hc0 : c = 0
  case pos =>
    subst hc0
    have HQ2 : Hid (q = (s', m')) := HQ.out
    obtain ⟨c', a', b', n', hw2⟩ := HW2.out rfl
    have HW3 := hid hw2
    obtain ⟨q0, q1, q2, q3, q4, q5, q6, q7, hq, hqc⟩ := st_lit s' HIB.out.l
    have HQC := hid hqc
    have HWL : Hid ([.int .u32 q0, .int .u32 q1, .int .u32 q2, .int .u32 q3, .int .u32 q4, .int .u32 q5, .int .u32 q6, .int .u32 q7, .int .u32 s'.place, .int .i64 s'.status, .int .i64 s'.cause, .int .i64 s'.busy, .bool s'.y] = ((workCells s' c' a' b' n' (.iface 139 rv)).drop 0).take 13) := by unfold Hid workCells; rw [hqc]; rfl
    clear hw2 hq hqc HW2 HQ
    go_wp2_with (first
      | (refine wpList_loadMid (hu := Tryz.underlying91) ?_ 91 (.tmp 22) ?_ w.heap.size 0 191 (workCells s' c' a' b' n' (.iface 139 rv)) [.int .u32 q0, .int .u32 q1, .int .u32 q2, .int .u32 q3, .int .u32 q4, .int .u32 q5, .int .u32 q6, .int .u32 q7, .int .u32 s'.place, .int .i64 s'.status, .int .i64 s'.cause, .int .i64 s'.busy, .bool s'.y] ?_ HW3.out HWL.out ?_ ?_ ?_; rfl; rfl; rfl; rfl; kernel_rfl)
      | (refine wpList_storeMid ?_ 91 (.tmp 24) (.tmp 23) ?_ b off T L [.int .u32 q0, .int .u32 q1, .int .u32 q2, .int .u32 q3, .int .u32 q4, .int .u32 q5, .int .u32 q6, .int .u32 q7, .int .u32 s'.place, .int .i64 s'.status, .int .i64 s'.cause, .int .i64 s'.busy, .bool s'.y] ?_ ?_ HA2.out.h ?_ ?_ ?_ ?_; rfl; rfl; rfl; rfl; kernel_rfl; exact HA2.out.l; exact st_one13 _ _ _ _ _ _ _ _ _ _ _ _ _; intro w3 g3 hf3; have HG3 := hid g3; have HF3 := hid hf3; clear g3 hf3))
    go_end0
    rw [HQ2.out]
    refine ⟨rfl, w2, HR2.out, HF2.out, HF3.out, StAt.put HA2.out.l HIB.out.l ?_⟩
    rw [HQC.out]
    exact HG3.out
  case neg =>
    have hcb : (c != 0) = true := by simp [hc0]
    have HQ2 : Hid (q = ({ s with status := 2, cause := c }, m')) := by unfold Hid; rw [HQ.out, if_neg hc0]
    have h8 := HS.out.l
    have HA3 : Hid (StAt (w2.setCell ⟨b, off + 9, none⟩ (.int .i64 2)) b off T (splice L off (stCells { s with status := 2 })) { s with status := 2 }) := HA2.out.set 9 (by omega) _ (by unfold stCells; simp only [HRG.out]; rfl)
    have HA4 : Hid (StAt ((w2.setCell ⟨b, off + 9, none⟩ (.int .i64 2)).setCell ⟨b, off + 10, none⟩ (.int .i64 c)) b off T (splice (splice L off (stCells { s with status := 2 })) off (stCells { s with status := 2, cause := c })) { s with status := 2, cause := c }) := HA3.out.set 10 (by omega) _ (by unfold stCells; simp only [HRG.out]; rfl)
    have c9 : w2.cell? ⟨b, off + 9, none⟩ = some (.int .i64 s.status) := HA2.out.at h8 1 (by omega)
    have f9 : w2.frozen? ⟨b, off + 9, none⟩ = false := row_frozen HA2.out.h _
    have c10 : (w2.setCell ⟨b, off + 9, none⟩ (.int .i64 2)).cell? ⟨b, off + 10, none⟩ = some (.int .i64 s.cause) := HA3.out.at h8 2 (by omega)
    have f10 : (w2.setCell ⟨b, off + 9, none⟩ (.int .i64 2)).frozen? ⟨b, off + 10, none⟩ = false := row_frozen HA3.out.h _
    clear HQ HW2
    go_wp2_with fail
    go_end0
    rw [HQ2.out]
    refine ⟨rfl, w2, HR2.out, HF2.out, ((Fr.one w2 b (off + 9) _).setCell (p := ⟨b, off + 10, none⟩) (.inl rfl) _), ?_⟩
    have hh := HA4.out
    rw [splice_splice _ _ _ _ (by simp [stCells, h8]) (by have := HA2.out.l; simp [stCells, h8]; omega)] at hh
    exact hh

end Go.Proofs.YthmcheoehcmglaaGreat
