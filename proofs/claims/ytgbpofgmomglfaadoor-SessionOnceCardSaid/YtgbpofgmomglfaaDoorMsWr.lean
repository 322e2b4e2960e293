/-
  Layer 23: the writer.
-/
import Derived.Test.YtgbpofgmomglfaaDoorMsSh
import Derived.Test.YtgbpofgmomglfaaDoorMsSm
import Derived.Test.YtgbpofgmomglfaaDoorMOutB
namespace Go.Proofs.YtgbpofgmomglfaaDoor.Ms
open Oct (pb bs OutSt OSep Left app eInt eText eBool eLen)
open Gn (Asks)
open Go.RowKit
set_option maxRecDepth 100000
set_option linter.unusedSimpArgs false
set_option linter.unusedVariables false

/-- A call of a function of two arguments. -/
theorem step_call2 {ops : Array Oper} {o : Oper} {a : Act} {K : Act → World → Prop} {Q : Exit → Act → World → Prop} {E : Prop} (w : World) (hgd : o.guard = none) (f : FuncId) (x y : Operand) (ts : Array TypeId)
    (ho : o.op = .call { callee := .value (.func f), args := #[x, y], argTypes := ts }) (u z : Value) (hx : a.eval x = u) (hy : a.eval y = z)
    (he : ∀ args w, (callFunc f args).run Tryd.prog w = .ok (.enter f args) w)
    (h : Calls Tryd.prog f #[u, z] w fun e w' => ∃ v, e = .returned v ∧ K (a.put o.dst v) w') :
    if Region.wanted o (yielded ops a.tmps) = true then Oper.wp Tryd.prog o a w K Q else E := by
  have hw : Region.wanted o (yielded ops a.tmps) = true := by simp [Region.wanted, hgd]
  rw [if_pos hw]
  unfold Oper.wp execOp
  rw [ho]
  have hr : ((resolve a.eval { callee := .value (.func f), args := #[x, y], argTypes := ts } o.type).run Tryd.prog w) = .ok { target := .fn (.func f) #[], args := #[u, z] } w := by
    simp only [resolve, List.map_toArray, List.map_cons, List.map_nil, hx, hy]
    rfl
  simp only [Sem.run_bind, hr, Result.andThen_ok, invoke]
  rw [he]
  show Calls _ _ _ _ _
  have e : (#[u, z] ++ #[] : Array Value) = #[u, z] := rfl
  rw [e]
  refine Calls.mono h fun e w' hh => ?_
  obtain ⟨v, rfl, hk⟩ := hh
  exact hk
/-- The numbers of a message by their places; its texts. -/
def numAt (m : Msg) (j : Nat) : Int := match j with | 0 => m.kind | 1 => m.frm | 2 => m.born | 4 => m.view | 5 => m.last | 6 => m.op | 7 => m.commit | 8 => m.client | 9 => m.number | 10 => m.nonce | 13 => m.base | _ => 0
def isNum (j : Nat) : Bool := [1, 2, 4, 5, 6, 7, 8, 9, 10, 13].contains j
def txtAt (m : Msg) (j : Nat) : ByteArray := if j = 11 then m.text else m.state
def eEnt (st : Option (List UInt8)) (x : Ent) : Option (List UInt8) := app (app (app st (eInt x.client)) (eInt x.number)) (eText (bs x.text))
def wrNext (m : Msg) (st : Option (List UInt8)) : Sh → Option (List UInt8)
  | .nums js => js.foldl (fun st j => app st (eInt (numAt m j))) st
  | .known => m.known.foldl (fun st n => app st (eInt n)) st
  | .text j => app st (eText (bs (txtAt m j)))
  | .yes => app st (eBool m.full)
  | .entry => m.ents.foldl eEnt st
  | .entries => m.ents.foldl eEnt (app st (eInt m.ents.length))
/-- Where the message, its rows and the writer lie. -/
structure WrC where
  W0 : World
  mb : Nat
  g : Nat
  c : Nat
  m : Msg
  a : Option Addr
  cap : Nat
  b : Option Addr
  cap2 : Nat
structure WrFix (C : WrC) : Prop where
  mb0 : C.W0.heap.size ≤ C.mb
  mbc : C.mb < C.c
  ne : C.mb ≠ C.g
  g0 : C.W0.heap.size ≤ C.g
  known : Ints C.W0 C.a C.m.known.length C.m.known
  ents : Ents C.W0 C.b C.m.ents.length C.m.ents
  kn : C.m.known.length ≤ 1000
  en : C.m.ents.length ≤ 1000
structure WrR (C : WrC) (st : Option (List UInt8)) (w : World) : Prop where
  out : OutSt w C.g C.c st
  msg : w.heap[C.mb]? = some (.cells (cellsM C.m C.a C.cap C.b C.cap2) 53 (0, 0))
  bel : Below C.W0.heap.size C.W0 w
  cw : C.W0.heap.size ≤ C.c
theorem WrR.below {C : WrC} {st : Option (List UInt8)} {w w' : World} (h : WrR C st w) (b : Below w.heap.size w w') : WrR C st w' :=
  ⟨h.out.below b, (b.block _ (Gn.heap_lt h.msg)).trans h.msg, h.bel.trans (b.mono h.bel.size), h.cw⟩
theorem WrR.left {C : WrC} {st st' : Option (List UInt8)} {w w' : World} (hf : WrFix C) (h : WrR C st w) (ho : OutSt w' C.g C.c st') (hs : OSep C.g C.c w w') : WrR C st' w' :=
  ⟨ho, (hs.sep.block _ hf.mbc hf.ne).trans h.msg, h.bel.trans (hs.below hf.g0 h.cw), h.cw⟩
theorem WrR.num {C : WrC} {st : Option (List UInt8)} {w : World} (h : WrR C st w) (j : Nat) (hj : isNum j = true) : w.cell? ⟨C.mb, j, none⟩ = some (.int .i64 (numAt C.m j)) := by
  rw [cell_of_row _ _ j _ _ (0, 0) h.msg]
  unfold isNum at hj
  simp only [List.contains_cons, List.contains_nil, Bool.or_false, Bool.or_eq_true, beq_iff_eq] at hj
  rcases hj with rfl | rfl | rfl | rfl | rfl | rfl | rfl | rfl | rfl | rfl <;> rfl
/-- How long it may be ahead of a step. -/
def Fit (st : Option (List UInt8)) : Prop := Oct.len st ≤ 1000000000000
def wrP (st : Option (List UInt8)) : Sh → Prop
  | .nums js => js.length ≤ 100 ∧ (∀ j ∈ js, isNum j = true) ∧ Fit st
  | .text j => (j = 11 ∨ j = 14) ∧ Fit st
  | _ => Fit st
def wrV (C : WrC) : Vis (Option (List UInt8)) :=
  ⟨82, .pointer (some ⟨C.g, 0, none⟩), .pointer (some ⟨C.g, 0, none⟩), 92, 91, 93, 94, 90, 89, C.mb, C.m.kind, C.m.full, WrR C, wrP, wrNext C.m⟩
theorem len_add (st : Option (List UInt8)) (n : Int) : Oct.len (app st (eInt n)) ≤ Oct.len st + 8 := by
  have h1 := Oct.len_app st (eInt n)
  have h2 := Oct.len_eInt n
  omega
theorem len_nums (m : Msg) (js : List Nat) (st : Option (List UInt8)) : Oct.len (js.foldl (fun st j => app st (eInt (numAt m j))) st) ≤ Oct.len st + 8 * js.length := by
  induction js generalizing st with
  | nil => simp
  | cons j js ih =>
    have h1 := ih (app st (eInt (numAt m j)))
    have h2 := len_add st (numAt m j)
    rw [List.foldl_cons, List.length_cons]
    omega
theorem len_ints (ks : List Int) (st : Option (List UInt8)) : Oct.len (ks.foldl (fun st n => app st (eInt n)) st) ≤ Oct.len st + 8 * ks.length := by
  induction ks generalizing st with
  | nil => simp
  | cons j js ih =>
    have h1 := ih (app st (eInt j))
    have h2 := len_add st j
    rw [List.foldl_cons, List.length_cons]
    omega
theorem len_eTx (l : List UInt8) : Oct.len (eText l) ≤ 65544 := by
  unfold eText eLen
  by_cases h : 65536 < (l.length : Int)
  · rw [if_pos h]; exact Nat.zero_le _
  · rw [if_neg h]
    have h1 := Oct.len_app (eInt l.length) (some l)
    have h2 := Oct.len_eInt (l.length : Int)
    have h3 : Oct.len (some l) = l.length := rfl
    omega
theorem len_ent (st : Option (List UInt8)) (x : Ent) : Oct.len (eEnt st x) ≤ Oct.len st + 70000 := by
  unfold eEnt
  have h1 := len_add st x.client
  have h2 := len_add (app st (eInt x.client)) x.number
  have h3 := Oct.len_app (app (app st (eInt x.client)) (eInt x.number)) (eText (bs x.text))
  have h4 := len_eTx (bs x.text)
  omega
theorem len_ents (l : List Ent) (st : Option (List UInt8)) : Oct.len (l.foldl eEnt st) ≤ Oct.len st + 70000 * l.length := by
  induction l generalizing st with
  | nil => simp
  | cons x l ih =>
    have h1 := ih (eEnt st x)
    have h2 := len_ent st x
    rw [List.foldl_cons, List.length_cons]
    omega
theorem wr_text (C : WrC) (hC : WrFix C) (st : Option (List UInt8)) (w : World) (j : Nat) (h : WrR C st w) (hp : (j = 11 ∨ j = 14) ∧ Fit st) :
    Calls Tryd.prog 93 #[.pointer (some ⟨C.g, 0, none⟩), .pointer (some ⟨C.mb, j, none⟩)] w (fun e w' => e = .returned (.tuple #[]) ∧ WrR C (app st (eText (bs (txtAt C.m j)))) w') := by
  have hc : ∀ st w, WrR C st w → w.cell? ⟨C.mb, j, none⟩ = some (.string (txtAt C.m j)) := fun st w h => by
    rw [cell_of_row _ _ j _ _ (0, 0) h.msg]
    rcases hp.1 with rfl | rfl <;> rfl
  obtain ⟨W0, mb, g, c, m, ra, cap, rb, cap2⟩ := C
  dsimp only at hc ⊢
  obtain ⟨x, hx⟩ : ∃ x, x = txtAt m j := ⟨_, rfl⟩
  rw [← hx] at hc ⊢
  have hlen : Oct.len st ≤ 1000000000000 := hp.2
  have HF := Lib.hid hC
  have HR := Lib.hid h
  have HC := Lib.hid hc
  clear h hc hx hp hC
  go_enter Tryd.func93, Tryd.ntmps93
  go_upto_region 0 with fail
  refine wp_region_noPanic ?_
  refine wp_region_held_drew (S := (fun w : World => w.cell? ⟨mb, j, none⟩ = some (.string x))) (by kernel_rfl) ?_ (fun hHeld => ?_)
  · exact (HC.out _ _ (HR.out.below (Gn.below_drew (Below.refl _ _))))
  conv in Array.replicate _ false => change #[false, false, false, false, false, false, false]
  refine wpAnyH_take (i := 0) (v := ?_) rfl (by kernel_rfl) (by kernel_rfl) (by kernel_rfl) (fun _ _ _ h => h) (Or.inl ⟨by rfl, ?_⟩) (by assumption) ?_
  rotate_left
  · intro w hSw
    try dsimp only at hSw
    go_simp
    try with_reducible rfl
  try simp only [Act.put, List.getElem_toArray, List.getElem_cons_zero, List.getElem_cons_succ, List.setIfInBounds_toArray, List.set_cons_zero, List.set_cons_succ]
  refine wpAnyH_take (i := 1) (v := ?_) rfl (by kernel_rfl) (by kernel_rfl) (by kernel_rfl) (fun _ _ _ h => h) (Or.inl ⟨by rfl, ?_⟩) (by assumption) ?_
  rotate_left
  · intro w hSw
    try dsimp only at hSw
    go_simp
    try with_reducible rfl
  try simp only [Act.put, List.getElem_toArray, List.getElem_cons_zero, List.getElem_cons_succ, List.setIfInBounds_toArray, List.set_cons_zero, List.set_cons_succ]
  refine wpAnyH_take (i := 2) (v := ?_) rfl (by kernel_rfl) (by kernel_rfl) (by kernel_rfl) (fun _ _ _ h => h) (Or.inl ⟨by rfl, ?_⟩) (by assumption) ?_
  rotate_left
  · intro w hSw
    try dsimp only at hSw
    go_simp
    try with_reducible rfl
  try simp only [Act.put, List.getElem_toArray, List.getElem_cons_zero, List.getElem_cons_succ, List.setIfInBounds_toArray, List.set_cons_zero, List.set_cons_succ]
  refine wpAnyH_take (i := 3) (v := ?_) rfl (by kernel_rfl) (by kernel_rfl) (by kernel_rfl) (fun _ _ _ h => h) (Or.inl ⟨by rfl, ?_⟩) (by assumption) ?_
  rotate_left
  · intro w hSw
    try dsimp only at hSw
    go_simp
    try with_reducible rfl
  try simp only [Act.put, List.getElem_toArray, List.getElem_cons_zero, List.getElem_cons_succ, List.setIfInBounds_toArray, List.set_cons_zero, List.set_cons_succ]
  refine wpAnyH_take (i := 4) (v := ?_) rfl (by kernel_rfl) (by kernel_rfl) (by kernel_rfl) (fun _ _ _ h => h) (Or.inl ⟨by rfl, ?_⟩) (by assumption) ?_
  rotate_left
  · intro w hSw
    try dsimp only at hSw
    go_simp
    try with_reducible rfl
  try simp only [Act.put, List.getElem_toArray, List.getElem_cons_zero, List.getElem_cons_succ, List.setIfInBounds_toArray, List.set_cons_zero, List.set_cons_succ]
  refine wpAnyH_take (i := 5) (v := ?_) rfl (by kernel_rfl) (by kernel_rfl) (by kernel_rfl) (fun _ _ _ h => h) (Or.inl ⟨by rfl, ?_⟩) (by assumption) ?_
  rotate_left
  · intro w hSw
    try dsimp only at hSw
    go_simp
    try with_reducible rfl
  try simp only [Act.put, List.getElem_toArray, List.getElem_cons_zero, List.getElem_cons_succ, List.setIfInBounds_toArray, List.set_cons_zero, List.set_cons_succ]
  refine wpAnyH_ready (rs := [6]) (by kernel_rfl) (by simp) ?_
  refine AllReadyH.cons rfl (fun K hK => ?_) AllReadyH.nil
  refine step_call2 _ (by rfl) 95 (.tmp 6) (.tmp 9) _ (by rfl) (.pointer (some ⟨g, 0, none⟩)) (.string x) (by simp [Act.eval]) (by simp [Act.eval]) (fun args w => by kernel_rfl) ?_
  refine (Oct.text_any g c st x _ (HR.out.below (Gn.below_drew (Below.refl _ _))).out (by omega)).mono ?_
  rintro e w2 ⟨rfl, ho, hs⟩
  have HR2 := Lib.hid (WrR.left HF.out (HR.out.below (Gn.below_drew (Below.refl _ _))) ho hs)
  clear ho hs
  refine ⟨_, rfl, ?_⟩
  refine hK.out _ _ (HC.out _ _ HR2.out) (fun hHeld => ?_)
  clear hK K hHeld
  try simp only [Act.put, List.getElem_toArray, List.getElem_cons_zero, List.getElem_cons_succ, List.setIfInBounds_toArray, List.set_cons_zero, List.set_cons_succ]
  refine wpAnyH_done (by kernel_rfl) ?_ _
  refine NoPanic.normal ?_
  go_wp2_with fail
  go_end0
  exact ⟨rfl, HR2.out⟩
theorem wr_yes (C : WrC) (hC : WrFix C) (st : Option (List UInt8)) (w : World) (h : WrR C st w) (hp : Fit st) :
    Calls Tryd.prog 94 #[.pointer (some ⟨C.g, 0, none⟩), .pointer (some ⟨C.mb, 12, none⟩)] w (fun e w' => e = .returned (.bool C.m.full) ∧ WrR C (app st (eBool C.m.full)) w') := by
  have hc : ∀ st w, WrR C st w → w.cell? ⟨C.mb, 12, none⟩ = some (.bool C.m.full) := fun st w h => by
    rw [cell_of_row _ _ 12 _ _ (0, 0) h.msg]
    rfl
  obtain ⟨W0, mb, g, c, m, ra, cap, rb, cap2⟩ := C
  dsimp only at hc ⊢
  obtain ⟨x, hx⟩ : ∃ x, x = m.full := ⟨_, rfl⟩
  rw [← hx] at hc ⊢
  have hlen : Oct.len st ≤ 1000000000000 := hp
  have HF := Lib.hid hC
  have HR := Lib.hid h
  have HC := Lib.hid hc
  clear h hc hx hp hC
  go_enter Tryd.func94, Tryd.ntmps94
  go_upto_region 1 with fail
  refine wp_region_noPanic ?_
  refine wp_region_held_drew (S := (fun w : World => w.cell? ⟨mb, 12, none⟩ = some (.bool x))) (by kernel_rfl) ?_ (fun hHeld => ?_)
  · exact (HC.out _ _ (HR.out.below (Gn.below_drew (Below.refl _ _))))
  conv in Array.replicate _ false => change #[false, false, false, false, false, false, false]
  refine wpAnyH_take (i := 0) (v := ?_) rfl (by kernel_rfl) (by kernel_rfl) (by kernel_rfl) (fun _ _ _ h => h) (Or.inl ⟨by rfl, ?_⟩) (by assumption) ?_
  rotate_left
  · intro w hSw
    try dsimp only at hSw
    go_simp
    try with_reducible rfl
  try simp only [Act.put, List.getElem_toArray, List.getElem_cons_zero, List.getElem_cons_succ, List.setIfInBounds_toArray, List.set_cons_zero, List.set_cons_succ]
  refine wpAnyH_take (i := 1) (v := ?_) rfl (by kernel_rfl) (by kernel_rfl) (by kernel_rfl) (fun _ _ _ h => h) (Or.inl ⟨by rfl, ?_⟩) (by assumption) ?_
  rotate_left
  · intro w hSw
    try dsimp only at hSw
    go_simp
    try with_reducible rfl
  try simp only [Act.put, List.getElem_toArray, List.getElem_cons_zero, List.getElem_cons_succ, List.setIfInBounds_toArray, List.set_cons_zero, List.set_cons_succ]
  refine wpAnyH_take (i := 2) (v := ?_) rfl (by kernel_rfl) (by kernel_rfl) (by kernel_rfl) (fun _ _ _ h => h) (Or.inl ⟨by rfl, ?_⟩) (by assumption) ?_
  rotate_left
  · intro w hSw
    try dsimp only at hSw
    go_simp
    try with_reducible rfl
  try simp only [Act.put, List.getElem_toArray, List.getElem_cons_zero, List.getElem_cons_succ, List.setIfInBounds_toArray, List.set_cons_zero, List.set_cons_succ]
  refine wpAnyH_take (i := 3) (v := ?_) rfl (by kernel_rfl) (by kernel_rfl) (by kernel_rfl) (fun _ _ _ h => h) (Or.inl ⟨by rfl, ?_⟩) (by assumption) ?_
  rotate_left
  · intro w hSw
    try dsimp only at hSw
    go_simp
    try with_reducible rfl
  try simp only [Act.put, List.getElem_toArray, List.getElem_cons_zero, List.getElem_cons_succ, List.setIfInBounds_toArray, List.set_cons_zero, List.set_cons_succ]
  refine wpAnyH_take (i := 4) (v := ?_) rfl (by kernel_rfl) (by kernel_rfl) (by kernel_rfl) (fun _ _ _ h => h) (Or.inl ⟨by rfl, ?_⟩) (by assumption) ?_
  rotate_left
  · intro w hSw
    try dsimp only at hSw
    go_simp
    try with_reducible rfl
  try simp only [Act.put, List.getElem_toArray, List.getElem_cons_zero, List.getElem_cons_succ, List.setIfInBounds_toArray, List.set_cons_zero, List.set_cons_succ]
  refine wpAnyH_take (i := 5) (v := ?_) rfl (by kernel_rfl) (by kernel_rfl) (by kernel_rfl) (fun _ _ _ h => h) (Or.inl ⟨by rfl, ?_⟩) (by assumption) ?_
  rotate_left
  · intro w hSw
    try dsimp only at hSw
    go_simp
    try with_reducible rfl
  try simp only [Act.put, List.getElem_toArray, List.getElem_cons_zero, List.getElem_cons_succ, List.setIfInBounds_toArray, List.set_cons_zero, List.set_cons_succ]
  refine wpAnyH_ready (rs := [6]) (by kernel_rfl) (by simp) ?_
  refine AllReadyH.cons rfl (fun K hK => ?_) AllReadyH.nil
  refine step_call2 _ (by rfl) 96 (.tmp 7) (.tmp 10) _ (by rfl) (.pointer (some ⟨g, 0, none⟩)) (.bool x) (by simp [Act.eval]) (by simp [Act.eval]) (fun args w => by kernel_rfl) ?_
  refine (Oct.bool_any g c st x _ (HR.out.below (Gn.below_drew (Below.refl _ _))).out (by omega)).mono ?_
  rintro e w2 ⟨rfl, ho, hs⟩
  have HR2 := Lib.hid (WrR.left HF.out (HR.out.below (Gn.below_drew (Below.refl _ _))) ho hs)
  clear ho hs
  refine ⟨_, rfl, ?_⟩
  refine hK.out _ _ (HC.out _ _ HR2.out) (fun hHeld => ?_)
  clear hK K hHeld
  try simp only [Act.put, List.getElem_toArray, List.getElem_cons_zero, List.getElem_cons_succ, List.setIfInBounds_toArray, List.set_cons_zero, List.set_cons_succ]
  refine wpAnyH_done (by kernel_rfl) ?_ _
  refine NoPanic.normal ?_
  have c12 := HC.out _ _ HR2.out
  go_wp2_with fail
  go_ret
  exact ⟨rfl, HR2.out⟩
theorem foldl_take {α β : Type} (f : β → α → β) (l : List α) (s : β) (k : Nat) (hk : k < l.length) : (l.take (k + 1)).foldl f s = f ((l.take k).foldl f s) l[k] := by
  rw [List.take_succ_eq_append_getElem hk, List.foldl_append]
  rfl
set_option maxHeartbeats 4000000 in
theorem wr_numbers (C : WrC) (hC : WrFix C) (st : Option (List UInt8)) (w : World) (a : Nat) (js : List Nat) (h : WrR C st w) (hp : js.length ≤ 100 ∧ (∀ j ∈ js, isNum j = true) ∧ Fit st) (hq : Ptrs C.mb w a js) :
    Calls Tryd.prog 92 #[.pointer (some ⟨C.g, 0, none⟩), .slice (some ⟨a, 0, none⟩) js.length js.length] w (fun e w' => e = .returned (.tuple #[]) ∧ WrR C (js.foldl (fun st j => app st (eInt (numAt C.m j))) st) w') := by
  have hnum : ∀ j, isNum j = true → ∀ st w, WrR C st w → w.cell? ⟨C.mb, j, none⟩ = some (.int .i64 (numAt C.m j)) := fun j hj st w h => h.num j hj
  obtain ⟨W0, mb, g, c, m, ra, cap, rb, cap2⟩ := C
  dsimp only at *
  obtain ⟨n, hnn⟩ : ∃ n, n = js.length := ⟨_, rfl⟩
  rw [← hnn]
  have hn : n ≤ 100 := by rw [hnn]; exact hp.1
  obtain ⟨pcs, pfr, hpo⟩ := hq.2.2
  have HF := Lib.hid hC
  have HR := Lib.hid h
  have HP := Lib.hid hq.2.1
  have HPO := Lib.hid hpo
  have HJ := Lib.hid hp.2.1
  have HFI := Lib.hid hp.2.2
  have HN := Lib.hid hnn
  have HNUM := Lib.hid hnum
  have HNO := Lib.hid (show ¬ Oct.Ours 108 from fun h => by unfold Oct.Ours at h; revert h; decide)
  clear hnum hp hq h hC hnn hpo
  go_enter Tryd.func92, Tryd.ntmps92
  go_wp2_with fail
  go_loopw [8] (fun i wr => ∃ k : Nat, i = .int .i64 k ∧ k ≤ n ∧ WrR ⟨W0, mb, g, c, m, ra, cap, rb, cap2⟩ ((js.take k).foldl (fun st j => app st (eInt (numAt m j))) st) wr ∧ wr.heap[a]? = w.heap[a]?) (fun i _ => n - (intOf i).toNat)
  case atStart => exact ⟨0, rfl, Nat.zero_le _, HR.out, rfl⟩
  case round =>
    obtain ⟨k, rfl, hk, hw, hc⟩ := hrel
    have HW := Lib.hid hw
    have HC0 := Lib.hid hc
    clear hw hc
    by_cases hlt : k < n
    · have hlt2 : (k : Int) < (n : Int) := by omega
      have hks : k < js.length := by rw [← HN.out]; exact hlt
      have hjk := HJ.out _ (List.getElem_mem hks)
      have c1 := (Gn.cell_same HC0.out k).trans (HP.out k hks)
      have hft := foldl_take (fun st j => app st (eInt (numAt m j))) js st k hks
      have hln := len_nums m (js.take k) st
      rw [List.length_take] at hln
      obtain ⟨stk, hstk⟩ : ∃ s, s = (js.take k).foldl (fun st j => app st (eInt (numAt m j))) st := ⟨_, rfl⟩
      rw [← hstk] at HW hft hln
      have hfi : Oct.len st ≤ 1000000000000 := HFI.out
      have hlen : Oct.len stk ≤ 1000000010000 := by omega
      obtain ⟨j, hjj⟩ : ∃ j, j = js[k] := ⟨_, rfl⟩
      rw [← hjj] at c1 hjk hft
      have HC := Lib.hid (HNUM.out j hjk)
      obtain ⟨x, hx⟩ : ∃ x, x = numAt m j := ⟨_, rfl⟩
      rw [← hx] at HC hft
      have HFT := Lib.hid hft
      clear hjj hstk hft hx hln hfi hjk
      go_upto_region 3 with fail
      refine wp_region_noPanic ?_
      refine wp_region_held_drew (S := (fun w : World => w.cell? ⟨mb, j, none⟩ = some (.int .i64 x))) (by kernel_rfl) ?_ (fun hHeld => ?_)
      · exact (HC.out _ _ (HW.out.below (Gn.below_drew (Below.refl _ _))))
      conv in Array.replicate _ false => change #[false, false, false, false, false, false, false]
      refine wpAnyH_take (i := 0) (v := ?_) rfl (by kernel_rfl) (by kernel_rfl) (by kernel_rfl) (fun _ _ _ h => h) (Or.inl ⟨by rfl, ?_⟩) (by assumption) ?_
      rotate_left
      · intro w hSw
        try dsimp only at hSw
        go_simp
        try with_reducible rfl
      try simp only [Act.put, List.getElem_toArray, List.getElem_cons_zero, List.getElem_cons_succ, List.setIfInBounds_toArray, List.set_cons_zero, List.set_cons_succ]
      refine wpAnyH_take (i := 1) (v := ?_) rfl (by kernel_rfl) (by kernel_rfl) (by kernel_rfl) (fun _ _ _ h => h) (Or.inl ⟨by rfl, ?_⟩) (by assumption) ?_
      rotate_left
      · intro w hSw
        try dsimp only at hSw
        go_simp
        try with_reducible rfl
      try simp only [Act.put, List.getElem_toArray, List.getElem_cons_zero, List.getElem_cons_succ, List.setIfInBounds_toArray, List.set_cons_zero, List.set_cons_succ]
      refine wpAnyH_take (i := 2) (v := ?_) rfl (by kernel_rfl) (by kernel_rfl) (by kernel_rfl) (fun _ _ _ h => h) (Or.inl ⟨by rfl, ?_⟩) (by assumption) ?_
      rotate_left
      · intro w hSw
        try dsimp only at hSw
        go_simp
        try with_reducible rfl
      try simp only [Act.put, List.getElem_toArray, List.getElem_cons_zero, List.getElem_cons_succ, List.setIfInBounds_toArray, List.set_cons_zero, List.set_cons_succ]
      refine wpAnyH_take (i := 3) (v := ?_) rfl (by kernel_rfl) (by kernel_rfl) (by kernel_rfl) (fun _ _ _ h => h) (Or.inl ⟨by rfl, ?_⟩) (by assumption) ?_
      rotate_left
      · intro w hSw
        try dsimp only at hSw
        go_simp
        try with_reducible rfl
      try simp only [Act.put, List.getElem_toArray, List.getElem_cons_zero, List.getElem_cons_succ, List.setIfInBounds_toArray, List.set_cons_zero, List.set_cons_succ]
      refine wpAnyH_take (i := 4) (v := ?_) rfl (by kernel_rfl) (by kernel_rfl) (by kernel_rfl) (fun _ _ _ h => h) (Or.inl ⟨by rfl, ?_⟩) (by assumption) ?_
      rotate_left
      · intro w hSw
        try dsimp only at hSw
        go_simp
        try with_reducible rfl
      try simp only [Act.put, List.getElem_toArray, List.getElem_cons_zero, List.getElem_cons_succ, List.setIfInBounds_toArray, List.set_cons_zero, List.set_cons_succ]
      refine wpAnyH_take (i := 5) (v := ?_) rfl (by kernel_rfl) (by kernel_rfl) (by kernel_rfl) (fun _ _ _ h => h) (Or.inl ⟨by rfl, ?_⟩) (by assumption) ?_
      rotate_left
      · intro w hSw
        try dsimp only at hSw
        go_simp
        try with_reducible rfl
      try simp only [Act.put, List.getElem_toArray, List.getElem_cons_zero, List.getElem_cons_succ, List.setIfInBounds_toArray, List.set_cons_zero, List.set_cons_succ]
      refine wpAnyH_ready (rs := [6]) (by kernel_rfl) (by simp) ?_
      refine AllReadyH.cons rfl (fun K hK => ?_) AllReadyH.nil
      refine step_call2 _ (by rfl) 28 (.tmp 14) (.tmp 17) _ (by rfl) (.pointer (some ⟨g, 0, none⟩)) (.int .i64 x) (by simp [Act.eval]) (by simp [Act.eval]) (fun args w => by kernel_rfl) ?_
      refine (Oct.int_any g c stk x _ (HW.out.below (Gn.below_drew (Below.refl _ _))).out (by omega)).mono ?_
      rintro e w2 ⟨rfl, ho, hs⟩
      have HR2 := Lib.hid (WrR.left HF.out (HW.out.below (Gn.below_drew (Below.refl _ _))) ho hs)
      have HFAR := Lib.hid (show w2.heap[a]? = wr.heap[a]? from hs.far a pcs _ pfr (HC0.out.trans HPO.out) HNO.out)
      clear ho hs
      refine ⟨_, rfl, ?_⟩
      refine hK.out _ _ (HC.out _ _ HR2.out) (fun hHeld => ?_)
      clear hK K hHeld
      try simp only [Act.put, List.getElem_toArray, List.getElem_cons_zero, List.getElem_cons_succ, List.setIfInBounds_toArray, List.set_cons_zero, List.set_cons_succ]
      refine wpAnyH_done (by kernel_rfl) ?_ _
      refine NoPanic.normal ?_
      have HK := Lib.hid (show w2.heap[a]? = w.heap[a]? from (HFAR.out).trans HC0.out)
      go_wp2
      refine ⟨⟨k + 1, by go_num, by omega, by rw [HFT.out]; exact HR2.out, HK.out⟩, by simp [intOf]; omega⟩
    · have hke : k = n := by omega
      subst hke
      have HTA := Lib.hid (show js.take k = js by rw [HN.out]; exact List.take_length)
      go_wp2
      go_end0
      refine ⟨rfl, ?_⟩
      have := HW.out
      rwa [HTA.out] at this
set_option maxHeartbeats 4000000 in
theorem wr_known (C : WrC) (hC : WrFix C) (st : Option (List UInt8)) (w : World) (h : WrR C st w) (hp : Fit st) :
    Calls Tryd.prog 91 #[.pointer (some ⟨C.g, 0, none⟩), .pointer (some ⟨C.mb, 3, none⟩)] w (fun e w' => e = .returned (.tuple #[]) ∧ WrR C (C.m.known.foldl (fun st n => app st (eInt n)) st) w') := by
  have hc3 : w.cell? ⟨C.mb, 3, none⟩ = some (.slice C.a C.m.known.length C.cap) := by
    rw [cell_of_row _ _ 3 _ _ (0, 0) h.msg]
    rfl
  obtain ⟨W0, mb, g, c, m, ra, cap, rb, cap2⟩ := C
  dsimp only at *
  obtain ⟨ks, hks⟩ : ∃ ks, ks = m.known := ⟨_, rfl⟩
  have hkn := hC.kn
  have hki := hC.known
  dsimp only at hkn hki
  rw [← hks] at hc3 hkn hki ⊢
  obtain ⟨n, hnn⟩ : ∃ n, n = ks.length := ⟨_, rfl⟩
  rw [← hnn] at hc3 hkn hki
  have HF := Lib.hid hC
  have HR := Lib.hid h
  have HFI := Lib.hid hp
  have HN := Lib.hid hnn
  have HI := Lib.hid hki
  clear hp h hC hnn hks hki
  go_enter Tryd.func91, Tryd.ntmps91
  go_wp2_with fail
  go_loopw [10] (fun i wr => ∃ k : Nat, i = .int .i64 k ∧ k ≤ n ∧ WrR ⟨W0, mb, g, c, m, ra, cap, rb, cap2⟩ ((ks.take k).foldl (fun st n => app st (eInt n)) st) wr) (fun i _ => n - (intOf i).toNat)
  case atStart => exact ⟨0, rfl, Nat.zero_le _, HR.out⟩
  case round =>
    obtain ⟨k, rfl, hk, hw⟩ := hrel
    have HW := Lib.hid hw
    clear hw
    by_cases hlt : k < n
    · have hlt2 : (k : Int) < (n : Int) := by omega
      have hks : k < ks.length := by rw [← HN.out]; exact hlt
      have hft := foldl_take (fun st n => app st (eInt n)) ks st k hks
      have hln := len_ints (ks.take k) st
      rw [List.length_take] at hln
      obtain ⟨stk, hstk⟩ : ∃ s, s = (ks.take k).foldl (fun st n => app st (eInt n)) st := ⟨_, rfl⟩
      rw [← hstk] at HW hft hln
      have hfi : Oct.len st ≤ 1000000000000 := HFI.out
      have hlen : Oct.len stk ≤ 1000000010000 := by omega
      obtain ⟨b, off, e, hbb, hc⟩ := (Ints.under HI.out HW.out.bel).get k hlt
      obtain ⟨x, hx⟩ : ∃ x, x = ks[k] := ⟨_, rfl⟩
      rw [← hx] at hc hft
      have HFT := Lib.hid hft
      have HO := Lib.hid HW.out.out
      subst e
      clear hstk hft hx hln hfi
      go_wp2_with fail
      refine (Oct.int_any g c stk x _ HO.out (by omega)).mono ?_
      rintro e w2 ⟨rfl, ho, hs⟩
      have HR2 := Lib.hid (WrR.left HF.out HW.out ho hs)
      clear ho hs
      go_wp2
      refine ⟨⟨k + 1, by go_num, by omega, by rw [HFT.out]; exact HR2.out⟩, by simp [intOf]; omega⟩
    · have hke : k = n := by omega
      subst hke
      have HTA := Lib.hid (show ks.take k = ks by rw [HN.out]; exact List.take_length)
      go_wp2
      go_end0
      refine ⟨rfl, ?_⟩
      have := HW.out
      rwa [HTA.out] at this
set_option maxHeartbeats 8000000 in
theorem wr_entry (C : WrC) (hC : WrFix C) (st : Option (List UInt8)) (w : World) (h : WrR C st w) (hp : Oct.len st ≤ 1000000100000) :
    Calls Tryd.prog 90 #[.pointer (some ⟨C.g, 0, none⟩), .pointer (some ⟨C.mb, 15, none⟩)] w (fun e w' => e = .returned (.tuple #[]) ∧ WrR C (C.m.ents.foldl eEnt st) w') := by
  have hc15 : w.cell? ⟨C.mb, 15, none⟩ = some (.slice C.b C.m.ents.length C.cap2) := by
    rw [cell_of_row _ _ 15 _ _ (0, 0) h.msg]
    rfl
  obtain ⟨W0, mb, g, c, m, ra, cap, rb, cap2⟩ := C
  dsimp only at *
  obtain ⟨ks, hks⟩ : ∃ ks, ks = m.ents := ⟨_, rfl⟩
  have hkn := hC.en
  have hki := hC.ents
  dsimp only at hkn hki
  rw [← hks] at hc15 hkn hki ⊢
  obtain ⟨n, hnn⟩ : ∃ n, n = ks.length := ⟨_, rfl⟩
  rw [← hnn] at hc15 hkn hki
  have HF := Lib.hid hC
  have HR := Lib.hid h
  have HFI := Lib.hid hp
  have HN := Lib.hid hnn
  have HI := Lib.hid hki
  have HNO := Lib.hid (show ¬ Oct.Ours 100 from fun h => by unfold Oct.Ours at h; revert h; decide)
  clear hp h hC hnn hks hki
  go_enter Tryd.func90, Tryd.ntmps90
  go_wp2_with fail
  go_loopw [10] (fun i wr => ∃ k : Nat, i = .int .i64 k ∧ k ≤ n ∧ WrR ⟨W0, mb, g, c, m, ra, cap, rb, cap2⟩ ((ks.take k).foldl eEnt st) wr) (fun i _ => n - (intOf i).toNat)
  case atStart => exact ⟨0, rfl, Nat.zero_le _, HR.out⟩
  case round =>
    obtain ⟨k, rfl, hk, hw⟩ := hrel
    have HW := Lib.hid hw
    clear hw
    by_cases hlt : k < n
    · have hlt2 : (k : Int) < (n : Int) := by omega
      have hks : k < ks.length := by rw [← HN.out]; exact hlt
      have hft := foldl_take eEnt ks st k hks
      have hln := len_ents (ks.take k) st
      rw [List.length_take] at hln
      obtain ⟨stk, hstk⟩ : ∃ s, s = (ks.take k).foldl eEnt st := ⟨_, rfl⟩
      rw [← hstk] at HW hft hln
      have hfi : Oct.len st ≤ 1000000100000 := HFI.out
      have hlen : Oct.len stk ≤ 1001000000000 := by omega
      obtain ⟨b, off, e, hbb, hd0, hd1, hd2⟩ := (Ents.under HI.out HW.out.bel).get k hlt
      obtain ⟨y0, hy0⟩ : ∃ x, x = ks[k].client := ⟨_, rfl⟩
      obtain ⟨y1, hy1⟩ : ∃ x, x = ks[k].number := ⟨_, rfl⟩
      obtain ⟨y2, hy2⟩ : ∃ x, x = ks[k].text := ⟨_, rfl⟩
      have hee : eEnt stk ks[k] = app (app (app stk (eInt y0)) (eInt y1)) (eText (bs y2)) := by unfold eEnt; rw [hy0, hy1, hy2]
      rw [← hy0] at hd0
      rw [← hy1] at hd1
      rw [← hy2] at hd2
      rw [hee] at hft
      have hl1 := len_add stk y0
      have hl2 := len_add (app stk (eInt y0)) y1
      obtain ⟨V, hV⟩ : ∃ V, V = wr.alloc (.cells #[.int .i64 y0, .int .i64 y1, .string y2] 100) := ⟨_, rfl⟩
      have hxV : V.heap[wr.heap.size]? = some (.cells #[.int .i64 y0, .int .i64 y1, .string y2] 100 (0, 0)) := by rw [hV]; exact heap_alloc_new _ _
      obtain ⟨bx, hbx⟩ : ∃ x, x = wr.heap.size := ⟨_, rfl⟩
      rw [← hbx] at hxV
      have HE0 := Lib.hid (HW.out.below (show Below wr.heap.size wr V by rw [hV]; exact (Below.refl _ _).alloc (Nat.le_refl _) _))
      have HX0 := Lib.hid hxV
      have HFT := Lib.hid hft
      have HV := Lib.hid hV
      have HBX := Lib.hid hbx
      subst e
      clear hstk hft hln hfi hee hy0 hy1 hy2 hV hxV hbx
      go_upto_region 3 with fail
      rw [← HV.out, ← HBX.out]
      clear hd0 hd1 hd2
      refine wp_region_noPanic ?_
      refine wp_region_held_drew (S := (fun w : World => w.cell? ⟨bx, 0, none⟩ = some (.int .i64 y0))) (by kernel_rfl) ?_ (fun hHeld => ?_)
      · exact (cell_of_row _ _ 0 _ _ (0, 0) (((Gn.below_drew (Below.refl _ _)).block bx (Gn.heap_lt HX0.out)).trans HX0.out))
      conv in Array.replicate _ false => change #[false, false, false, false, false, false]
      refine wpAnyH_take (i := 0) (v := ?_) rfl (by kernel_rfl) (by kernel_rfl) (by kernel_rfl) (fun _ _ _ h => h) (Or.inl ⟨by rfl, ?_⟩) (by assumption) ?_
      rotate_left
      · intro w hSw
        try dsimp only at hSw
        go_simp
        try with_reducible rfl
      try simp only [Act.put, List.getElem_toArray, List.getElem_cons_zero, List.getElem_cons_succ, List.setIfInBounds_toArray, List.set_cons_zero, List.set_cons_succ]
      refine wpAnyH_take (i := 1) (v := ?_) rfl (by kernel_rfl) (by kernel_rfl) (by kernel_rfl) (fun _ _ _ h => h) (Or.inl ⟨by rfl, ?_⟩) (by assumption) ?_
      rotate_left
      · intro w hSw
        try dsimp only at hSw
        go_simp
        try with_reducible rfl
      try simp only [Act.put, List.getElem_toArray, List.getElem_cons_zero, List.getElem_cons_succ, List.setIfInBounds_toArray, List.set_cons_zero, List.set_cons_succ]
      refine wpAnyH_take (i := 2) (v := ?_) rfl (by kernel_rfl) (by kernel_rfl) (by kernel_rfl) (fun _ _ _ h => h) (Or.inl ⟨by rfl, ?_⟩) (by assumption) ?_
      rotate_left
      · intro w hSw
        try dsimp only at hSw
        go_simp
        try with_reducible rfl
      try simp only [Act.put, List.getElem_toArray, List.getElem_cons_zero, List.getElem_cons_succ, List.setIfInBounds_toArray, List.set_cons_zero, List.set_cons_succ]
      refine wpAnyH_take (i := 3) (v := ?_) rfl (by kernel_rfl) (by kernel_rfl) (by kernel_rfl) (fun _ _ _ h => h) (Or.inl ⟨by rfl, ?_⟩) (by assumption) ?_
      rotate_left
      · intro w hSw
        try dsimp only at hSw
        go_simp
        try with_reducible rfl
      try simp only [Act.put, List.getElem_toArray, List.getElem_cons_zero, List.getElem_cons_succ, List.setIfInBounds_toArray, List.set_cons_zero, List.set_cons_succ]
      refine wpAnyH_take (i := 4) (v := ?_) rfl (by kernel_rfl) (by kernel_rfl) (by kernel_rfl) (fun _ _ _ h => h) (Or.inl ⟨by rfl, ?_⟩) (by assumption) ?_
      rotate_left
      · intro w hSw
        try dsimp only at hSw
        go_simp
        try with_reducible rfl
      try simp only [Act.put, List.getElem_toArray, List.getElem_cons_zero, List.getElem_cons_succ, List.setIfInBounds_toArray, List.set_cons_zero, List.set_cons_succ]
      refine wpAnyH_ready (rs := [5]) (by kernel_rfl) (by simp) ?_
      refine AllReadyH.cons rfl (fun K hK => ?_) AllReadyH.nil
      refine step_call2 _ (by rfl) 28 (.tmp 16) (.tmp 18) _ (by rfl) (.pointer (some ⟨g, 0, none⟩)) (.int .i64 y0) (by simp [Act.eval]) (by simp [Act.eval]) (fun args w => by kernel_rfl) ?_
      refine (Oct.int_any g c (stk) y0 _ (HE0.out.below (Gn.below_drew (Below.refl _ _))).out (by omega)).mono ?_
      rintro e w1 ⟨rfl, ho, hs⟩
      have HE1 := Lib.hid (WrR.left HF.out (HE0.out.below (Gn.below_drew (Below.refl _ _))) ho hs)
      have HX1 := Lib.hid ((hs.far bx _ _ _ ((Gn.below_drew (Below.refl _ _)).block bx (Gn.heap_lt HX0.out) |>.trans HX0.out) HNO.out).trans ((Gn.below_drew (Below.refl _ _)).block bx (Gn.heap_lt HX0.out) |>.trans HX0.out))
      clear ho hs
      refine ⟨_, rfl, ?_⟩
      refine hK.out _ _ (cell_of_row _ _ 0 _ _ (0, 0) HX1.out) (fun hHeld => ?_)
      clear hK K hHeld
      try simp only [Act.put, List.getElem_toArray, List.getElem_cons_zero, List.getElem_cons_succ, List.setIfInBounds_toArray, List.set_cons_zero, List.set_cons_succ]
      refine wpAnyH_done (by kernel_rfl) ?_ _
      refine NoPanic.normal ?_
      go_upto_region 4 with fail
      refine wp_region_noPanic ?_
      refine wp_region_held_drew (S := (fun w : World => w.cell? ⟨bx, 1, none⟩ = some (.int .i64 y1))) (by kernel_rfl) ?_ (fun hHeld => ?_)
      · exact (cell_of_row _ _ 1 _ _ (0, 0) (((Gn.below_drew (Below.refl _ _)).block bx (Gn.heap_lt HX1.out)).trans HX1.out))
      conv in Array.replicate _ false => change #[false, false, false, false, false, false]
      refine wpAnyH_take (i := 0) (v := ?_) rfl (by kernel_rfl) (by kernel_rfl) (by kernel_rfl) (fun _ _ _ h => h) (Or.inl ⟨by rfl, ?_⟩) (by assumption) ?_
      rotate_left
      · intro w hSw
        try dsimp only at hSw
        go_simp
        try with_reducible rfl
      try simp only [Act.put, List.getElem_toArray, List.getElem_cons_zero, List.getElem_cons_succ, List.setIfInBounds_toArray, List.set_cons_zero, List.set_cons_succ]
      refine wpAnyH_take (i := 1) (v := ?_) rfl (by kernel_rfl) (by kernel_rfl) (by kernel_rfl) (fun _ _ _ h => h) (Or.inl ⟨by rfl, ?_⟩) (by assumption) ?_
      rotate_left
      · intro w hSw
        try dsimp only at hSw
        go_simp
        try with_reducible rfl
      try simp only [Act.put, List.getElem_toArray, List.getElem_cons_zero, List.getElem_cons_succ, List.setIfInBounds_toArray, List.set_cons_zero, List.set_cons_succ]
      refine wpAnyH_take (i := 2) (v := ?_) rfl (by kernel_rfl) (by kernel_rfl) (by kernel_rfl) (fun _ _ _ h => h) (Or.inl ⟨by rfl, ?_⟩) (by assumption) ?_
      rotate_left
      · intro w hSw
        try dsimp only at hSw
        go_simp
        try with_reducible rfl
      try simp only [Act.put, List.getElem_toArray, List.getElem_cons_zero, List.getElem_cons_succ, List.setIfInBounds_toArray, List.set_cons_zero, List.set_cons_succ]
      refine wpAnyH_take (i := 3) (v := ?_) rfl (by kernel_rfl) (by kernel_rfl) (by kernel_rfl) (fun _ _ _ h => h) (Or.inl ⟨by rfl, ?_⟩) (by assumption) ?_
      rotate_left
      · intro w hSw
        try dsimp only at hSw
        go_simp
        try with_reducible rfl
      try simp only [Act.put, List.getElem_toArray, List.getElem_cons_zero, List.getElem_cons_succ, List.setIfInBounds_toArray, List.set_cons_zero, List.set_cons_succ]
      refine wpAnyH_take (i := 4) (v := ?_) rfl (by kernel_rfl) (by kernel_rfl) (by kernel_rfl) (fun _ _ _ h => h) (Or.inl ⟨by rfl, ?_⟩) (by assumption) ?_
      rotate_left
      · intro w hSw
        try dsimp only at hSw
        go_simp
        try with_reducible rfl
      try simp only [Act.put, List.getElem_toArray, List.getElem_cons_zero, List.getElem_cons_succ, List.setIfInBounds_toArray, List.set_cons_zero, List.set_cons_succ]
      refine wpAnyH_ready (rs := [5]) (by kernel_rfl) (by simp) ?_
      refine AllReadyH.cons rfl (fun K hK => ?_) AllReadyH.nil
      refine step_call2 _ (by rfl) 28 (.tmp 22) (.tmp 24) _ (by rfl) (.pointer (some ⟨g, 0, none⟩)) (.int .i64 y1) (by simp [Act.eval]) (by simp [Act.eval]) (fun args w => by kernel_rfl) ?_
      refine (Oct.int_any g c (app stk (eInt y0)) y1 _ (HE1.out.below (Gn.below_drew (Below.refl _ _))).out (by omega)).mono ?_
      rintro e w2 ⟨rfl, ho, hs⟩
      have HE2 := Lib.hid (WrR.left HF.out (HE1.out.below (Gn.below_drew (Below.refl _ _))) ho hs)
      have HX2 := Lib.hid ((hs.far bx _ _ _ ((Gn.below_drew (Below.refl _ _)).block bx (Gn.heap_lt HX1.out) |>.trans HX1.out) HNO.out).trans ((Gn.below_drew (Below.refl _ _)).block bx (Gn.heap_lt HX1.out) |>.trans HX1.out))
      clear ho hs
      refine ⟨_, rfl, ?_⟩
      refine hK.out _ _ (cell_of_row _ _ 1 _ _ (0, 0) HX2.out) (fun hHeld => ?_)
      clear hK K hHeld
      try simp only [Act.put, List.getElem_toArray, List.getElem_cons_zero, List.getElem_cons_succ, List.setIfInBounds_toArray, List.set_cons_zero, List.set_cons_succ]
      refine wpAnyH_done (by kernel_rfl) ?_ _
      refine NoPanic.normal ?_
      go_upto_region 5 with fail
      refine wp_region_noPanic ?_
      refine wp_region_held_drew (S := (fun w : World => w.cell? ⟨bx, 2, none⟩ = some (.string y2))) (by kernel_rfl) ?_ (fun hHeld => ?_)
      · exact (cell_of_row _ _ 2 _ _ (0, 0) (((Gn.below_drew (Below.refl _ _)).block bx (Gn.heap_lt HX2.out)).trans HX2.out))
      conv in Array.replicate _ false => change #[false, false, false, false, false, false]
      refine wpAnyH_take (i := 0) (v := ?_) rfl (by kernel_rfl) (by kernel_rfl) (by kernel_rfl) (fun _ _ _ h => h) (Or.inl ⟨by rfl, ?_⟩) (by assumption) ?_
      rotate_left
      · intro w hSw
        try dsimp only at hSw
        go_simp
        try with_reducible rfl
      try simp only [Act.put, List.getElem_toArray, List.getElem_cons_zero, List.getElem_cons_succ, List.setIfInBounds_toArray, List.set_cons_zero, List.set_cons_succ]
      refine wpAnyH_take (i := 1) (v := ?_) rfl (by kernel_rfl) (by kernel_rfl) (by kernel_rfl) (fun _ _ _ h => h) (Or.inl ⟨by rfl, ?_⟩) (by assumption) ?_
      rotate_left
      · intro w hSw
        try dsimp only at hSw
        go_simp
        try with_reducible rfl
      try simp only [Act.put, List.getElem_toArray, List.getElem_cons_zero, List.getElem_cons_succ, List.setIfInBounds_toArray, List.set_cons_zero, List.set_cons_succ]
      refine wpAnyH_take (i := 2) (v := ?_) rfl (by kernel_rfl) (by kernel_rfl) (by kernel_rfl) (fun _ _ _ h => h) (Or.inl ⟨by rfl, ?_⟩) (by assumption) ?_
      rotate_left
      · intro w hSw
        try dsimp only at hSw
        go_simp
        try with_reducible rfl
      try simp only [Act.put, List.getElem_toArray, List.getElem_cons_zero, List.getElem_cons_succ, List.setIfInBounds_toArray, List.set_cons_zero, List.set_cons_succ]
      refine wpAnyH_take (i := 3) (v := ?_) rfl (by kernel_rfl) (by kernel_rfl) (by kernel_rfl) (fun _ _ _ h => h) (Or.inl ⟨by rfl, ?_⟩) (by assumption) ?_
      rotate_left
      · intro w hSw
        try dsimp only at hSw
        go_simp
        try with_reducible rfl
      try simp only [Act.put, List.getElem_toArray, List.getElem_cons_zero, List.getElem_cons_succ, List.setIfInBounds_toArray, List.set_cons_zero, List.set_cons_succ]
      refine wpAnyH_take (i := 4) (v := ?_) rfl (by kernel_rfl) (by kernel_rfl) (by kernel_rfl) (fun _ _ _ h => h) (Or.inl ⟨by rfl, ?_⟩) (by assumption) ?_
      rotate_left
      · intro w hSw
        try dsimp only at hSw
        go_simp
        try with_reducible rfl
      try simp only [Act.put, List.getElem_toArray, List.getElem_cons_zero, List.getElem_cons_succ, List.setIfInBounds_toArray, List.set_cons_zero, List.set_cons_succ]
      refine wpAnyH_ready (rs := [5]) (by kernel_rfl) (by simp) ?_
      refine AllReadyH.cons rfl (fun K hK => ?_) AllReadyH.nil
      refine step_call2 _ (by rfl) 95 (.tmp 28) (.tmp 30) _ (by rfl) (.pointer (some ⟨g, 0, none⟩)) (.string y2) (by simp [Act.eval]) (by simp [Act.eval]) (fun args w => by kernel_rfl) ?_
      refine (Oct.text_any g c (app (app stk (eInt y0)) (eInt y1)) y2 _ (HE2.out.below (Gn.below_drew (Below.refl _ _))).out (by omega)).mono ?_
      rintro e w3 ⟨rfl, ho, hs⟩
      have HE3 := Lib.hid (WrR.left HF.out (HE2.out.below (Gn.below_drew (Below.refl _ _))) ho hs)
      have HX3 := Lib.hid ((hs.far bx _ _ _ ((Gn.below_drew (Below.refl _ _)).block bx (Gn.heap_lt HX2.out) |>.trans HX2.out) HNO.out).trans ((Gn.below_drew (Below.refl _ _)).block bx (Gn.heap_lt HX2.out) |>.trans HX2.out))
      clear ho hs
      refine ⟨_, rfl, ?_⟩
      refine hK.out _ _ (cell_of_row _ _ 2 _ _ (0, 0) HX3.out) (fun hHeld => ?_)
      clear hK K hHeld
      try simp only [Act.put, List.getElem_toArray, List.getElem_cons_zero, List.getElem_cons_succ, List.setIfInBounds_toArray, List.set_cons_zero, List.set_cons_succ]
      refine wpAnyH_done (by kernel_rfl) ?_ _
      refine NoPanic.normal ?_
      go_wp2
      refine ⟨⟨k + 1, by go_num, by omega, by rw [HFT.out]; exact HE3.out⟩, by simp [intOf]; omega⟩
    · have hke : k = n := by omega
      subst hke
      have HTA := Lib.hid (show ks.take k = ks by rw [HN.out]; exact List.take_length)
      go_wp2
      go_end0
      refine ⟨rfl, ?_⟩
      have := HW.out
      rwa [HTA.out] at this
set_option maxHeartbeats 4000000 in
theorem wr_entries (C : WrC) (hC : WrFix C) (st : Option (List UInt8)) (w : World) (h : WrR C st w) (hp : Fit st) :
    Calls Tryd.prog 89 #[.pointer (some ⟨C.g, 0, none⟩), .pointer (some ⟨C.mb, 15, none⟩)] w (fun e w' => e = .returned (.tuple #[]) ∧ WrR C (C.m.ents.foldl eEnt (app st (eInt C.m.ents.length))) w') := by
  have hc : ∀ st w, WrR C st w → w.cell? ⟨C.mb, 15, none⟩ = some (.slice C.b C.m.ents.length C.cap2) := fun st w h => by
    rw [cell_of_row _ _ 15 _ _ (0, 0) h.msg]
    rfl
  have hen := wr_entry C hC
  have hlen : Oct.len st ≤ 1000000000000 := hp
  have hl2 := len_add st C.m.ents.length
  obtain ⟨W0, mb, g, c, m, ra, cap, rb, cap2⟩ := C
  dsimp only at *
  obtain ⟨n, hn⟩ : ∃ n, n = m.ents.length := ⟨_, rfl⟩
  rw [← hn] at hc hl2 ⊢
  have HF := Lib.hid hC
  have HR := Lib.hid h
  have HC := Lib.hid hc
  have HEN := Lib.hid hen
  clear h hc hp hC hn hen
  go_enter Tryd.func89, Tryd.ntmps89
  go_upto_region 0 with fail
  refine wp_region_noPanic ?_
  refine wp_region_held_drew (S := (fun w : World => w.cell? ⟨mb, 15, none⟩ = some (.slice rb n cap2))) (by kernel_rfl) ?_ (fun hHeld => ?_)
  · exact (HC.out _ _ (HR.out.below (Gn.below_drew (Below.refl _ _))))
  conv in Array.replicate _ false => change #[false, false, false, false, false, false, false, false]
  refine wpAnyH_take (i := 0) (v := ?_) rfl (by kernel_rfl) (by kernel_rfl) (by kernel_rfl) (fun _ _ _ h => h) (Or.inl ⟨by rfl, ?_⟩) (by assumption) ?_
  rotate_left
  · intro w hSw
    try dsimp only at hSw
    go_simp
    try with_reducible rfl
  try simp only [Act.put, List.getElem_toArray, List.getElem_cons_zero, List.getElem_cons_succ, List.setIfInBounds_toArray, List.set_cons_zero, List.set_cons_succ]
  refine wpAnyH_take (i := 1) (v := ?_) rfl (by kernel_rfl) (by kernel_rfl) (by kernel_rfl) (fun _ _ _ h => h) (Or.inl ⟨by rfl, ?_⟩) (by assumption) ?_
  rotate_left
  · intro w hSw
    try dsimp only at hSw
    go_simp
    try with_reducible rfl
  try simp only [Act.put, List.getElem_toArray, List.getElem_cons_zero, List.getElem_cons_succ, List.setIfInBounds_toArray, List.set_cons_zero, List.set_cons_succ]
  refine wpAnyH_take (i := 2) (v := ?_) rfl (by kernel_rfl) (by kernel_rfl) (by kernel_rfl) (fun _ _ _ h => h) (Or.inl ⟨by rfl, ?_⟩) (by assumption) ?_
  rotate_left
  · intro w hSw
    try dsimp only at hSw
    go_simp
    try with_reducible rfl
  try simp only [Act.put, List.getElem_toArray, List.getElem_cons_zero, List.getElem_cons_succ, List.setIfInBounds_toArray, List.set_cons_zero, List.set_cons_succ]
  refine wpAnyH_take (i := 3) (v := ?_) rfl (by kernel_rfl) (by kernel_rfl) (by kernel_rfl) (fun _ _ _ h => h) (Or.inl ⟨by rfl, ?_⟩) (by assumption) ?_
  rotate_left
  · intro w hSw
    try dsimp only at hSw
    go_simp
    try with_reducible rfl
  try simp only [Act.put, List.getElem_toArray, List.getElem_cons_zero, List.getElem_cons_succ, List.setIfInBounds_toArray, List.set_cons_zero, List.set_cons_succ]
  refine wpAnyH_take (i := 4) (v := ?_) rfl (by kernel_rfl) (by kernel_rfl) (by kernel_rfl) (fun _ _ _ h => h) (Or.inl ⟨by rfl, ?_⟩) (by assumption) ?_
  rotate_left
  · intro w hSw
    try dsimp only at hSw
    go_simp
    try with_reducible rfl
  try simp only [Act.put, List.getElem_toArray, List.getElem_cons_zero, List.getElem_cons_succ, List.setIfInBounds_toArray, List.set_cons_zero, List.set_cons_succ]
  refine wpAnyH_take (i := 5) (v := ?_) rfl (by kernel_rfl) (by kernel_rfl) (by kernel_rfl) (fun _ _ _ h => h) (Or.inl ⟨by rfl, ?_⟩) (by assumption) ?_
  rotate_left
  · intro w hSw
    try dsimp only at hSw
    go_simp
    try with_reducible rfl
  try simp only [Act.put, List.getElem_toArray, List.getElem_cons_zero, List.getElem_cons_succ, List.setIfInBounds_toArray, List.set_cons_zero, List.set_cons_succ]
  refine wpAnyH_take (i := 6) (v := ?_) rfl (by kernel_rfl) (by kernel_rfl) (by kernel_rfl) (fun _ _ _ h => h) (Or.inl ⟨by rfl, ?_⟩) (by assumption) ?_
  rotate_left
  · intro w hSw
    try dsimp only at hSw
    go_simp
    try with_reducible rfl
  try simp only [Act.put, List.getElem_toArray, List.getElem_cons_zero, List.getElem_cons_succ, List.setIfInBounds_toArray, List.set_cons_zero, List.set_cons_succ]
  refine wpAnyH_ready (rs := [7]) (by kernel_rfl) (by simp) ?_
  refine AllReadyH.cons rfl (fun K hK => ?_) AllReadyH.nil
  refine step_call2 _ (by rfl) 28 (.tmp 6) (.tmp 10) _ (by rfl) (.pointer (some ⟨g, 0, none⟩)) (.int .i64 n) (by simp [Act.eval]) (by simp [Act.eval]) (fun args w => by kernel_rfl) ?_
  refine (Oct.int_any g c st n _ (HR.out.below (Gn.below_drew (Below.refl _ _))).out (by omega)).mono ?_
  rintro e w2 ⟨rfl, ho, hs⟩
  have HR2 := Lib.hid (WrR.left HF.out (HR.out.below (Gn.below_drew (Below.refl _ _))) ho hs)
  clear ho hs
  refine ⟨_, rfl, ?_⟩
  refine hK.out _ _ (HC.out _ _ HR2.out) (fun hHeld => ?_)
  clear hK K hHeld
  try simp only [Act.put, List.getElem_toArray, List.getElem_cons_zero, List.getElem_cons_succ, List.setIfInBounds_toArray, List.set_cons_zero, List.set_cons_succ]
  refine wpAnyH_done (by kernel_rfl) ?_ _
  refine NoPanic.normal ?_
  go_wp2_with fail
  refine (HEN.out _ _ HR2.out (by omega)).mono ?_
  rintro e w3 ⟨rfl, hr3⟩
  have HR3 := Lib.hid hr3
  clear hr3
  go_wp2_with fail
  go_end0
  exact ⟨rfl, HR3.out⟩
theorem wr_mN (p : Addr) (args : Array Value) (w : World) : (callMethod (.iface 82 (.pointer (some p))) "primer/message.numbers" args).run Tryd.prog w = .ok (.enter 92 (#[.pointer (some p)] ++ args)) w := by kernel_rfl
theorem wr_zN (p : Addr) (w : World) : (nilAhead (Tryd.prog.types.size + Made.depth) 82 (.pointer (some p)) "primer/message.numbers").run Tryd.prog w = .ok (some false) w := by kernel_rfl
theorem wr_mK (p : Addr) (args : Array Value) (w : World) : (callMethod (.iface 82 (.pointer (some p))) "primer/message.known" args).run Tryd.prog w = .ok (.enter 91 (#[.pointer (some p)] ++ args)) w := by kernel_rfl
theorem wr_zK (p : Addr) (w : World) : (nilAhead (Tryd.prog.types.size + Made.depth) 82 (.pointer (some p)) "primer/message.known").run Tryd.prog w = .ok (some false) w := by kernel_rfl
theorem wr_mT (p : Addr) (args : Array Value) (w : World) : (callMethod (.iface 82 (.pointer (some p))) "primer/message.text" args).run Tryd.prog w = .ok (.enter 93 (#[.pointer (some p)] ++ args)) w := by kernel_rfl
theorem wr_zT (p : Addr) (w : World) : (nilAhead (Tryd.prog.types.size + Made.depth) 82 (.pointer (some p)) "primer/message.text").run Tryd.prog w = .ok (some false) w := by kernel_rfl
theorem wr_mY (p : Addr) (args : Array Value) (w : World) : (callMethod (.iface 82 (.pointer (some p))) "primer/message.yes" args).run Tryd.prog w = .ok (.enter 94 (#[.pointer (some p)] ++ args)) w := by kernel_rfl
theorem wr_zY (p : Addr) (w : World) : (nilAhead (Tryd.prog.types.size + Made.depth) 82 (.pointer (some p)) "primer/message.yes").run Tryd.prog w = .ok (some false) w := by kernel_rfl
theorem wr_mE (p : Addr) (args : Array Value) (w : World) : (callMethod (.iface 82 (.pointer (some p))) "primer/message.entry" args).run Tryd.prog w = .ok (.enter 90 (#[.pointer (some p)] ++ args)) w := by kernel_rfl
theorem wr_zE (p : Addr) (w : World) : (nilAhead (Tryd.prog.types.size + Made.depth) 82 (.pointer (some p)) "primer/message.entry").run Tryd.prog w = .ok (some false) w := by kernel_rfl
theorem wr_mM (p : Addr) (args : Array Value) (w : World) : (callMethod (.iface 82 (.pointer (some p))) "primer/message.entries" args).run Tryd.prog w = .ok (.enter 89 (#[.pointer (some p)] ++ args)) w := by kernel_rfl
theorem wr_zM (p : Addr) (w : World) : (nilAhead (Tryd.prog.types.size + Made.depth) 82 (.pointer (some p)) "primer/message.entries").run Tryd.prog w = .ok (some false) w := by kernel_rfl
theorem wr_ok (C : WrC) (hC : WrFix C) : VisOk (wrV C) where
  mN := fun args w => wr_mN _ args w
  zN := fun w => wr_zN _ w
  mK := fun args w => wr_mK _ args w
  zK := fun w => wr_zK _ w
  mT := fun args w => wr_mT _ args w
  zT := fun w => wr_zT _ w
  mY := fun args w => wr_mY _ args w
  zY := fun w => wr_zY _ w
  mE := fun args w => wr_mE _ args w
  zE := fun w => wr_zE _ w
  mM := fun args w => wr_mM _ args w
  zM := fun w => wr_zM _ w
  kd := fun s w h => cell_of_row _ _ 0 _ _ (0, 0) h.msg
  dn := fun s w w' h b => h.below b
  cN := fun s w a js h hp hq => wr_numbers C hC s w a js h hp hq
  cK := fun s w h hp => wr_known C hC s w h hp
  cT := fun s w j h hp => wr_text C hC s w j h hp
  cY := fun s w h hp => wr_yes C hC s w h hp
  cE := fun s w h hp => wr_entry C hC s w h (Nat.le_trans hp (by decide))
  cM := fun s w h hp => wr_entries C hC s w h hp
end Go.Proofs.YtgbpofgmomglfaaDoor.Ms
