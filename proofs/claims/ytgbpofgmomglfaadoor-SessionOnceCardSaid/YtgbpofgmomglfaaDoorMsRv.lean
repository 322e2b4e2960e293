/-
  Layer 23: the reader as a visitor.
-/
import Derived.Test.YtgbpofgmomglfaaDoorMsRe
namespace Go.Proofs.YtgbpofgmomglfaaDoor.Ms
open Oct (pb bs rng rInt rText rBool At Sep Gives eText eLen eInt app)
open Gn (Asks)
open Go.RowKit
set_option maxRecDepth 100000
set_option linter.unusedSimpArgs false
set_option linter.unusedVariables false
def entOk (y : Ent) : Prop := ¬ rng y.client ∧ ¬ rng y.number ∧ y.text.size ≤ 65536
set_option maxHeartbeats 4000000 in
theorem rd_entries (C : RdC) (hC : RdFix C) (x : Msg) (l : List UInt8) (w : World) (h : RdR C ⟨x, encA C.m .entries ++ l⟩ w) (hx0 : x.ents = []) (hn : C.m.ents.length ≤ 1000) (hj : ∀ y ∈ C.m.ents, entOk y) :
    Calls Tryd.prog 99 #[.pointer (some ⟨C.rb, 0, none⟩), .pointer (some ⟨C.mb, 15, none⟩)] w (fun e w' => e = .returned (.tuple #[]) ∧ RdR C ⟨{ x with ents := C.m.ents }, l⟩ w') := by
  obtain ⟨ks, hks⟩ : ∃ ks, ks = C.m.ents := ⟨_, rfl⟩
  have h : RdR C ⟨{ x with ents := [] }, pb C.m.ents.length ++ ((C.m.ents.map encE).flatten ++ l)⟩ w := by
    rw [← hx0, ← List.append_assoc]; exact h
  rw [← hks] at h hn hj ⊢
  obtain ⟨n, hnn⟩ : ∃ n, n = ks.length := ⟨_, rfl⟩
  rw [← hnn] at h hn
  have hT := Oct.int_in_any C.ib _ w h.ins
  rw [rInt_of (n : Int) _ (by unfold rng; omega)] at hT
  have x0 := cell_of_row _ _ 0 _ _ (0, 0) h.rd
  have HF := Lib.hid hC
  have HR := Lib.hid h
  have HJ := Lib.hid hj
  have HN := Lib.hid hnn
  have HEN := Lib.hid (rd_entry C hC)
  clear h hC hnn hj hks hx0
  obtain ⟨rb, hrb⟩ : ∃ x, x = C.rb := ⟨_, rfl⟩
  obtain ⟨ib, hib⟩ : ∃ x, x = C.ib := ⟨_, rfl⟩
  obtain ⟨mb, hmb⟩ : ∃ x, x = C.mb := ⟨_, rfl⟩
  rw [← hrb, ← hib] at x0
  rw [← hib] at hT
  rw [← hrb, ← hmb]
  have HT := Lib.hid hT
  have HIB := Lib.hid hib
  have HMB := Lib.hid hmb
  have HRB := Lib.hid hrb
  clear hrb hib hmb hT
  go_enter Tryd.func99, Tryd.ntmps99
  go_wp2_with fail
  refine HT.out.mono ?_
  rintro e w1 ⟨rfl, ha, hs⟩
  have HR1 := Lib.hid (RdR.sep HF.out HR.out (by rw [HIB.out] at ha; exact ha) (by rw [HIB.out] at hs; exact hs))
  clear ha hs x0
  have c2 : w1.cell? ⟨rb, 2, none⟩ = some (.bool false) := by rw [HRB.out]; exact cell_of_row _ _ 2 _ _ (0, 0) HR1.out.rd
  have hfz : w1.frozen? ⟨rb, 2, none⟩ = false := by rw [HRB.out]; exact Gn.frozen_row HR1.out.rd 2
  have hneg : decide ((n : Int) < 0) = false := decide_eq_false (by omega)
  have HR2 := Lib.hid (show RdR C ⟨{ x with ents := [] }, (ks.map encE).flatten ++ l⟩ (w1.setCell ⟨rb, 2, none⟩ (.bool false)) by
    have h := HR1.out
    obtain ⟨A, cap, B, cap2, h1, h2, h3⟩ := h.msg
    rw [HRB.out]
    have k : ∀ r, C.rb ≠ r → (w1.setCell ⟨C.rb, 2, none⟩ (.bool false)).heap[r]? = w1.heap[r]? := fun r hr => Gn.set_keep _ _ _ hr
    have key : ∀ (e : TypeId), e ≠ 123 → ∀ (r : Nat) (cs : Array Value) (fr : Nat × Nat), w1.heap[r]? = some (Obj.cells cs e fr) → (w1.setCell ⟨C.rb, 2, none⟩ (.bool false)).heap[r]? = w1.heap[r]? := fun e he r cs fr hr => k r (fun hh => by
      rw [← hh, h.rd] at hr
      injection hr with hr
      injection hr with _ h2
      exact he h2.symm)
    exact ⟨⟨A, cap, B, cap2, (k _ (fun e => HF.out.mr e.symm)).trans h1, own_same h2 (key _ (by decide)), own_same h3 (key _ (by decide))⟩, h.ins.block (k _ HF.out.ri), Gn.heap_set h.rd 2 _, h.bel.setCell HF.out.rb0 _, h.kind⟩)
  go_wp2_with fail
  go_loopw [16] (fun i wr => ∃ k : Nat, i = .int .i64 k ∧ k ≤ n ∧ RdR C ⟨{ x with ents := ks.take k }, ((ks.drop k).map encE).flatten ++ l⟩ wr) (fun i _ => n - (intOf i).toNat)
  case atStart => exact ⟨0, rfl, Nat.zero_le _, HR2.out⟩
  case round =>
    obtain ⟨k, rfl, hk, hw⟩ := hrel
    have HW := Lib.hid hw
    clear hw
    by_cases hlt : k < n
    · have hlt2 : (k : Int) < (n : Int) := by omega
      have hks : k < ks.length := by rw [← HN.out]; exact hlt
      have hjk := HJ.out _ (List.getElem_mem hks)
      have hft : ({ x with ents := ks.take (k + 1) } : Msg) = { ({ x with ents := ks.take k } : Msg) with ents := ks.take k ++ [ks[k]] } := by rw [List.take_succ_eq_append_getElem hks]
      rw [List.drop_eq_getElem_cons hks, List.map_cons, List.flatten_cons, List.append_assoc] at HW
      obtain ⟨y, hy⟩ : ∃ x, x = ks[k] := ⟨_, rfl⟩
      rw [← hy] at HW hft hjk
      obtain ⟨l2, hl2⟩ : ∃ l2, l2 = ((ks.drop (k + 1)).map encE).flatten ++ l := ⟨_, rfl⟩
      rw [← hl2] at HW
      obtain ⟨xk, hxk⟩ : ∃ s, s = ({ x with ents := ks.take k } : Msg) := ⟨_, rfl⟩
      have hxl : xk.ents.length ≤ 1000 := by rw [hxk]; show (ks.take k).length ≤ _; rw [List.length_take]; omega
      have hft2 : ({ x with ents := ks.take (k + 1) } : Msg) = { xk with ents := xk.ents ++ [y] } := by rw [hft, hxk]
      rw [← hxk] at HW
      have HE := Lib.hid (show Calls Tryd.prog 100 #[.pointer (some ⟨rb, 0, none⟩), .pointer (some ⟨mb, 15, none⟩)] wr (fun e w' => e = .returned (.tuple #[]) ∧ RdR C ⟨{ xk with ents := xk.ents ++ [y] }, l2⟩ w') by
        rw [HRB.out, HMB.out]
        exact HEN.out xk l2 wr y HW.out hxl hjk.1 hjk.2.1 hjk.2.2)
      have HER := Lib.hid (show Calls Tryd.prog 62 #[.pointer (some ⟨ib, 0, none⟩)] wr (fun e w' => e = .returned (.int .i64 0) ∧ wr = w') by
        rw [HIB.out]
        exact Oct.err_any C.ib _ wr HW.out.ins)
      have HFT := Lib.hid hft2
      have HL2 := Lib.hid hl2
      have x0 : wr.cell? ⟨rb, 0, none⟩ = some (.pointer (some ⟨ib, 0, none⟩)) := by rw [HRB.out, HIB.out]; exact cell_of_row _ _ 0 _ _ (0, 0) HW.out.rd
      clear hft hft2 hy hl2 hxk hxl hjk hlt
      go_wp2_with fail
      refine HER.out.mono ?_
      rintro e w3 ⟨rfl, rfl⟩
      go_wp2_with fail
      refine HE.out.mono ?_
      rintro e w4 ⟨rfl, hr4⟩
      have HR4 := Lib.hid hr4
      clear hr4 x0
      go_wp2
      refine ⟨⟨k + 1, by go_num, by omega, ?_⟩, by simp [intOf]; omega⟩
      rw [HFT.out, ← HL2.out]
      exact HR4.out
    · have hke : k = n := by omega
      subst hke
      have HTA := Lib.hid (show ks.take k = ks by rw [HN.out]; exact List.take_length)
      have HDR := Lib.hid (show ks.drop k = [] by rw [HN.out]; exact List.drop_length)
      go_wp2
      go_end0
      refine ⟨rfl, ?_⟩
      have := HW.out
      rw [HTA.out, HDR.out] at this
      exact this
/-- What the message that is to be read must keep. -/
structure RdOk (C : RdC) : Prop where
  num : ∀ j, isNum j = true → ¬ rng (numAt C.m j)
  t1 : C.m.text.size ≤ 65536
  t2 : C.m.state.size ≤ 65536
  kr : C.r = (C.m.known.length : Int) ∨ C.m.kind = 1
  kn : C.m.known.length ≤ 1000
  kj : ∀ n ∈ C.m.known, ¬ rng n
  en : C.m.ents.length ≤ 1000
  ej : ∀ y ∈ C.m.ents, entOk y
def rdP (C : RdC) (s : RdS) : Sh → Prop
  | .nums js => js.length ≤ 100 ∧ (∀ j ∈ js, isNum j = true) ∧ ∃ l, s.rest = encA C.m (.nums js) ++ l
  | .known => s.msg.known = [] ∧ C.m.kind ≠ 1 ∧ ∃ l, s.rest = encA C.m .known ++ l
  | .text j => (j = 11 ∨ j = 14) ∧ ∃ l, s.rest = encA C.m (.text j) ++ l
  | .yes => ∃ l, s.rest = encA C.m .yes ++ l
  | .entry => s.msg.ents = [] ∧ C.m.ents.length = 1 ∧ ∃ l, s.rest = encA C.m .entry ++ l
  | .entries => s.msg.ents = [] ∧ ∃ l, s.rest = encA C.m .entries ++ l
def rdV (C : RdC) : Vis RdS :=
  ⟨125, .pointer (some ⟨C.rb, 0, none⟩), .pointer (some ⟨C.rb, 0, none⟩), 102, 101, 103, 104, 100, 99, C.mb, C.m.kind, C.m.full, RdR C, rdP C, rdNext C.m⟩
theorem next_is (C : RdC) (s : RdS) (a : Sh) (l : List UInt8) (h : s.rest = encA C.m a ++ l) : rdNext C.m s a = ⟨setA C.m s.msg a, l⟩ := by
  unfold rdNext
  rw [h, List.drop_left]
theorem rd_at {C : RdC} {s : RdS} {w : World} {l : List UInt8} (h : RdR C s w) (e : s.rest = l) : RdR C ⟨s.msg, l⟩ w := by
  subst e; exact h
theorem rd_mN (p : Addr) (args : Array Value) (w : World) : (callMethod (.iface 125 (.pointer (some p))) "primer/message.numbers" args).run Tryd.prog w = .ok (.enter 102 (#[.pointer (some p)] ++ args)) w := by kernel_rfl
theorem rd_zN (p : Addr) (w : World) : (nilAhead (Tryd.prog.types.size + Made.depth) 125 (.pointer (some p)) "primer/message.numbers").run Tryd.prog w = .ok (some false) w := by kernel_rfl
theorem rd_mK (p : Addr) (args : Array Value) (w : World) : (callMethod (.iface 125 (.pointer (some p))) "primer/message.known" args).run Tryd.prog w = .ok (.enter 101 (#[.pointer (some p)] ++ args)) w := by kernel_rfl
theorem rd_zK (p : Addr) (w : World) : (nilAhead (Tryd.prog.types.size + Made.depth) 125 (.pointer (some p)) "primer/message.known").run Tryd.prog w = .ok (some false) w := by kernel_rfl
theorem rd_mT (p : Addr) (args : Array Value) (w : World) : (callMethod (.iface 125 (.pointer (some p))) "primer/message.text" args).run Tryd.prog w = .ok (.enter 103 (#[.pointer (some p)] ++ args)) w := by kernel_rfl
theorem rd_zT (p : Addr) (w : World) : (nilAhead (Tryd.prog.types.size + Made.depth) 125 (.pointer (some p)) "primer/message.text").run Tryd.prog w = .ok (some false) w := by kernel_rfl
theorem rd_mY (p : Addr) (args : Array Value) (w : World) : (callMethod (.iface 125 (.pointer (some p))) "primer/message.yes" args).run Tryd.prog w = .ok (.enter 104 (#[.pointer (some p)] ++ args)) w := by kernel_rfl
theorem rd_zY (p : Addr) (w : World) : (nilAhead (Tryd.prog.types.size + Made.depth) 125 (.pointer (some p)) "primer/message.yes").run Tryd.prog w = .ok (some false) w := by kernel_rfl
theorem rd_mE (p : Addr) (args : Array Value) (w : World) : (callMethod (.iface 125 (.pointer (some p))) "primer/message.entry" args).run Tryd.prog w = .ok (.enter 100 (#[.pointer (some p)] ++ args)) w := by kernel_rfl
theorem rd_zE (p : Addr) (w : World) : (nilAhead (Tryd.prog.types.size + Made.depth) 125 (.pointer (some p)) "primer/message.entry").run Tryd.prog w = .ok (some false) w := by kernel_rfl
theorem rd_mM (p : Addr) (args : Array Value) (w : World) : (callMethod (.iface 125 (.pointer (some p))) "primer/message.entries" args).run Tryd.prog w = .ok (.enter 99 (#[.pointer (some p)] ++ args)) w := by kernel_rfl
theorem rd_zM (p : Addr) (w : World) : (nilAhead (Tryd.prog.types.size + Made.depth) 125 (.pointer (some p)) "primer/message.entries").run Tryd.prog w = .ok (some false) w := by kernel_rfl
theorem rd_ok (C : RdC) (hC : RdFix C) (hO : RdOk C) : VisOk (rdV C) where
  mN := fun args w => rd_mN _ args w
  zN := fun w => rd_zN _ w
  mK := fun args w => rd_mK _ args w
  zK := fun w => rd_zK _ w
  mT := fun args w => rd_mT _ args w
  zT := fun w => rd_zT _ w
  mY := fun args w => rd_mY _ args w
  zY := fun w => rd_zY _ w
  mE := fun args w => rd_mE _ args w
  zE := fun w => rd_zE _ w
  mM := fun args w => rd_mM _ args w
  zM := fun w => rd_zM _ w
  kd := fun s w h => by
    obtain ⟨A, cap, B, cap2, h1, h2, h3⟩ := h.msg
    rw [show (rdV C).mb = C.mb from rfl, cell_of_row _ _ 0 _ _ (0, 0) h1]
    show some (Value.int .i64 s.msg.kind) = some (.int .i64 C.m.kind)
    rw [h.kind]
  dn := fun s w w' h b => RdR.below h b
  cN := fun s w a js h hp hq => by
    obtain ⟨h1, h2, l, hl⟩ := hp
    have := rd_numbers C hC s.msg l w a js (rd_at h hl) (fun j hj => ⟨h2 j hj, hO.num j (h2 j hj)⟩) h1 hq
    exact this.mono fun e w' hh => ⟨hh.1, by rw [show (rdV C).next s (.nums js) = rdNext C.m s (.nums js) from rfl, next_is C s _ l hl]; exact hh.2⟩
  cK := fun s w h hp => by
    obtain ⟨h1, h2, l, hl⟩ := hp
    have := rd_known C hC s.msg l w (rd_at h hl) h1 (hO.kr.resolve_right h2) hO.kn hO.kj
    exact this.mono fun e w' hh => ⟨hh.1, by rw [show (rdV C).next s .known = rdNext C.m s .known from rfl, next_is C s _ l hl]; exact hh.2⟩
  cT := fun s w j h hp => by
    obtain ⟨h1, l, hl⟩ := hp
    have := rd_text C hC s.msg l j w (rd_at h hl) h1 (by rcases h1 with rfl | rfl; exact hO.t1; exact hO.t2)
    exact this.mono fun e w' hh => ⟨hh.1, by rw [show (rdV C).next s (.text j) = rdNext C.m s (.text j) from rfl, next_is C s _ l hl]; exact hh.2⟩
  cY := fun s w h hp => by
    obtain ⟨l, hl⟩ := hp
    have := rd_yes C hC s.msg l w (rd_at h hl)
    exact this.mono fun e w' hh => ⟨hh.1, by rw [show (rdV C).next s .yes = rdNext C.m s .yes from rfl, next_is C s _ l hl]; exact hh.2⟩
  cE := fun s w h hp => by
    obtain ⟨h1, h2, l, hl⟩ := hp
    obtain ⟨y, hy⟩ : ∃ y, C.m.ents = [y] := List.length_eq_one_iff.1 h2
    have hb : encA C.m .entry = encE y := by show (C.m.ents.map encE).flatten = _; rw [hy]; simp
    have hok := hO.ej y (by rw [hy]; exact List.mem_singleton.2 rfl)
    have := rd_entry C hC s.msg l w y (rd_at h (hl.trans (by rw [hb]))) (by rw [h1]; exact Nat.zero_le _) hok.1 hok.2.1 hok.2.2
    refine this.mono fun e w' hh => ⟨hh.1, ?_⟩
    rw [show (rdV C).next s .entry = rdNext C.m s .entry from rfl, next_is C s _ l hl]
    have e2 := hh.2
    rw [h1, List.nil_append, ← hy] at e2
    exact e2
  cM := fun s w h hp => by
    obtain ⟨h1, l, hl⟩ := hp
    have := rd_entries C hC s.msg l w (rd_at h hl) h1 hO.en hO.ej
    exact this.mono fun e w' hh => ⟨hh.1, by rw [show (rdV C).next s .entries = rdNext C.m s .entries from rfl, next_is C s _ l hl]; exact hh.2⟩
end Go.Proofs.YtgbpofgmomglfaaDoor.Ms
