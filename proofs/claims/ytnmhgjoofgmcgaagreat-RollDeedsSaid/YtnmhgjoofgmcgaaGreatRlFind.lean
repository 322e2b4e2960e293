/-
  Layer 18: sort.Find; the places of members and classes.
-/
import Derived.Test.YtnmhgjoofgmcgaaGreatRlA
namespace Go.Proofs.YtnmhgjoofgmcgaaGreat.Rl
open Go.RowKit
open Gn (Asks)
set_option maxRecDepth 100000
set_option linter.unusedSimpArgs false
set_option linter.unusedVariables false
/-- What a search tells. -/
def Found (c : Nat → Int) (n : Nat) (W : World) (e : Ending) (w' : World) : Prop := ∃ (k : Nat) (f : Bool), e = .returned (.tuple #[.int .i64 k, .bool f]) ∧ Below W.heap.size W w' ∧ k ≤ n ∧ (0 < k → 0 < c (k - 1)) ∧ (k < n → c k ≤ 0) ∧ f = (decide (k < n) && decide (c k = 0))
set_option maxHeartbeats 4000000 in
theorem find_any (c : Nat → Int) (n : Nat) (hn : n ≤ 1048576) (g : FuncId) (cb : Array Value) (W : World) (hf : ∀ (w : World) (i : Nat), Below W.heap.size W w → i < n → Calls Tryz.prog g (#[.int .i64 i] ++ cb) w fun e w' => e = .returned (.int .i64 (c i)) ∧ Below w.heap.size w w')
    (eg : ∀ args w, (callFunc g args).run Tryz.prog w = .ok (.enter g args) w) :
    Calls Tryz.prog 84 #[.int .i64 n, .func (.func g) #[] cb] W (Found c n W) := by
  have HF := Lib.hid hf
  clear hf
  go_enter Tryz.func84, Tryz.ntmps84
  go_upto_block 0 with fail
  go_wp2_with fail
  go_loopw [4, 6] (fun i j wr => ∃ a b : Nat, i = .int .i64 a ∧ j = .int .i64 b ∧ a ≤ b ∧ b ≤ n ∧ (0 < a → 0 < c (a - 1)) ∧ (b < n → c b ≤ 0) ∧ Below W.heap.size W wr) (fun i j _ => (intOf j - intOf i).toNat)
  case atStart => exact ⟨0, n, rfl, rfl, Nat.zero_le _, Nat.le_refl _, fun h => absurd h (by omega), fun h => absurd h (by omega), Below.refl _ _⟩
  case round =>
    obtain ⟨a, b, rfl, rfl, hab, hbn, h1, h2, hb⟩ := hrel
    have H1 := Lib.hid h1
    have H2 := Lib.hid h2
    have HB := Lib.hid hb
    clear h1 h2 hb
    by_cases hlt : a < b
    · have hlt2 : (a : Int) < (b : Int) := by omega
      obtain ⟨h, hh⟩ : ∃ h, h = (a + b) / 2 := ⟨_, rfl⟩
      have hw1 : IntKind.i64.wrap ((a : Int) + (b : Int)) = ((a + b : Nat) : Int) := by rw [← Int.natCast_add]; exact IntWalk.i64_in _ (by omega)
      have hh2 : ((a : Int) + (b : Int)) / 2 = (h : Int) := by omega
      have hah : a ≤ h := by omega
      have hhb : h < b := by omega
      clear hw1 hh
      go_upto_region 4 with fail

      clear hh2
      go_wp2_with fail
      refine (HF.out _ h HB.out (by omega)).mono ?_
      rintro e w2 ⟨rfl, hb2⟩
      have HB2 := Lib.hid (HB.out.trans (hb2.mono HB.out.size))
      obtain ⟨ch, hch⟩ : ∃ ch, ch = c h := ⟨_, rfl⟩
      rw [← hch]
      have HCH := Lib.hid hch
      clear hb2 hch
      by_cases h0 : 0 < ch
      · have hw2 : IntKind.i64.wrap ((h : Int) + 1) = ((h + 1 : Nat) : Int) := by exact IntWalk.i64_in _ (by omega)
        go_wp2_with fail
        go_roundw
        case rel => exact ⟨h + 1, b, by go_num, rfl, by omega, by omega, fun _ => by rw [Nat.add_sub_cancel, ← HCH.out]; exact h0, H2.out, HB2.out⟩
        case measure => simp [intOf]; omega
      · go_wp2_with fail
        go_roundw
        case rel => exact ⟨a, h, rfl, rfl, by omega, by omega, H1.out, fun _ => by rw [← HCH.out]; omega, HB2.out⟩
        case measure => simp [intOf]; omega
    · have hlt2 : ¬ (a : Int) < (b : Int) := by omega
      have hae : a = b := by omega
      subst hae
      by_cases han : a < n
      · have han2 : (a : Int) < (n : Int) := by omega
        go_wp2_with fail
        refine (HF.out _ a HB.out han).mono ?_
        rintro e w2 ⟨rfl, hb2⟩
        have HB2 := Lib.hid (HB.out.trans (hb2.mono HB.out.size))
        have HFI := Lib.hid (show Found c n W (.returned (.tuple #[.int .i64 a, .bool (c a == 0)])) w2 from ⟨a, _, rfl, HB2.out, hbn, H1.out, H2.out, by rw [decide_eq_true han]; simp [Bool.beq_eq_decide_eq]⟩)
        clear hb2
        go_wp2_with fail
        go_ret2
        exact HFI.out
      · have han2 : ¬ (a : Int) < (n : Int) := by omega
        have HFI := Lib.hid (show Found c n W (.returned (.tuple #[.int .i64 a, .bool false])) wr from ⟨a, _, rfl, HB.out, hbn, H1.out, H2.out, by rw [decide_eq_false han]; rfl⟩)
        go_wp2_with fail
        go_ret2
        exact HFI.out
theorem cmp_quiet (a b : ByteArray) (W : World) : Calls Tryz.prog 86 #[.string a, .string b] W fun e w' => e = .returned (.int .i64 (cmpN a b)) ∧ ∃ q, w' = W.drewN q :=
  (Tryz.strings_Compare a b W).mono fun e w' h => ⟨h.1, 0, h.2⟩
set_option maxHeartbeats 4000000 in
theorem member_close (nm : ByteArray) (l : List Mem) (P : Nat → Prop) (W : World) (vm : Value) (nb rb i : Nat) (hm : RowAt encM P W l vm) (hnb : W.cell? ⟨nb, 0, none⟩ = some (.string nm)) (hrb : W.cell? ⟨rb, 0, none⟩ = some vm) (hi : i < l.length) (hn : l.length ≤ 1048576) :
    Calls Tryz.prog 85 #[.int .i64 i, .pointer (some ⟨nb, 0, none⟩), .pointer (some ⟨rb, 0, none⟩)] W fun e w' => e = .returned (.int .i64 (cmpN nm l[i].name)) ∧ Below W.heap.size W w' := by
  obtain ⟨A, cap, b, rfl, hcap, _, hA, hc⟩ := hm
  obtain ⟨rfl, hb, _⟩ := hA (by omega)
  have hc0 := hc i hi 0 (.string l[i].name) rfl
  rw [Nat.add_zero] at hc0
  obtain ⟨x, hx⟩ : ∃ x, x = l[i].name := ⟨_, rfl⟩
  rw [← hx] at hc0 ⊢
  obtain ⟨n, hn'⟩ : ∃ n, n = l.length := ⟨_, rfl⟩
  rw [← hn'] at hi hrb hn
  have hi2 : (i : Int) < (n : Int) := by omega
  have HQ := Lib.hid (fun W => cmp_quiet nm x W)
  have HX := Lib.hid hx
  clear hc hA hx hn' hcap
  go_enter Tryz.func85, Tryz.ntmps85
  go_wp2_with fail
  go_quiet ((go_at_call 86; exact Calls.quiet_of (HQ.out _)))
  go_wp2_with fail
  go_ret
  exact ⟨rfl, Gn.below_drewN (Below.refl _ _) _⟩
set_option maxHeartbeats 4000000 in
theorem class_close (nm : ByteArray) (l : List CRaw) (P : Nat → Prop) (W : World) (vm : Value) (nb rb i : Nat) (hm : RowAt encC P W l vm) (hnb : W.cell? ⟨nb, 0, none⟩ = some (.string nm)) (hrb : W.cell? ⟨rb, 1, none⟩ = some vm) (hi : i < l.length) (hn : l.length ≤ 1048576) :
    Calls Tryz.prog 87 #[.int .i64 i, .pointer (some ⟨nb, 0, none⟩), .pointer (some ⟨rb, 0, none⟩)] W fun e w' => e = .returned (.int .i64 (cmpN nm l[i].name)) ∧ Below W.heap.size W w' := by
  obtain ⟨A, cap, b, rfl, hcap, _, hA, hc⟩ := hm
  obtain ⟨rfl, hb, _⟩ := hA (by omega)
  have hc0 := hc i hi 0 (.string l[i].name) rfl
  rw [Nat.add_zero] at hc0
  obtain ⟨x, hx⟩ : ∃ x, x = l[i].name := ⟨_, rfl⟩
  rw [← hx] at hc0 ⊢
  obtain ⟨n, hn'⟩ : ∃ n, n = l.length := ⟨_, rfl⟩
  rw [← hn'] at hi hrb hn
  have hi2 : (i : Int) < (n : Int) := by omega
  have HQ := Lib.hid (fun W => cmp_quiet nm x W)
  have HX := Lib.hid hx
  clear hc hA hx hn' hcap
  go_enter Tryz.func87, Tryz.ntmps87
  go_wp2_with fail
  go_quiet ((go_at_call 86; exact Calls.quiet_of (HQ.out _)))
  go_wp2_with fail
  go_ret
  exact ⟨rfl, Gn.below_drewN (Below.refl _ _) _⟩
set_option maxHeartbeats 4000000 in
theorem member_any (r : Rol) (nm : ByteArray) (P : Nat → Prop) (W : World) (v : Value) (h : RlAt P W r v) (hs : Rising r.names) (hn : r.ms.length ≤ 4096) :
    Calls Tryz.prog 47 #[v, .string nm] W fun e w' => e = .returned (.tuple #[.int .i64 (plc r.names nm : Nat), .bool (hasN r.names nm)]) ∧ Below W.heap.size W w' := by
  obtain ⟨Am, cm, Ac, cc, rfl, hm, hc⟩ := h.form
  obtain ⟨n, hnn⟩ : ∃ n, n = r.ms.length := ⟨_, rfl⟩
  obtain ⟨m, hmm⟩ : ∃ m, m = r.cs.length := ⟨_, rfl⟩
  rw [← hnn] at hm hn ⊢
  rw [← hmm] at hc ⊢
  have HROW := Lib.hid hm
  obtain ⟨V, hV⟩ : ∃ V, V = (W.alloc (.cells #[.slice Am n cm, .slice Ac m cc] 27)).alloc (.cells #[.string nm] 9) := ⟨_, rfl⟩
  have hb : Below W.heap.size W V := by rw [hV]; exact ((Below.refl _ W).alloc (Nat.le_refl _) _).alloc (by simp) _
  have hx0 : V.heap[W.heap.size]? = some (.cells #[.slice Am n cm, .slice Ac m cc] 27 (0, 0)) := by rw [hV]; exact (heap_alloc_old _ _ (by simp)).trans (heap_alloc_new W _)
  have hx1 : V.heap[W.heap.size + 1]? = some (.cells #[.string nm] 9 (0, 0)) := by
    rw [hV]; have := heap_alloc_new (W.alloc (.cells #[.slice Am n cm, .slice Ac m cc] 27)) (.cells #[.string nm] 9); simpa using this
  have hfind := find_any (fun i => cmpN nm (r.names.getD i ⟨#[]⟩)) n (by omega) 85 #[.pointer (some ⟨W.heap.size + 1, 0, none⟩), .pointer (some ⟨W.heap.size, 0, none⟩)] V
    (fun w i b hi => by
      have hlen : r.names.length = n := by rw [hnn]; simp [Rol.names]
      have e1 : r.names.getD i ⟨#[]⟩ = (r.ms[i]'(by rw [← hnn]; exact hi)).name := by
        rw [List.getD_eq_getElem?_getD, List.getElem?_eq_getElem (by omega)]
        simp [Rol.names]
      have hh := member_close nm r.ms P w _ (W.heap.size + 1) W.heap.size i ((HROW.out.under hb).under b) (cell_of_row _ _ 0 _ _ (0, 0) ((b.block _ (Gn.heap_lt hx1)).trans hx1)) (cell_of_row _ _ 0 _ _ (0, 0) ((b.block _ (Gn.heap_lt hx0)).trans hx0)) (by rw [← hnn]; exact hi) (by rw [← hnn]; omega)
      rw [e1]
      exact hh)
    (enters_of Tryz.func85 (by kernel_rfl) rfl)
  have HFI := Lib.hid (hfind.mono fun e w' hh => show e = .returned (.tuple #[.int .i64 (plc r.names nm : Nat), .bool (hasN r.names nm)]) ∧ Below V.heap.size V w' from (by
    obtain ⟨k, f, rfl, hb9, hk, h1, h2, rfl⟩ := hh
    have hlen : r.names.length = n := by rw [hnn]; simp [Rol.names]
    have hg : ∀ i (hi : i < r.names.length), r.names.getD i ⟨#[]⟩ = r.names[i] := fun i hi => by rw [List.getD_eq_getElem?_getD, List.getElem?_eq_getElem hi]; rfl
    have hkp : k = plc r.names nm := plc_of _ _ _ hs (by omega) (fun h0 hk9 => by have := h1 h0; simp only [hg _ hk9] at this; exact this) (fun h0 => by have := h2 (by omega); simp only [hg _ h0] at this; exact this)
    have hmem := plc_mem r.names nm hs
    rw [← hkp] at hmem
    have hbool : (decide (k < n) && decide ((fun i => cmpN nm (r.names.getD i ⟨#[]⟩)) k = 0)) = hasN r.names nm := by
      rw [Bool.eq_iff_iff, hasN_iff, ← hmem]
      by_cases hkn : k < n
      · simp only [hkn, decide_true, Bool.true_and, hg k (by omega), decide_eq_true_iff]
        exact ⟨fun h => ⟨by omega, h⟩, fun ⟨_, h⟩ => h⟩
      · rw [decide_eq_false hkn, Bool.false_and]
        refine ⟨fun h => (by cases h), ?_⟩
        rintro ⟨h9, _⟩
        omega
    exact ⟨by rw [hbool, ← hkp], hb9⟩))
  have HV := Lib.hid hV
  have HB := Lib.hid hb
  have x0 := cell_of_row _ _ 0 _ _ (0, 0) hx0
  have x1 := cell_of_row _ _ 1 _ _ (0, 0) hx0
  obtain ⟨pp, hpp⟩ : ∃ pp, pp = plc r.names nm := ⟨_, rfl⟩
  obtain ⟨bb, hbb⟩ : ∃ bb, bb = hasN r.names nm := ⟨_, rfl⟩
  rw [← hpp, ← hbb] at HFI ⊢
  clear hV hb hx0 hx1 hfind hnn hmm hpp hbb hm hc h hs
  go_enter Tryz.func47, Tryz.ntmps47
  go_upto_region 1 with fail
  rw [← HV.out]
  go_wp2_with fail
  refine HFI.out.mono ?_
  rintro e w2 ⟨rfl, hb2⟩
  have HB2 := Lib.hid (HB.out.trans (hb2.mono HB.out.size))
  clear hb2
  go_wp2_with fail
  go_ret2
  exact ⟨rfl, HB2.out⟩
set_option maxHeartbeats 4000000 in
theorem class_any (r : Rol) (nm : ByteArray) (P : Nat → Prop) (W : World) (v : Value) (h : RlAt P W r v) (hs : Rising r.classes) (hn : r.cs.length ≤ 4096) :
    Calls Tryz.prog 48 #[v, .string nm] W fun e w' => e = .returned (.tuple #[.int .i64 (plc r.classes nm : Nat), .bool (hasN r.classes nm)]) ∧ Below W.heap.size W w' := by
  obtain ⟨Am, cm, Ac, cc, rfl, hm, hc⟩ := h.form
  obtain ⟨n, hnn⟩ : ∃ n, n = r.cs.length := ⟨_, rfl⟩
  obtain ⟨m, hmm⟩ : ∃ m, m = r.ms.length := ⟨_, rfl⟩
  obtain ⟨raws, hrow, hall⟩ := hc
  rw [← hmm] at hm ⊢
  rw [← hnn] at hrow hn ⊢
  have HROW := Lib.hid hrow
  have hrl : raws.length = n := hall.1.trans hnn.symm
  obtain ⟨V, hV⟩ : ∃ V, V = (W.alloc (.cells #[.slice Am m cm, .slice Ac n cc] 27)).alloc (.cells #[.string nm] 9) := ⟨_, rfl⟩
  have hb : Below W.heap.size W V := by rw [hV]; exact ((Below.refl _ W).alloc (Nat.le_refl _) _).alloc (by simp) _
  have hx0 : V.heap[W.heap.size]? = some (.cells #[.slice Am m cm, .slice Ac n cc] 27 (0, 0)) := by rw [hV]; exact (heap_alloc_old _ _ (by simp)).trans (heap_alloc_new W _)
  have hx1 : V.heap[W.heap.size + 1]? = some (.cells #[.string nm] 9 (0, 0)) := by
    rw [hV]; have := heap_alloc_new (W.alloc (.cells #[.slice Am m cm, .slice Ac n cc] 27)) (.cells #[.string nm] 9); simpa using this
  have hfind := find_any (fun i => cmpN nm (r.classes.getD i ⟨#[]⟩)) n (by omega) 87 #[.pointer (some ⟨W.heap.size + 1, 0, none⟩), .pointer (some ⟨W.heap.size, 0, none⟩)] V
    (fun w i b hi => by
      have hlen : r.classes.length = n := by rw [hnn]; simp [Rol.classes]
      have e1 : r.classes.getD i ⟨#[]⟩ = (raws[i]'(by rw [hrl]; exact hi)).name := by
        rw [List.getD_eq_getElem?_getD, List.getElem?_eq_getElem (by omega)]
        have := (hall.2 i (by rw [hrl]; exact hi) (by rw [← hnn]; exact hi)).1
        simpa [Rol.classes] using this.symm
      have hh := class_close nm raws P w _ (W.heap.size + 1) W.heap.size i ((HROW.out.under hb).under b) (cell_of_row _ _ 0 _ _ (0, 0) ((b.block _ (Gn.heap_lt hx1)).trans hx1)) (cell_of_row _ _ 1 _ _ (0, 0) ((b.block _ (Gn.heap_lt hx0)).trans hx0)) (by rw [hrl]; exact hi) (by rw [hrl]; omega)
      rw [e1]
      exact hh)
    (enters_of Tryz.func87 (by kernel_rfl) rfl)
  have HFI := Lib.hid (hfind.mono fun e w' hh => show e = .returned (.tuple #[.int .i64 (plc r.classes nm : Nat), .bool (hasN r.classes nm)]) ∧ Below V.heap.size V w' from (by
    obtain ⟨k, f, rfl, hb9, hk, h1, h2, rfl⟩ := hh
    have hlen : r.classes.length = n := by rw [hnn]; simp [Rol.classes]
    have hg : ∀ i (hi : i < r.classes.length), r.classes.getD i ⟨#[]⟩ = r.classes[i] := fun i hi => by rw [List.getD_eq_getElem?_getD, List.getElem?_eq_getElem hi]; rfl
    have hkp : k = plc r.classes nm := plc_of _ _ _ hs (by omega) (fun h0 hk9 => by have := h1 h0; simp only [hg _ hk9] at this; exact this) (fun h0 => by have := h2 (by omega); simp only [hg _ h0] at this; exact this)
    have hmem := plc_mem r.classes nm hs
    rw [← hkp] at hmem
    have hbool : (decide (k < n) && decide ((fun i => cmpN nm (r.classes.getD i ⟨#[]⟩)) k = 0)) = hasN r.classes nm := by
      rw [Bool.eq_iff_iff, hasN_iff, ← hmem]
      by_cases hkn : k < n
      · simp only [hkn, decide_true, Bool.true_and, hg k (by omega), decide_eq_true_iff]
        exact ⟨fun h => ⟨by omega, h⟩, fun ⟨_, h⟩ => h⟩
      · rw [decide_eq_false hkn, Bool.false_and]
        refine ⟨fun h => (by cases h), ?_⟩
        rintro ⟨h9, _⟩
        omega
    exact ⟨by rw [hbool, ← hkp], hb9⟩))
  have HV := Lib.hid hV
  have HB := Lib.hid hb
  have x0 := cell_of_row _ _ 0 _ _ (0, 0) hx0
  have x1 := cell_of_row _ _ 1 _ _ (0, 0) hx0
  obtain ⟨pp, hpp⟩ : ∃ pp, pp = plc r.classes nm := ⟨_, rfl⟩
  obtain ⟨bb, hbb⟩ : ∃ bb, bb = hasN r.classes nm := ⟨_, rfl⟩
  rw [← hpp, ← hbb] at HFI ⊢
  clear hV hb hx0 hx1 hfind hnn hmm hpp hbb hm hrow hall hrl h hs
  go_enter Tryz.func48, Tryz.ntmps48
  go_upto_region 1 with fail
  rw [← HV.out]
  go_wp2_with fail
  refine HFI.out.mono ?_
  rintro e w2 ⟨rfl, hb2⟩
  have HB2 := Lib.hid (HB.out.trans (hb2.mono HB.out.size))
  clear hb2
  go_wp2_with fail
  go_ret2
  exact ⟨rfl, HB2.out⟩
end Go.Proofs.YtnmhgjoofgmcgaaGreat.Rl
