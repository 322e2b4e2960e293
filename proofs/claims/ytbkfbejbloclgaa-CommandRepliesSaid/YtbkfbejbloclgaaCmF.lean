/-
  Layer 21: Put, the document's.
-/
import Derived.Test.YtbkfbejbloclgaaCmD
import Derived.Test.YtbkfbejbloclgaaCmE
import Derived.Test.YtbkfbejbloclgaaLooseD
namespace Go.Proofs.Ytbkfbejbloclgaa.Cm
open Go.RowKit
open Oct (pb bs Strs)
open Lx (goodB)
open Gn (Asks)
set_option maxRecDepth 100000
set_option linter.unusedSimpArgs false
set_option linter.unusedVariables false
def qNums (ns : List Int) : Nat → List UInt8
  | 0 => []
  | k + 1 => qNums ns k ++ pb (ns.getD k 0)
theorem qNums_len (ns : List Int) (k : Nat) : (qNums ns k).length ≤ 8 * k := by
  induction k with
  | zero => simp [qNums]
  | succ k ih =>
    have := Oct.pb_len (ns.getD k 0)
    simp only [qNums, List.length_append]
    omega
theorem qText_len (s : ByteArray) : (qText s).length ≤ 8 + s.size := by
  have := Oct.pb_len (s.size : Int)
  have h : (bs s).length = s.size := rfl
  unfold qText
  rw [List.length_append, h]
  omega
theorem qStrs_len (l : List ByteArray) (m : Nat) (h : ∀ s ∈ l, s.size ≤ m) : (qStrs l).length ≤ l.length * (8 + m) := by
  induction l with
  | nil => simp [qStrs]
  | cons x l ih =>
    have h1 := ih (fun s hs => h s (List.mem_cons_of_mem _ hs))
    have h2 := qText_len x
    have h3 := h x (List.mem_cons_self ..)
    have h4 : (l.length + 1) * (8 + m) = l.length * (8 + m) + (8 + m) := Nat.succ_mul _ _
    unfold qStrs at *
    rw [List.map_cons, List.flatten_cons, List.length_append, List.length_cons, h4]
    omega
theorem qTexts_len (l : List ByteArray) (m : Nat) (h : ∀ s ∈ l, s.size ≤ m) : (qTexts l).length ≤ 8 + l.length * (8 + m) := by
  have h1 := qStrs_len l m h
  have h2 := Oct.pb_len (l.length : Int)
  unfold qTexts
  rw [List.length_append]
  omega
def qPre (c : Cmd) : List UInt8 := pb c.kind ++ qText c.who ++ qText c.nm ++ qText c.oth ++ qText c.txt ++ qTexts c.word
theorem qCmd_is (c : Cmd) : qCmd c = qPre c ++ qNums [c.n0, c.n1, c.n2, c.n3] 4 := by
  unfold qCmd qPre
  simp only [qNums, List.getD_cons_zero, List.getD_cons_succ, List.append_assoc, List.nil_append]
theorem qPre_len (c : Cmd) (h : GoodC c) : (qPre c).length ≤ 70000 := by
  have h1 := Oct.pb_len c.kind
  have h2 := qText_len c.who
  have h3 := qText_len c.nm
  have h4 := qText_len c.oth
  have h5 := qText_len c.txt
  have h6 := qTexts_len c.word 16 h.word
  have e2 := goodB_size h.who
  have e3 := maybeB_size h.nm
  have e4 := maybeB_size h.oth
  have e5 := h.txt
  have e6 := h.len
  unfold qPre
  simp only [List.length_append]
  omega
set_option maxHeartbeats 8000000 in
theorem rput_any (kind : Int) (who nm oth txt : ByteArray) (word : List ByteArray) (n0 n1 n2 n3 : Int) (a : Option Addr) (n cap : Nat) (w : World) (hn : word.length = n) (h : Strs w a n word) (h1 : who.size ≤ 9223372036854775807) (h2 : nm.size ≤ 9223372036854775807) (h3 : oth.size ≤ 9223372036854775807) (h4 : txt.size ≤ 9223372036854775807) (h5 : n ≤ 9223372036854775807) :
    Calls Try.prog 13 #[.agg #[.int .i64 kind, .string who, .string nm, .string oth, .string txt, .slice a n cap, .int .i64 n0, .int .i64 n1, .int .i64 n2, .int .i64 n3]] w fun e w' => e = .returned (.string (mkS (putC ⟨kind, who, nm, oth, txt, word, n0, n1, n2, n3⟩))) ∧ Below w.heap.size w w' := by
  obtain ⟨c0, hc0⟩ : ∃ c, c = (⟨kind, who, nm, oth, txt, word, n0, n1, n2, n3⟩ : Cmd) := ⟨_, rfl⟩
  obtain ⟨V, hV⟩ : ∃ V, V = w.alloc (.cells #[.int .i64 kind, .string who, .string nm, .string oth, .string txt, .slice a n cap, .int .i64 n0, .int .i64 n1, .int .i64 n2, .int .i64 n3] 29) := ⟨_, rfl⟩
  have hb : Below w.heap.size w V := by rw [hV]; exact (Below.refl _ w).alloc (Nat.le_refl _) _
  have hx : V.heap[w.heap.size]? = some (.cells #[.int .i64 kind, .string who, .string nm, .string oth, .string txt, .slice a n cap, .int .i64 n0, .int .i64 n1, .int .i64 n2, .int .i64 n3] 29 (0, 0)) := by rw [hV]; exact heap_alloc_new w _
  have hS := Strs.under h hb
  have HG := Lib.hid (rgood_any kind who nm oth txt word n0 n1 n2 n3 a n cap V hn hS h1 h2 h3 h4 h5)
  rw [← hc0] at HG ⊢
  obtain ⟨q, hq⟩ : ∃ q, q = goodC c0 := ⟨_, rfl⟩
  rw [← hq] at HG
  obtain ⟨res, hres⟩ : ∃ r, r = mkS (putC c0) := ⟨_, rfl⟩
  rw [← hres]
  have x0 := cell_of_row _ _ 0 _ _ (0, 0) hx
  have x1 := cell_of_row _ _ 1 _ _ (0, 0) hx
  have x2 := cell_of_row _ _ 2 _ _ (0, 0) hx
  have x3 := cell_of_row _ _ 3 _ _ (0, 0) hx
  have x4 := cell_of_row _ _ 4 _ _ (0, 0) hx
  have x5 := cell_of_row _ _ 5 _ _ (0, 0) hx
  have x6 := cell_of_row _ _ 6 _ _ (0, 0) hx
  have x7 := cell_of_row _ _ 7 _ _ (0, 0) hx
  have x8 := cell_of_row _ _ 8 _ _ (0, 0) hx
  have x9 := cell_of_row _ _ 9 _ _ (0, 0) hx
  have HX := Lib.hid hx
  have HS := Lib.hid hS
  have HB := Lib.hid hb
  have HV := Lib.hid hV
  have HR := Lib.hid hres
  have HQ := Lib.hid hq
  have HC0 := Lib.hid hc0
  have HN := Lib.hid hn
  clear hres hq hV hb hx hS h hc0 hn
  cases q with
  | false =>
    have HF := Lib.hid (show res = mkS [] by rw [HR.out]; unfold putC; rw [← HQ.out]; rfl)
    go_enter Try.func13, Try.ntmps13
    go_upto_region 1 with fail
    rw [← HV.out]
    go_wp2_with fail
    refine HG.out.mono ?_
    rintro e w1 ⟨rfl, hb1⟩
    have HB1 := Lib.hid hb1
    clear hb1
    go_wp2_with fail
    go_ret
    exact ⟨by rw [HF.out]; rfl, HB.out.trans (HB1.out.mono HB.out.size)⟩
  | true =>
    have hgood := (goodC_iff c0).1 HQ.out.symm
    have hpl := qPre_len c0 hgood
    have HF := Lib.hid (show res = mkS (qPre c0 ++ qNums [n0, n1, n2, n3] 4) by rw [HR.out]; unfold putC; rw [if_pos HQ.out.symm, qCmd_is, HC0.out])
    rw [HC0.out] at hgood
    obtain ⟨x0s, e0⟩ : ∃ x, x = mkS (pb kind) := ⟨_, rfl⟩
    obtain ⟨x1s, e1⟩ : ∃ x, x = mkS (qText who) := ⟨_, rfl⟩
    obtain ⟨x2s, e2⟩ : ∃ x, x = mkS (qText nm) := ⟨_, rfl⟩
    obtain ⟨x3s, e3⟩ : ∃ x, x = mkS (qText oth) := ⟨_, rfl⟩
    obtain ⟨x4s, e4⟩ : ∃ x, x = mkS (qText txt) := ⟨_, rfl⟩
    obtain ⟨x5s, e5⟩ : ∃ x, x = mkS (qTexts word) := ⟨_, rfl⟩
    have l0 : x0s.size ≤ 8 := by rw [e0, mkS_size]; exact Oct.pb_len _
    have l1 : x1s.size ≤ 40 := by have := qText_len who; have := goodB_size hgood.who; rw [e1, mkS_size]; dsimp only at *; omega
    have l2 : x2s.size ≤ 40 := by have := qText_len nm; have := maybeB_size hgood.nm; rw [e2, mkS_size]; dsimp only at *; omega
    have l3 : x3s.size ≤ 40 := by have := qText_len oth; have := maybeB_size hgood.oth; rw [e3, mkS_size]; dsimp only at *; omega
    have l4 : x4s.size ≤ 65544 := by have := qText_len txt; have := hgood.txt; rw [e4, mkS_size]; dsimp only at *; omega
    have l5 : x5s.size ≤ 2000 := by have := qTexts_len word 16 hgood.word; have := hgood.len; rw [e5, mkS_size]; dsimp only at *; omega
    have hBIG : BIG = 9223372036854775807 := rfl
    have HC0c := Lib.hid (fun w => show Calls Try.prog 35 #[.int .i64 kind] w fun e w' => e = .returned (.string x0s) ∧ Below w.heap.size w w' by rw [e0]; exact Oct.rput_any kind w)
    have HC1c := Lib.hid (fun w => show Calls Try.prog 36 #[.string who] w fun e w' => e = .returned (.string x1s) ∧ Below w.heap.size w w' by rw [e1]; exact rtext_any who (by rw [e1, mkS_size] at l1; omega) w)
    have HC2c := Lib.hid (fun w => show Calls Try.prog 36 #[.string nm] w fun e w' => e = .returned (.string x2s) ∧ Below w.heap.size w w' by rw [e2]; exact rtext_any nm (by rw [e2, mkS_size] at l2; omega) w)
    have HC3c := Lib.hid (fun w => show Calls Try.prog 36 #[.string oth] w fun e w' => e = .returned (.string x3s) ∧ Below w.heap.size w w' by rw [e3]; exact rtext_any oth (by rw [e3, mkS_size] at l3; omega) w)
    have HC4c := Lib.hid (fun w => show Calls Try.prog 36 #[.string txt] w fun e w' => e = .returned (.string x4s) ∧ Below w.heap.size w w' by rw [e4]; exact rtext_any txt (by rw [e4, mkS_size] at l4; omega) w)
    have HC5c := Lib.hid (fun w (hw : Strs w a n word) => show Calls Try.prog 37 #[.slice a n cap] w fun e w' => e = .returned (.string x5s) ∧ Below w.heap.size w w' by rw [e5]; exact rtexts_any a n cap word w hw (by rw [e5, mkS_size] at l5; omega) (by have := hgood.len; rw [← HN.out]; dsimp only at this; omega))
    have HPRE := Lib.hid (show x0s ++ x1s ++ x2s ++ x3s ++ x4s ++ x5s = mkS (qPre c0) by rw [e0, e1, e2, e3, e4, e5, mkS_add, mkS_add, mkS_add, mkS_add, mkS_add, HC0.out]; rfl)
    have a1 : ¬ 9223372036854775807 < x0s.size + x1s.size := by omega
    have a2 : ¬ 9223372036854775807 < x0s.size + x1s.size + x2s.size := by omega
    have a3 : ¬ 9223372036854775807 < x0s.size + x1s.size + x2s.size + x3s.size := by omega
    have a4 : ¬ 9223372036854775807 < x0s.size + x1s.size + x2s.size + x3s.size + x4s.size := by omega
    have a5 : ¬ 9223372036854775807 < x0s.size + x1s.size + x2s.size + x3s.size + x4s.size + x5s.size := by omega
    have HPL := Lib.hid hpl
    clear e0 e1 e2 e3 e4 e5 l0 l1 l2 l3 l4 l5 hBIG hgood hpl
    go_enter Try.func13, Try.ntmps13
    go_upto_region 1 with fail
    rw [← HV.out]
    go_wp2_with fail
    refine HG.out.mono ?_
    rintro e w1 ⟨rfl, hb1⟩
    have HB1 := Lib.hid hb1
    have HCE := Lib.hid (fun (w' : World) (b9 : Below w1.heap.size w1 w') => show w'.cell? ⟨w.heap.size, 0, none⟩ = some (.int .i64 kind) ∧ w'.cell? ⟨w.heap.size, 1, none⟩ = some (.string who) ∧ w'.cell? ⟨w.heap.size, 2, none⟩ = some (.string nm) ∧ w'.cell? ⟨w.heap.size, 3, none⟩ = some (.string oth) ∧ w'.cell? ⟨w.heap.size, 4, none⟩ = some (.string txt) ∧ w'.cell? ⟨w.heap.size, 5, none⟩ = some (.slice a n cap) by
      have hv := (HB1.out.trans (b9.mono HB1.out.size)).block _ (Gn.heap_lt HX.out)
      exact ⟨cell_of_row _ _ 0 _ _ (0, 0) (hv.trans HX.out), cell_of_row _ _ 1 _ _ (0, 0) (hv.trans HX.out), cell_of_row _ _ 2 _ _ (0, 0) (hv.trans HX.out), cell_of_row _ _ 3 _ _ (0, 0) (hv.trans HX.out), cell_of_row _ _ 4 _ _ (0, 0) (hv.trans HX.out), cell_of_row _ _ 5 _ _ (0, 0) (hv.trans HX.out)⟩)
    clear hb1
    go_upto_region 3 with fail
    clear x0 x1 x2 x3 x4 x5 x6 x7 x8 x9
    refine LooseD.region_loose (fun w9 => Below w1.heap.size w1 w9) _ _ (by kernel_rfl) (by kernel_rfl)
      (LooseD.waits (D := [[], [], [], [], [], [], [], [], [], [], [], [], [], [], [], [], [], [], [], [], [], [], [], []]) (by kernel_rfl))
      (LooseD.stays (ts := [none, none, some (.is (.string x0s)), none, none, some (.is (.string x1s)), none, none, none, some (.is (.string x2s)), none, none, none, some (.is (.string x3s)), none, none, none, some (.is (.string x4s)), none, none, none, some (.is (.string x5s)), none, none]) (fun w w' h b => h.trans (b.mono h.size)) (.none (.none (.is (.none (.none (.is (.none (.none (.none (.is (.none (.none (.none (.is (.none (.none (.none (.is (.none (.none (.none (.is (.none (.none .nil)))))))))))))))))))))))))
      (Gn.below_drew (Below.refl _ _)) ?_
    refine LooseD.reads (.pointer (some ⟨w.heap.size, 0, none⟩)) rfl rfl ?_ ?_
    · intro w9 hw
      obtain ⟨y0, y1, y2, y3, y4, y5⟩ := HCE.out w9 hw
      clear hw
      go_simp
    try simp only [Act.put, List.setIfInBounds_toArray, List.set_cons_zero, List.set_cons_succ]
    refine LooseD.reads (.int .i64 kind) rfl rfl ?_ ?_
    · intro w9 hw
      obtain ⟨y0, y1, y2, y3, y4, y5⟩ := HCE.out w9 hw
      clear hw
      go_simp
    try simp only [Act.put, List.setIfInBounds_toArray, List.set_cons_zero, List.set_cons_succ]
    refine LooseD.gives (.string x0s) 35 #[.int .i64 kind] rfl rfl ?_ (fun w9 hw hH => HC0c.out w9) ?_
    · intro w9 hw
      clear hw
      go_simp
    try simp only [Act.put, List.setIfInBounds_toArray, List.set_cons_zero, List.set_cons_succ]
    refine LooseD.reads (.pointer (some ⟨w.heap.size, 1, none⟩)) rfl rfl ?_ ?_
    · intro w9 hw
      obtain ⟨y0, y1, y2, y3, y4, y5⟩ := HCE.out w9 hw
      clear hw
      go_simp
    try simp only [Act.put, List.setIfInBounds_toArray, List.set_cons_zero, List.set_cons_succ]
    refine LooseD.reads (.string who) rfl rfl ?_ ?_
    · intro w9 hw
      obtain ⟨y0, y1, y2, y3, y4, y5⟩ := HCE.out w9 hw
      clear hw
      go_simp
    try simp only [Act.put, List.setIfInBounds_toArray, List.set_cons_zero, List.set_cons_succ]
    refine LooseD.gives (.string x1s) 36 #[.string who] rfl rfl ?_ (fun w9 hw hH => HC1c.out w9) ?_
    · intro w9 hw
      clear hw
      go_simp
    try simp only [Act.put, List.setIfInBounds_toArray, List.set_cons_zero, List.set_cons_succ]
    refine LooseD.reads (.string (x0s ++ x1s)) rfl rfl ?_ ?_
    · intro w9 hw
      obtain ⟨y0, y1, y2, y3, y4, y5⟩ := HCE.out w9 hw
      clear hw
      go_simp
    try simp only [Act.put, List.setIfInBounds_toArray, List.set_cons_zero, List.set_cons_succ]
    refine LooseD.reads (.pointer (some ⟨w.heap.size, 2, none⟩)) rfl rfl ?_ ?_
    · intro w9 hw
      obtain ⟨y0, y1, y2, y3, y4, y5⟩ := HCE.out w9 hw
      clear hw
      go_simp
    try simp only [Act.put, List.setIfInBounds_toArray, List.set_cons_zero, List.set_cons_succ]
    refine LooseD.reads (.string nm) rfl rfl ?_ ?_
    · intro w9 hw
      obtain ⟨y0, y1, y2, y3, y4, y5⟩ := HCE.out w9 hw
      clear hw
      go_simp
    try simp only [Act.put, List.setIfInBounds_toArray, List.set_cons_zero, List.set_cons_succ]
    refine LooseD.gives (.string x2s) 36 #[.string nm] rfl rfl ?_ (fun w9 hw hH => HC2c.out w9) ?_
    · intro w9 hw
      clear hw
      go_simp
    try simp only [Act.put, List.setIfInBounds_toArray, List.set_cons_zero, List.set_cons_succ]
    refine LooseD.reads (.string (x0s ++ x1s ++ x2s)) rfl rfl ?_ ?_
    · intro w9 hw
      obtain ⟨y0, y1, y2, y3, y4, y5⟩ := HCE.out w9 hw
      clear hw
      go_simp
    try simp only [Act.put, List.setIfInBounds_toArray, List.set_cons_zero, List.set_cons_succ]
    refine LooseD.reads (.pointer (some ⟨w.heap.size, 3, none⟩)) rfl rfl ?_ ?_
    · intro w9 hw
      obtain ⟨y0, y1, y2, y3, y4, y5⟩ := HCE.out w9 hw
      clear hw
      go_simp
    try simp only [Act.put, List.setIfInBounds_toArray, List.set_cons_zero, List.set_cons_succ]
    refine LooseD.reads (.string oth) rfl rfl ?_ ?_
    · intro w9 hw
      obtain ⟨y0, y1, y2, y3, y4, y5⟩ := HCE.out w9 hw
      clear hw
      go_simp
    try simp only [Act.put, List.setIfInBounds_toArray, List.set_cons_zero, List.set_cons_succ]
    refine LooseD.gives (.string x3s) 36 #[.string oth] rfl rfl ?_ (fun w9 hw hH => HC3c.out w9) ?_
    · intro w9 hw
      clear hw
      go_simp
    try simp only [Act.put, List.setIfInBounds_toArray, List.set_cons_zero, List.set_cons_succ]
    refine LooseD.reads (.string (x0s ++ x1s ++ x2s ++ x3s)) rfl rfl ?_ ?_
    · intro w9 hw
      obtain ⟨y0, y1, y2, y3, y4, y5⟩ := HCE.out w9 hw
      clear hw
      go_simp
    try simp only [Act.put, List.setIfInBounds_toArray, List.set_cons_zero, List.set_cons_succ]
    refine LooseD.reads (.pointer (some ⟨w.heap.size, 4, none⟩)) rfl rfl ?_ ?_
    · intro w9 hw
      obtain ⟨y0, y1, y2, y3, y4, y5⟩ := HCE.out w9 hw
      clear hw
      go_simp
    try simp only [Act.put, List.setIfInBounds_toArray, List.set_cons_zero, List.set_cons_succ]
    refine LooseD.reads (.string txt) rfl rfl ?_ ?_
    · intro w9 hw
      obtain ⟨y0, y1, y2, y3, y4, y5⟩ := HCE.out w9 hw
      clear hw
      go_simp
    try simp only [Act.put, List.setIfInBounds_toArray, List.set_cons_zero, List.set_cons_succ]
    refine LooseD.gives (.string x4s) 36 #[.string txt] rfl rfl ?_ (fun w9 hw hH => HC4c.out w9) ?_
    · intro w9 hw
      clear hw
      go_simp
    try simp only [Act.put, List.setIfInBounds_toArray, List.set_cons_zero, List.set_cons_succ]
    refine LooseD.reads (.string (x0s ++ x1s ++ x2s ++ x3s ++ x4s)) rfl rfl ?_ ?_
    · intro w9 hw
      obtain ⟨y0, y1, y2, y3, y4, y5⟩ := HCE.out w9 hw
      clear hw
      go_simp
    try simp only [Act.put, List.setIfInBounds_toArray, List.set_cons_zero, List.set_cons_succ]
    refine LooseD.reads (.pointer (some ⟨w.heap.size, 5, none⟩)) rfl rfl ?_ ?_
    · intro w9 hw
      obtain ⟨y0, y1, y2, y3, y4, y5⟩ := HCE.out w9 hw
      clear hw
      go_simp
    try simp only [Act.put, List.setIfInBounds_toArray, List.set_cons_zero, List.set_cons_succ]
    refine LooseD.reads (.slice a n cap) rfl rfl ?_ ?_
    · intro w9 hw
      obtain ⟨y0, y1, y2, y3, y4, y5⟩ := HCE.out w9 hw
      clear hw
      go_simp
    try simp only [Act.put, List.setIfInBounds_toArray, List.set_cons_zero, List.set_cons_succ]
    refine LooseD.gives (.string x5s) 37 #[.slice a n cap] rfl rfl ?_ (fun w9 hw hH => HC5c.out w9 (Strs.under (Strs.under HS.out HB1.out) hw)) ?_
    · intro w9 hw
      clear hw
      go_simp
    try simp only [Act.put, List.setIfInBounds_toArray, List.set_cons_zero, List.set_cons_succ]
    refine LooseD.reads (.string (x0s ++ x1s ++ x2s ++ x3s ++ x4s ++ x5s)) rfl rfl ?_ ?_
    · intro w9 hw
      obtain ⟨y0, y1, y2, y3, y4, y5⟩ := HCE.out w9 hw
      clear hw
      go_simp
    try simp only [Act.put, List.setIfInBounds_toArray, List.set_cons_zero, List.set_cons_succ]
    refine LooseD.reads (.string (x0s ++ x1s ++ x2s ++ x3s ++ x4s ++ x5s)) rfl rfl ?_ ?_
    · intro w9 hw
      obtain ⟨y0, y1, y2, y3, y4, y5⟩ := HCE.out w9 hw
      clear hw
      go_simp
    try simp only [Act.put, List.setIfInBounds_toArray, List.set_cons_zero, List.set_cons_succ]
    refine LooseD.done ?_
    intro w2 hw2 _
    rw [HPRE.out]
    have HB2 := Lib.hid hw2
    have HBA := Lib.hid ((HB.out.trans (HB1.out.mono HB.out.size)).trans (hw2.mono (by have := HB1.out.size; have := HB.out.size; omega)))
    have HXC := Lib.hid (((HB1.out.trans (hw2.mono HB1.out.size)).block _ (Gn.heap_lt HX.out)).trans HX.out)
    clear hw2 a1 a2 a3 a4 a5
    go_wp2_with fail
    go_loopw [3, 4] (fun s i wr => ∃ k : Nat, k ≤ 4 ∧ i = .int .i64 k ∧ s = .string (mkS (qPre c0 ++ qNums [n0, n1, n2, n3] k)) ∧ Below w2.heap.size w2 wr) (fun _ i _ => 4 - (intOf i).toNat)
    case atStart => exact ⟨0, by omega, rfl, by rw [qNums, List.append_nil], Below.refl _ _⟩
    case round =>
      obtain ⟨k, hk, rfl, rfl, hbw⟩ := hrel
      have HBW := Lib.hid hbw
      clear hbw
      obtain ⟨acc, hacc⟩ : ∃ x, x = mkS (qPre c0 ++ qNums [n0, n1, n2, n3] k) := ⟨_, rfl⟩
      rw [← hacc]
      have hal : acc.size ≤ 71000 := by
        have h1 := qNums_len [n0, n1, n2, n3] k
        have h2 := HPL.out
        rw [hacc, mkS_size, List.length_append]
        omega
      have HACC := Lib.hid hacc
      clear hacc
      by_cases h4 : k < 4
      · have hlt4 : (k : Int) < 4 := by omega
        have hcell : wr.cell? ⟨w.heap.size, 6 + k, none⟩ = some (.int .i64 ([n0, n1, n2, n3].getD k 0)) := by
          have hxc := (HBW.out.block _ (Gn.heap_lt HXC.out)).trans HXC.out
          rcases (by omega : k = 0 ∨ k = 1 ∨ k = 2 ∨ k = 3) with rfl | rfl | rfl | rfl
          · exact cell_of_row _ _ 6 _ _ (0, 0) hxc
          · exact cell_of_row _ _ 7 _ _ (0, 0) hxc
          · exact cell_of_row _ _ 8 _ _ (0, 0) hxc
          · exact cell_of_row _ _ 9 _ _ (0, 0) hxc
        obtain ⟨x, hx⟩ : ∃ x, x = [n0, n1, n2, n3].getD k 0 := ⟨_, rfl⟩
        rw [← hx] at hcell
        obtain ⟨s1, hs1⟩ : ∃ s, s = mkS (pb x) := ⟨_, rfl⟩
        have HP := Lib.hid (fun w => show Calls Try.prog 35 #[.int .i64 x] w fun e w' => e = .returned (.string s1) ∧ Below w.heap.size w w' by rw [hs1]; exact Oct.rput_any x w)
        have hsz : ¬ 9223372036854775807 < acc.size + s1.size := by
          have h1 := Oct.pb_len x
          have h2 : s1.size = (pb x).length := by rw [hs1, mkS_size]
          omega
        have HNX := Lib.hid (show acc ++ s1 = mkS (qPre c0 ++ qNums [n0, n1, n2, n3] (k + 1)) by rw [HACC.out, hs1, mkS_add, qNums, ← hx, List.append_assoc])
        clear hx hs1 hal
        go_wp2_with fail
        refine (HP.out _).mono ?_
        rintro e v9 ⟨rfl, b9⟩
        have HB9 := Lib.hid (HBW.out.trans (b9.mono HBW.out.size))
        clear b9
        go_wp2_with fail
        refine ⟨⟨k + 1, by omega, by go_num, by rw [← HNX.out], HB9.out⟩, by simp [intOf]; omega⟩
      · have hke : k = 4 := by omega
        subst hke
        have HFF := Lib.hid (show acc = res by rw [HACC.out, HF.out])
        go_wp2_with fail
        go_ret
        exact ⟨by rw [← HFF.out]; rfl, HBA.out.trans (HBW.out.mono HBA.out.size)⟩
end Go.Proofs.Ytbkfbejbloclgaa.Cm
