/-
  Layer 18: holds and holdsClass.
-/
import Derived.Test.YtnmhgjoofgmcgaaGreatRlHd
namespace Go.Proofs.YtnmhgjoofgmcgaaGreat.Rl
open Go.RowKit
open Fx (StrsAt)
open Lx (bs)
set_option maxRecDepth 100000
set_option linter.unusedSimpArgs false
set_option linter.unusedVariables false
set_option maxHeartbeats 2000000 in
theorem h1_any (ms : List Mem) (P : Nat → Prop) (W : World) (bx : Nat) (vm vc : Value) (hbx : W.heap[bx]? = some (.cells #[vm, vc] 27 (0, 0))) (h : RowAt encM P W ms vm) (i : Nat) (hi : i < ms.length) :
    Calls Tryz.prog 77 #[.int .i64 i, .pointer (some ⟨bx, 0, none⟩)] W fun e w' => e = .returned (.string ms[i].name) ∧ Below W.heap.size W w' := by
  obtain ⟨A, cap, b, rfl, hcap, _, hA, hc⟩ := h
  obtain ⟨rfl, hb, _⟩ := hA (by omega)
  have k0 := hc i hi 0 (.string ms[i].name) rfl
  rw [Nat.add_zero] at k0
  obtain ⟨n, hnn⟩ : ∃ n, n = ms.length := ⟨_, rfl⟩
  obtain ⟨s, hs⟩ : ∃ s, s = ms[i].name := ⟨_, rfl⟩
  rw [← hs] at k0 ⊢
  rw [← hnn] at hbx hcap
  have hin : (i : Int) < (n : Int) := by omega
  have hin2 : i < n := by omega
  have x0 := cell_of_row _ _ 0 _ _ (0, 0) hbx
  clear hbx hc hA hs hnn hi
  go_enter Tryz.func77, Tryz.ntmps77
  go_wp2_with fail
  go_ret
  exact ⟨rfl, Below.refl _ _⟩
set_option maxHeartbeats 2000000 in
theorem h3_any (ms : List CRaw) (P : Nat → Prop) (W : World) (bx : Nat) (vm vc : Value) (hbx : W.heap[bx]? = some (.cells #[vm, vc] 27 (0, 0))) (h : RowAt encC P W ms vc) (i : Nat) (hi : i < ms.length) :
    Calls Tryz.prog 81 #[.int .i64 i, .pointer (some ⟨bx, 0, none⟩)] W fun e w' => e = .returned (.string ms[i].name) ∧ Below W.heap.size W w' := by
  obtain ⟨A, cap, b, rfl, hcap, _, hA, hc⟩ := h
  obtain ⟨rfl, hb, _⟩ := hA (by omega)
  have k0 := hc i hi 0 (.string ms[i].name) rfl
  rw [Nat.add_zero] at k0
  obtain ⟨n, hnn⟩ : ∃ n, n = ms.length := ⟨_, rfl⟩
  obtain ⟨s, hs⟩ : ∃ s, s = ms[i].name := ⟨_, rfl⟩
  rw [← hs] at k0 ⊢
  rw [← hnn] at hbx hcap
  have hin : (i : Int) < (n : Int) := by omega
  have hin2 : i < n := by omega
  have x1 := cell_of_row _ _ 1 _ _ (0, 0) hbx
  clear hbx hc hA hs hnn hi
  go_enter Tryz.func81, Tryz.ntmps81
  go_wp2_with fail
  go_ret
  exact ⟨rfl, Below.refl _ _⟩
set_option maxHeartbeats 2000000 in
theorem c1_any (l : List ByteArray) (P : Nat → Prop) (W : World) (bx : Nat) (v0 v1 sv : Value) (hbx : W.heap[bx]? = some (.cells #[v0, v1, sv] 53 (0, 0))) (h : StrsAt P W l sv) (i : Nat) (hi : i < l.length) :
    Calls Tryz.prog 106 #[.int .i64 i, .pointer (some ⟨bx, 0, none⟩)] W fun e w' => e = .returned (.string l[i]) ∧ Below W.heap.size W w' := by
  obtain ⟨A, cap, b, rfl, hcap, hA, hc⟩ := h
  obtain ⟨rfl, hb, _⟩ := hA (by omega)
  have k0 := hc i hi
  obtain ⟨n, hnn⟩ : ∃ n, n = l.length := ⟨_, rfl⟩
  obtain ⟨s, hs⟩ : ∃ s, s = l[i] := ⟨_, rfl⟩
  rw [← hs] at k0 ⊢
  rw [← hnn] at hbx hcap
  have hin : (i : Int) < (n : Int) := by omega
  have hin2 : i < n := by omega
  have x2 := cell_of_row _ _ 2 _ _ (0, 0) hbx
  clear hbx hc hA hs hnn hi
  go_enter Tryz.func106, Tryz.ntmps106
  go_wp2_with fail
  go_ret
  exact ⟨rfl, Below.refl _ _⟩
set_option maxHeartbeats 2000000 in
theorem c2_any (r : Rol) (hs : Rising r.names) (hn : r.ms.length ≤ 4096) (P : Nat → Prop) (W : World) (bx : Nat) (Am : Option Addr) (n cm : Nat) (Ac : Option Addr) (m cc : Nat) (hbx : W.heap[bx]? = some (.cells #[.slice Am n cm, .slice Ac m cc] 27 (0, 0))) (h : RlAt P W r (.agg #[.slice Am n cm, .slice Ac m cc])) (s : ByteArray) :
    Calls Tryz.prog 108 #[.string s, .pointer (some ⟨bx, 0, none⟩)] W fun e w' => e = .returned (.bool (!hasR r s 1)) ∧ Below W.heap.size W w' := by
  have HH := Lib.hid (hasr_any r s 1 hs hn P W _ h)
  have x0 := cell_of_row _ _ 0 _ _ (0, 0) hbx
  have x1 := cell_of_row _ _ 1 _ _ (0, 0) hbx
  obtain ⟨fd, hfd⟩ : ∃ fd, fd = hasR r s 1 := ⟨_, rfl⟩
  rw [← hfd] at HH ⊢
  clear hbx h hs hn hfd
  go_enter Tryz.func108, Tryz.ntmps108
  go_wp2_with fail
  refine HH.out.mono ?_
  rintro e w2 ⟨rfl, hb2⟩
  have HB2 := Lib.hid hb2
  clear hb2
  go_wp2_with fail
  go_ret
  exact ⟨rfl, HB2.out⟩
/-- A class as it must be, in that roll. -/
def okC (r : Rol) (c : Cls) : Bool := Lx.goodB (bs c.name) && hasR r c.teacher 2 && risB c.studs && !((List.range c.studs.length).any fun i => !hasR r (c.studs.getD i ⟨#[]⟩) 1)
set_option maxHeartbeats 8000000 in
theorem hclass_any (r : Rol) (hs : Rising r.names) (hn : r.ms.length ≤ 4096) (c : Cls) (hnm : c.name.size ≤ 9223372036854775807) (hst : c.studs.length ≤ 4096) (P Q : Nat → Prop) (W : World) (v sv : Value) (h : RlAt P W r v) (hc : StrsAt Q W c.studs sv) :
    Calls Tryz.prog 83 #[v, .agg #[.string c.name, .string c.teacher, sv]] W fun e w' => e = .returned (.bool (okC r c)) ∧ Below W.heap.size W w' := by
  obtain ⟨Am, cm, Ac, cc, rfl, _, _⟩ := h.form
  obtain ⟨As, cs, rfl⟩ := hc.form
  obtain ⟨n, hnn⟩ : ∃ n, n = r.ms.length := ⟨_, rfl⟩
  obtain ⟨m, hmm⟩ : ∃ m, m = r.cs.length := ⟨_, rfl⟩
  obtain ⟨sl, hsl⟩ : ∃ sl, sl = c.studs.length := ⟨_, rfl⟩
  rw [← hnn, ← hmm] at h ⊢
  rw [← hsl] at hc ⊢
  obtain ⟨V, hV⟩ : ∃ V, V = (W.alloc (.cells #[.slice Am n cm, .slice Ac m cc] 27)).alloc (.cells #[.string c.name, .string c.teacher, .slice As sl cs] 53) := ⟨_, rfl⟩
  have hb : Below W.heap.size W V := by rw [hV]; exact ((Below.refl _ W).alloc (Nat.le_refl _) _).alloc (by simp) _
  have hx0 : V.heap[W.heap.size]? = some (.cells #[.slice Am n cm, .slice Ac m cc] 27 (0, 0)) := by rw [hV]; exact (heap_alloc_old _ _ (by simp)).trans (heap_alloc_new W _)
  have hx1 : V.heap[W.heap.size + 1]? = some (.cells #[.string c.name, .string c.teacher, .slice As sl cs] 53 (0, 0)) := by
    rw [hV]; have := heap_alloc_new (W.alloc (.cells #[.slice Am n cm, .slice Ac m cc] 27)) (.cells #[.string c.name, .string c.teacher, .slice As sl cs] 53); simpa using this
  have HGD := Lib.hid (fun w => Lx.good_any c.name w hnm)
  have HHA := Lib.hid (fun (w : World) (b : Below V.heap.size V w) => hasr_any r c.teacher 2 hs hn P w _ (h.under (hb.trans (b.mono hb.size))))
  have HRI := Lib.hid (fun (w : World) (b : Below V.heap.size V w) => (rising_any (fun k => c.studs.getD k ⟨#[]⟩) c.studs.length (by omega) 106 #[.pointer (some ⟨W.heap.size + 1, 0, none⟩)] w (fun w2 i b2 hi => by
    have hV2 := b.trans (b2.mono b.size)
    rw [List.getD_eq_getElem?_getD, List.getElem?_eq_getElem hi]
    exact c1_any c.studs Q w2 _ _ _ (.slice As sl cs) ((hV2.block _ (Gn.heap_lt hx1)).trans hx1) (hc.under (hb.trans (hV2.mono hb.size))) i hi) (fun args w => by kernel_rfl)).mono fun e w' hh => Rises.to (fun _ => rfl) hh)
  have HCN := Lib.hid (fun (w : World) (b : Below V.heap.size V w) => containsS c.studs (fun i => !hasR r (c.studs.getD i ⟨#[]⟩) 1) Q w (.slice As sl cs) (hc.under (hb.trans (b.mono hb.size))) (by omega) 108 #[.pointer (some ⟨W.heap.size, 0, none⟩)] (fun w2 i hi b2 => by
    have hV2 := b.trans (b2.mono b.size)
    rw [List.getD_eq_getElem?_getD, List.getElem?_eq_getElem hi]
    exact c2_any r hs hn P w2 _ _ _ _ _ _ _ ((hV2.block _ (Gn.heap_lt hx0)).trans hx0) (h.under (hb.trans (hV2.mono hb.size))) c.studs[i]) (fun args w => by kernel_rfl))
  obtain ⟨g1, hg1⟩ : ∃ g1, g1 = Lx.goodB (bs c.name) := ⟨_, rfl⟩
  obtain ⟨g2, hg2⟩ : ∃ g2, g2 = hasR r c.teacher 2 := ⟨_, rfl⟩
  obtain ⟨g3, hg3⟩ : ∃ g3, g3 = risB c.studs := ⟨_, rfl⟩
  obtain ⟨g4, hg4⟩ : ∃ g4, g4 = (List.range c.studs.length).any fun i => !hasR r (c.studs.getD i ⟨#[]⟩) 1 := ⟨_, rfl⟩
  have hok : okC r c = (g1 && g2 && g3 && !g4) := by rw [hg1, hg2, hg3, hg4]; rfl
  rw [← hg1] at HGD
  rw [← hg2] at HHA
  rw [← hg3] at HRI
  rw [← hg4] at HCN
  rw [← hsl] at HRI
  rw [hok]
  have HV := Lib.hid hV
  have HB := Lib.hid hb
  have HMK := Lib.hid (fun (w' : World) (b : Below V.heap.size V w') => show w'.cell? ⟨W.heap.size, 0, none⟩ = some (.slice Am n cm) ∧ w'.cell? ⟨W.heap.size, 1, none⟩ = some (.slice Ac m cc) ∧ w'.cell? ⟨W.heap.size + 1, 0, none⟩ = some (.string c.name) ∧ w'.cell? ⟨W.heap.size + 1, 1, none⟩ = some (.string c.teacher) ∧ w'.cell? ⟨W.heap.size + 1, 2, none⟩ = some (.slice As sl cs) from by
    have h0 := (b.block _ (Gn.heap_lt hx0)).trans hx0
    have h1 := (b.block _ (Gn.heap_lt hx1)).trans hx1
    exact ⟨cell_of_row _ _ 0 _ _ (0, 0) h0, cell_of_row _ _ 1 _ _ (0, 0) h0, cell_of_row _ _ 0 _ _ (0, 0) h1, cell_of_row _ _ 1 _ _ (0, 0) h1, cell_of_row _ _ 2 _ _ (0, 0) h1⟩)
  obtain ⟨y1, y2, y3, y4, y5⟩ := HMK.out V (Below.refl _ _)
  clear hok hg1 hg2 hg3 hg4 hx0 hx1 hb hV hs hn hnm hst h hc hnn hmm hsl
  go_enter Tryz.func83, Tryz.ntmps83
  go_upto_region 1 with fail
  rw [← HV.out]
  go_wp2_with fail
  refine (HGD.out _).mono ?_
  rintro e w ⟨rfl, rfl⟩
  cases g1 with
  | false =>
    go_wp2_with fail
    go_ret
    exact ⟨by simp, HB.out⟩
  | true =>
    go_wp2_with fail
    refine (HHA.out V (Below.refl _ _)).mono ?_
    rintro e w2 ⟨rfl, b2⟩
    have HB2 := Lib.hid b2
    clear b2 y1 y2 y3 y4 y5
    obtain ⟨y1, y2, y3, y4, y5⟩ := HMK.out w2 HB2.out
    cases g2 with
    | false =>
      have HFI := Lib.hid (HB.out.trans (HB2.out.mono HB.out.size))
      go_wp2_with fail
      go_ret
      exact ⟨by simp, HFI.out⟩
    | true =>
      go_wp2_with fail
      refine (HRI.out w2 HB2.out).mono ?_
      rintro e w3 ⟨rfl, b3⟩
      have HB3 := Lib.hid (HB2.out.trans (b3.mono HB2.out.size))
      clear b3 y1 y2 y3 y4 y5
      obtain ⟨y1, y2, y3, y4, y5⟩ := HMK.out w3 HB3.out
      cases g3 with
      | false =>
        have HFI := Lib.hid (HB.out.trans (HB3.out.mono HB.out.size))
        go_wp2_with fail
        go_ret
        exact ⟨by simp, HFI.out⟩
      | true =>
        go_wp2_with fail
        refine (HCN.out w3 HB3.out).mono ?_
        rintro e w4 ⟨rfl, b4⟩
        have HFI := Lib.hid (HB.out.trans ((HB3.out.trans (b4.mono HB3.out.size)).mono HB.out.size))
        clear b4 y1 y2 y3 y4 y5
        go_wp2_with fail
        go_ret
        exact ⟨by simp, HFI.out⟩
set_option maxHeartbeats 4000000 in
theorem h4_any (r : Rol) (hs : Rising r.names) (hn : r.ms.length ≤ 4096) (c : Cls) (hnm : c.name.size ≤ 9223372036854775807) (hst : c.studs.length ≤ 4096) (P Q : Nat → Prop) (W : World) (bx : Nat) (Am : Option Addr) (n cm : Nat) (Ac : Option Addr) (m cc : Nat) (hbx : W.heap[bx]? = some (.cells #[.slice Am n cm, .slice Ac m cc] 27 (0, 0))) (sv : Value) (h : RlAt P W r (.agg #[.slice Am n cm, .slice Ac m cc])) (hc : StrsAt Q W c.studs sv) :
    Calls Tryz.prog 82 #[.agg #[.string c.name, .string c.teacher, sv], .pointer (some ⟨bx, 0, none⟩)] W fun e w' => e = .returned (.bool (!okC r c)) ∧ Below W.heap.size W w' := by
  obtain ⟨As, cs, rfl⟩ := hc.form
  obtain ⟨sl, hsl⟩ : ∃ sl, sl = c.studs.length := ⟨_, rfl⟩
  rw [← hsl] at hc ⊢
  obtain ⟨V, hV⟩ : ∃ V, V = W.alloc (.cells #[.string c.name, .string c.teacher, .slice As sl cs] 53) := ⟨_, rfl⟩
  have hb : Below W.heap.size W V := by rw [hV]; exact (Below.refl _ W).alloc (Nat.le_refl _) _
  have hx : V.heap[W.heap.size]? = some (.cells #[.string c.name, .string c.teacher, .slice As sl cs] 53 (0, 0)) := by rw [hV]; exact heap_alloc_new W _
  have hx0 := (hb.block _ (Gn.heap_lt hbx)).trans hbx
  have HH := Lib.hid (hclass_any r hs hn c hnm hst P Q V _ _ (h.under hb) (hc.under hb))
  obtain ⟨fd, hfd⟩ : ∃ fd, fd = okC r c := ⟨_, rfl⟩
  rw [← hfd] at HH ⊢
  have x0 := cell_of_row _ _ 0 _ _ (0, 0) hx
  have x1 := cell_of_row _ _ 1 _ _ (0, 0) hx
  have x2 := cell_of_row _ _ 2 _ _ (0, 0) hx
  have r0 := cell_of_row _ _ 0 _ _ (0, 0) hx0
  have r1 := cell_of_row _ _ 1 _ _ (0, 0) hx0
  have HV := Lib.hid hV
  have HB := Lib.hid hb
  clear hV hb hx hx0 hbx h hc hs hn hnm hst hfd hsl
  go_enter Tryz.func82, Tryz.ntmps82
  go_upto_region 1 with fail
  rw [← HV.out]
  go_wp2_with fail
  refine HH.out.mono ?_
  rintro e w2 ⟨rfl, hb2⟩
  have HB2 := Lib.hid (HB.out.trans (hb2.mono HB.out.size))
  clear hb2
  go_wp2_with fail
  go_ret
  exact ⟨rfl, HB2.out⟩
/-- A roll as it must be. -/
def okR (r : Rol) : Bool := risB r.names && !((List.range r.ms.length).any fun i => !okM (r.ms.getD i ⟨⟨#[]⟩, 0, 0⟩)) && risB r.classes && !((List.range r.cs.length).any fun i => !okC r (r.cs.getD i nilC))
set_option maxHeartbeats 8000000 in
theorem holds_any (r : Rol) (hn : r.ms.length ≤ 4096) (hm : r.cs.length ≤ 4096) (hnm : (∀ x ∈ r.ms, x.name.size ≤ 9223372036854775807) ∧ ∀ c ∈ r.cs, c.name.size ≤ 9223372036854775807) (hst : ∀ c ∈ r.cs, c.studs.length ≤ 4096) (P : Nat → Prop) (W : World) (v : Value) (h : RlAt P W r v) :
    Calls Tryz.prog 43 #[v] W fun e w' => e = .returned (.bool (okR r)) ∧ Below W.heap.size W w' := by
  obtain ⟨Am, cm, Ac, cc, rfl, hms, hcs⟩ := h.form
  obtain ⟨raws, hrow, hall⟩ := hcs
  have hrl : raws.length = r.cs.length := hall.1
  obtain ⟨n, hnn⟩ : ∃ n, n = r.ms.length := ⟨_, rfl⟩
  obtain ⟨m, hmm⟩ : ∃ m, m = r.cs.length := ⟨_, rfl⟩
  rw [← hnn] at h hms ⊢
  rw [← hmm] at h hrow ⊢
  obtain ⟨V, hV⟩ : ∃ V, V = W.alloc (.cells #[.slice Am n cm, .slice Ac m cc] 27) := ⟨_, rfl⟩
  have hb : Below W.heap.size W V := by rw [hV]; exact (Below.refl _ W).alloc (Nat.le_refl _) _
  have hx : V.heap[W.heap.size]? = some (.cells #[.slice Am n cm, .slice Ac m cc] 27 (0, 0)) := by rw [hV]; exact heap_alloc_new W _
  have e1 : r.names.length = r.ms.length := by simp [Rol.names]
  have e2 : r.classes.length = r.cs.length := by simp [Rol.classes]
  have H1 := Lib.hid (fun (w : World) (b : Below V.heap.size V w) => (rising_any (fun k => r.names.getD k ⟨#[]⟩) r.names.length (by omega) 77 #[.pointer (some ⟨W.heap.size, 0, none⟩)] w (fun w2 i b2 hi => by
    have hV2 := b.trans (b2.mono b.size)
    have hi2 : i < r.ms.length := by rw [← e1]; exact hi
    rw [List.getD_eq_getElem?_getD, List.getElem?_eq_getElem hi]
    have := h1_any r.ms P w2 _ _ _ ((hV2.block _ (Gn.heap_lt hx)).trans hx) ((RowAt.under hms hb).under hV2) i hi2
    simpa [Rol.names] using this) (fun args w => by kernel_rfl)).mono fun e w' hh => Rises.to (fun _ => rfl) hh)
  have H2 := Lib.hid (fun (w : World) (b : Below V.heap.size V w) => containsM r.ms P w (.slice Am n cm) ((RowAt.under hms hb).under b) (by omega) (fun i => !okM (r.ms.getD i ⟨⟨#[]⟩, 0, 0⟩)) 79 #[] (fun args w => by kernel_rfl) (fun w2 i hi b2 => by
    rw [List.getD_eq_getElem?_getD, List.getElem?_eq_getElem hi]
    exact mbad_any r.ms[i] (hnm.1 _ (List.getElem_mem hi)) w2))
  have H3 := Lib.hid (fun (w : World) (b : Below V.heap.size V w) => (rising_any (fun k => r.classes.getD k ⟨#[]⟩) r.classes.length (by omega) 81 #[.pointer (some ⟨W.heap.size, 0, none⟩)] w (fun w2 i b2 hi => by
    have hV2 := b.trans (b2.mono b.size)
    have hi3 : i < r.cs.length := by rw [← e2]; exact hi
    have hi2 : i < raws.length := by rw [hrl]; exact hi3
    rw [List.getD_eq_getElem?_getD, List.getElem?_eq_getElem hi]
    have := h3_any raws P w2 _ _ _ ((hV2.block _ (Gn.heap_lt hx)).trans hx) ((RowAt.under hrow hb).under hV2) i hi2
    rw [(hall.2 i hi2 hi3).1] at this
    simpa [Rol.classes] using this) (fun args w => by kernel_rfl)).mono fun e w' hh => Rises.to (fun _ => rfl) hh)
  have H4 := Lib.hid (fun (hris : Rising r.names) (w : World) (b : Below V.heap.size V w) => containsC raws P w (.slice Ac m cc) ((RowAt.under hrow hb).under b) (by omega) (fun i => !okC r (r.cs.getD i nilC)) 82 #[.pointer (some ⟨W.heap.size, 0, none⟩)] (fun args w => by kernel_rfl) (fun w2 i hi b2 => by
    have hV2 := b.trans (b2.mono b.size)
    have hi3 : i < r.cs.length := by rw [← hrl]; exact hi
    obtain ⟨n1, n2, n3⟩ := hall.2 i hi hi3
    have hmem := List.getElem_mem hi3
    rw [List.getD_eq_getElem?_getD, List.getElem?_eq_getElem hi3]
    show Calls _ _ (#[.agg #[.string raws[i].name, .string raws[i].teacher, raws[i].studs]] ++ _) _ _
    rw [n1, n2]
    exact h4_any r hris (by omega) r.cs[i] (hnm.2 _ hmem) (hst _ hmem) P P w2 _ _ _ _ _ _ _ ((hV2.block _ (Gn.heap_lt hx)).trans hx) raws[i].studs (h.under (hb.trans (hV2.mono hb.size))) (n3.under (hb.trans (hV2.mono hb.size)))))
  obtain ⟨g1, hg1⟩ : ∃ g1, g1 = risB r.names := ⟨_, rfl⟩
  obtain ⟨g2, hg2⟩ : ∃ g2, g2 = (List.range r.ms.length).any fun i => !okM (r.ms.getD i ⟨⟨#[]⟩, 0, 0⟩) := ⟨_, rfl⟩
  obtain ⟨g3, hg3⟩ : ∃ g3, g3 = risB r.classes := ⟨_, rfl⟩
  obtain ⟨g4, hg4⟩ : ∃ g4, g4 = (List.range r.cs.length).any fun i => !okC r (r.cs.getD i nilC) := ⟨_, rfl⟩
  have hok : okR r = (g1 && !g2 && g3 && !g4) := by rw [hg1, hg2, hg3, hg4]; rfl
  rw [← hg1, e1, ← hnn] at H1
  rw [← hg2] at H2
  rw [← hg3, e2, ← hmm] at H3
  rw [hrl, ← hg4] at H4
  rw [hok]
  have HG := Lib.hid hg1
  have HV := Lib.hid hV
  have HB := Lib.hid hb
  have HMK := Lib.hid (fun (w' : World) (b : Below V.heap.size V w') => show w'.cell? ⟨W.heap.size, 0, none⟩ = some (.slice Am n cm) ∧ w'.cell? ⟨W.heap.size, 1, none⟩ = some (.slice Ac m cc) from by
    have h0 := (b.block _ (Gn.heap_lt hx)).trans hx
    exact ⟨cell_of_row _ _ 0 _ _ (0, 0) h0, cell_of_row _ _ 1 _ _ (0, 0) h0⟩)
  obtain ⟨y1, y2⟩ := HMK.out V (Below.refl _ _)
  clear hok hg1 hg2 hg3 hg4 hx hb hV hn hm hnm hst h hms hrow hall hrl e1 e2 hnn hmm
  go_enter Tryz.func43, Tryz.ntmps43
  go_upto_region 1 with fail
  rw [← HV.out]
  go_wp2_with fail
  refine (H1.out V (Below.refl _ _)).mono ?_
  rintro e w2 ⟨rfl, b2⟩
  have HB2 := Lib.hid b2
  clear b2 y1 y2
  obtain ⟨y1, y2⟩ := HMK.out w2 HB2.out
  cases g1 with
  | false =>
    have HFI := Lib.hid (HB.out.trans (HB2.out.mono HB.out.size))
    go_wp2_with fail
    go_ret
    exact ⟨by simp, HFI.out⟩
  | true =>
    have HRIS := Lib.hid (risB_ris.1 HG.out.symm)
    clear HG
    go_wp2_with fail
    refine (H2.out w2 HB2.out).mono ?_
    rintro e w3 ⟨rfl, b3⟩
    have HB3 := Lib.hid (HB2.out.trans (b3.mono HB2.out.size))
    clear b3 y1 y2
    obtain ⟨y1, y2⟩ := HMK.out w3 HB3.out
    cases g2 with
    | true =>
      have HFI := Lib.hid (HB.out.trans (HB3.out.mono HB.out.size))
      go_wp2_with fail
      go_ret
      exact ⟨by simp, HFI.out⟩
    | false =>
      go_wp2_with fail
      refine (H3.out w3 HB3.out).mono ?_
      rintro e w4 ⟨rfl, b4⟩
      have HB4 := Lib.hid (HB3.out.trans (b4.mono HB3.out.size))
      clear b4 y1 y2
      obtain ⟨y1, y2⟩ := HMK.out w4 HB4.out
      cases g3 with
      | false =>
        have HFI := Lib.hid (HB.out.trans (HB4.out.mono HB.out.size))
        go_wp2_with fail
        go_ret
        exact ⟨by simp, HFI.out⟩
      | true =>
        go_wp2_with fail
        refine (H4.out HRIS.out w4 HB4.out).mono ?_
        rintro e w5 ⟨rfl, b5⟩
        have HFI := Lib.hid (HB.out.trans ((HB4.out.trans (b5.mono HB4.out.size)).mono HB.out.size))
        clear b5 y1 y2
        go_wp2_with fail
        go_ret
        exact ⟨by simp, HFI.out⟩
end Go.Proofs.YtnmhgjoofgmcgaaGreat.Rl
