/-
  Layer 18: RollKeeps, walked.
-/
import Derived.Test.YtdkcfhmdgignhaaRlSpeaks
import Derived.Test.YtdkcfhmdgignhaaRlDs
import Derived.Test.YtdkcfhmdgignhaaLooseD
import Derived.Deep.DeepCutAuto
import Derived.Deep.RegionHeld3
namespace Go.Proofs.Ytdkcfhmdgignhaa.Rl
open Go.RowKit
open Fx (StrsAt)
set_option maxRecDepth 100000
set_option linter.unusedSimpArgs false
set_option linter.unusedVariables false
/-- The law's roll in its box. -/
structure KpAt (W : World) (B : Nat) (w : World) (r : Rol) (vm vc : Value) : Prop where
  box : w.heap[B]? = some (.cells #[vm, vc] 26 (0, 0))
  rl : RlAt (fun b => B < b) w r (.agg #[vm, vc])
  bel : Below W.heap.size W w
  lo : W.heap.size ≤ B
theorem KpAt.under {W : World} {B : Nat} {w w' : World} {r : Rol} {vm vc : Value} (h : KpAt W B w r vm vc) (b : Below w.heap.size w w') : KpAt W B w' r vm vc :=
  ⟨(b.block _ (Gn.heap_lt h.box)).trans h.box, h.rl.under b, h.bel.trans (b.mono h.bel.size), h.lo⟩
theorem KpAt.form {W : World} {B : Nat} {w : World} {r : Rol} {vm vc : Value} (h : KpAt W B w r vm vc) : ∃ A1 c1 A2 c2, vm = .slice A1 r.ms.length c1 ∧ vc = .slice A2 r.cs.length c2 := by
  obtain ⟨A1, c1, A2, c2, e, _, _⟩ := h.rl.form
  injection e with e
  injection e with e
  injection e with e1 e2
  injection e2 with e2
  exact ⟨A1, c1, A2, c2, e1, e2⟩
/-- And what a deed told, in a box of its own. -/
structure KpBox (W : World) (B : Nat) (w : World) (r : Rol) (vm vc : Value) (q : Nat) (R : Except Nat Rol) (x y : Value) : Prop where
  kp : KpAt W B w r vm vc
  bx : w.heap[q]? = some (.cells #[x, y] 26 (0, 0))
  rl : RlAt (fun b => B < b) w (rolOf R) (.agg #[x, y])
  hi : B < q
theorem KpAt.off {W : World} {B : Nat} {w : World} {r : Rol} {vm vc : Value} (h : KpAt W B w r vm vc) {q : Nat} (hq : q ≠ B) (P : Nat → Prop) (hr : RlAt (fun b => B < b ∧ b ≠ q) w r (.agg #[vm, vc])) (x y : Value) (hw : W.heap.size ≤ q) : KpAt W B ((w.setCell ⟨q, 0, none⟩ x).setCell ⟨q, 1, none⟩ y) r vm vc :=
  ⟨((Gn.set_keep _ _ _ hq).trans (Gn.set_keep _ _ _ hq)).trans h.box, hr.keep (by simp [World.setCell]) fun b hb _ => ⟨hb.1, fun j => Gn.cell_same ((Gn.set_keep _ _ _ (fun e => hb.2 e.symm)).trans (Gn.set_keep _ _ _ (fun e => hb.2 e.symm))) j⟩, (h.bel.setCell hw _).setCell hw _, h.lo⟩
/-- The box is laid behind the call. -/
theorem KpBox.late {W : World} {B : Nat} {w w3 : World} {r : Rol} {vm vc : Value} {R : Except Nat Rol} {x y : Value} (h : KpAt W B w r vm vc) (h3 : KpAt W B w3 r vm vc) (hr : RlAt (fun b => w.heap.size ≤ b) w3 (rolOf R) (.agg #[x, y])) (hb : Below w.heap.size w w3) : KpBox W B (w3.alloc (.cells #[x, y] 26)) r vm vc w3.heap.size R x y :=
  have b : Below w3.heap.size w3 (w3.alloc (.cells #[x, y] 26)) := (Below.refl _ _).alloc (Nat.le_refl _) _
  ⟨h3.under b, heap_alloc_new _ _, (hr.keep (Nat.le_refl _) fun q hq _ => ⟨by have := Gn.heap_lt h.box; omega, fun _ => rfl⟩).under b, Gn.heap_lt h3.box⟩
/-- The box is laid ahead of the call. -/
theorem KpBox.early {W : World} {B : Nat} {w w3 : World} {r : Rol} {vm vc : Value} {R : Except Nat Rol} {x y : Value} {o : Obj} (h : KpAt W B w r vm vc) (hr : RlAt (fun b => (w.alloc o).heap.size ≤ b) w3 (rolOf R) (.agg #[x, y])) (hb : Below (w.alloc o).heap.size (w.alloc o) w3) {z1 z2 : Value} (hx : w3.heap[w.heap.size]? = some (.cells #[z1, z2] 26 (0, 0))) : KpBox W B ((w3.setCell ⟨w.heap.size, 0, none⟩ x).setCell ⟨w.heap.size, 1, none⟩ y) r vm vc w.heap.size R x y := by
  have b0 : Below w.heap.size w (w.alloc o) := (Below.refl _ _).alloc (Nat.le_refl _) _
  have b1 : Below w.heap.size w w3 := b0.trans (hb.mono b0.size)
  have hlt := Gn.heap_lt h.box
  have hsz : (w.alloc o).heap.size = w.heap.size + 1 := by simp
  refine ⟨(h.under b1).off (by omega) (fun _ => True) ((h.rl.keep (Nat.le_refl _) fun q hq hl => ⟨⟨hq, by omega⟩, fun _ => rfl⟩).under b1) x y h.bel.size, Gn.heap_set (Gn.heap_set hx 0 _) 1 _, hr.keep (by simp [World.setCell]) fun q hq _ => ⟨by omega, fun j => Gn.cell_same ((Gn.set_keep _ _ _ (by show w.heap.size ≠ q; omega)).trans (Gn.set_keep _ _ _ (by show w.heap.size ≠ q; omega))) j⟩, hlt⟩
/-- What was told is the law's roll from here on. -/
theorem KpBox.next {W : World} {B : Nat} {w : World} {r : Rol} {vm vc : Value} {q : Nat} {R : Except Nat Rol} {x y : Value} (h : KpBox W B w r vm vc q R x y) : KpAt W B ((w.setCell ⟨B, 0, none⟩ x).setCell ⟨B, 1, none⟩ y) (rolOf R) x y :=
  ⟨Gn.heap_set (Gn.heap_set h.kp.box 0 _) 1 _, h.rl.keep (by simp [World.setCell]) fun b hb _ => ⟨hb, fun j => Gn.cell_same ((Gn.set_keep _ _ _ (by show B ≠ b; omega)).trans (Gn.set_keep _ _ _ (by show B ≠ b; omega))) j⟩, (h.kp.bel.setCell h.kp.lo _).setCell h.kp.lo _, h.kp.lo⟩
/-- A member in a new box. -/
def NewBox (w wx : World) (q : Nat) (x : Mem) : Prop := Below w.heap.size w wx ∧ wx.heap[q]? = some (.cells #[.string x.name, .int .i64 x.role, .int .i64 x.quota] 49 (0, 0))
theorem NewBox.late {w w3 : World} (x : Mem) (hb : Below w.heap.size w w3) : NewBox w (w3.alloc (.cells #[.string x.name, .int .i64 x.role, .int .i64 x.quota] 49)) w3.heap.size x :=
  ⟨hb.trans (((Below.refl _ _).alloc (Nat.le_refl _) _).mono hb.size), heap_alloc_new _ _⟩
theorem NewBox.early {w w3 : World} (x : Mem) {o : Obj} (hb : Below (w.alloc o).heap.size (w.alloc o) w3) {z1 z2 z3 : Value} (hx : w3.heap[w.heap.size]? = some (.cells #[z1, z2, z3] 49 (0, 0))) : NewBox w (((w3.setCell ⟨w.heap.size, 0, none⟩ (.string x.name)).setCell ⟨w.heap.size, 1, none⟩ (.int .i64 x.role)).setCell ⟨w.heap.size, 2, none⟩ (.int .i64 x.quota)) w.heap.size x := by
  have b0 : Below w.heap.size w (w.alloc o) := (Below.refl _ _).alloc (Nat.le_refl _) _
  exact ⟨(((b0.trans (hb.mono b0.size)).setCell (Nat.le_refl _) _).setCell (Nat.le_refl _) _).setCell (Nat.le_refl _) _, Gn.heap_set (Gn.heap_set (Gn.heap_set hx 0 _) 1 _) 2 _⟩
theorem NewBox.drew {w wx : World} {q : Nat} {x : Mem} (h : NewBox w.drew wx q x) : NewBox w wx q x := ⟨(Gn.below_drew (Below.refl _ _)).trans (h.1.mono (Nat.le_refl _)), h.2⟩
theorem Inv.who {N : Nat} {r : Rol} (h : Inv N r) {m : Mem} (hm : m ∈ r.ms) : hasN r.names m.name = true ∧ findM r m.name = m := by
  have h1 : hasN r.names m.name = true := hasN_iff.2 (List.mem_map.2 ⟨m, hm, rfl⟩)
  obtain ⟨f1, f2⟩ := find_in h.names h1
  exact ⟨h1, rising_eq (fun m : Mem => m.name) (show Rising (r.ms.map fun m => m.name) from h.names) f1 hm f2⟩
theorem Inv.teacher {N : Nat} {r : Rol} (h : Inv N r) {c : Cls} (hc : c ∈ r.cs) : hasN r.names c.teacher = true ∧ ∃ q, findM r c.teacher = ⟨c.teacher, 2, q⟩ := by
  obtain ⟨m, m1, m2, m3⟩ := h.teach c hc
  obtain ⟨h1, h2⟩ := h.who m1
  rw [m2] at h1 h2
  exact ⟨h1, m.quota, by rw [h2, ← m2, ← m3]⟩
theorem Inv.student {N : Nat} {r : Rol} (h : Inv N r) {c : Cls} (hc : c ∈ r.cs) {s : ByteArray} (hs : s ∈ c.studs) : hasN r.names s = true ∧ ∃ q, findM r s = ⟨s, 1, q⟩ := by
  obtain ⟨m, m1, m2, m3⟩ := h.stud c hc s hs
  obtain ⟨h1, h2⟩ := h.who m1
  rw [m2] at h1 h2
  exact ⟨h1, m.quota, by rw [h2, ← m2, ← m3]⟩
/-- What a class's place holds. -/
theorem KpAt.class_ {W : World} {B : Nat} {w : World} {r : Rol} {vm vc : Value} (h : KpAt W B w r vm vc) {j : Nat} (hj : j < r.cs.length) : ∃ (g4 c4 : Nat) (A6 : Option Addr) (c6 : Nat), vc = .slice (some ⟨g4, 0, none⟩) r.cs.length c4 ∧ r.cs.length ≤ c4 ∧ g4 < w.heap.size ∧ w.cell? ⟨g4, j * 3 + 1, none⟩ = some (.string r.cs[j].teacher) ∧ w.cell? ⟨g4, j * 3 + 2, none⟩ = some (.slice A6 r.cs[j].studs.length c6) ∧ StrsAt (fun b => B < b) w r.cs[j].studs (.slice A6 r.cs[j].studs.length c6) := by
  obtain ⟨vm', vc', e, _, raws, h1, h2⟩ := h.rl
  injection e with e
  injection e with e
  injection e with _ e
  injection e with e
  subst e
  obtain ⟨A, cap, b, rfl, hcap, _, hA, hc⟩ := h1
  have hl := h2.1
  have hr : j < raws.length := by rw [hl]; exact hj
  obtain ⟨rfl, hb, _⟩ := hA (by omega)
  obtain ⟨n1, n2, n3⟩ := h2.2 j hr hj
  obtain ⟨A6, c6, e6⟩ := n3.form
  have k1 := hc j hr 1 (.string raws[j].teacher) rfl
  have k2 := hc j hr 2 raws[j].studs rfl
  rw [n2] at k1
  rw [e6] at k2 n3
  exact ⟨b, cap, A6, c6, by rw [hl], by omega, hb, k1, k2, n3⟩
set_option maxHeartbeats 16000000 in
theorem keeps_any (l : List Dd) (W : World) (v : Value) (hl : DsIn W l v) (hlen : l.length ≤ maxLen) (hs : ∀ d ∈ l, Short d) :
    Calls Try.prog 5 #[v] W fun e w' => e = .returned (.bool true) ∧ Below W.heap.size W w' := by
  have HSP := Lib.hid (fun w => speaks_any w)
  have HL := Lib.hid (fun (w : World) (b : Below W.heap.size W w) => hl.under b)
  obtain ⟨A, cap, bk, off, rfl, h0, hc⟩ := hl
  obtain ⟨L, hL⟩ : ∃ L, L = l.length := ⟨_, rfl⟩
  rw [← hL] at h0 HL ⊢
  have hL9 : L ≤ 9223372036854775807 := by rw [hL]; exact hlen
  have HH0 := Lib.hid h0
  have HC := Lib.hid hc
  have HSH := Lib.hid hs
  have HLL := Lib.hid hL
  clear hs hlen hL h0 hc
  go_enter Try.func5, Try.ntmps5
  go_wp2_with fail
  refine (HSP.out W).mono ?_
  rintro e w1 ⟨rfl, hb1⟩
  obtain ⟨V, hV⟩ : ∃ V, V = w1.alloc (.cells #[.slice none 0 0, .slice none 0 0] 26) := ⟨_, rfl⟩
  have hbv : Below w1.heap.size w1 V := by rw [hV]; exact (Below.refl _ _).alloc (Nat.le_refl _) _
  have hkp : KpAt W w1.heap.size V ⟨[], []⟩ (.slice none 0 0) (.slice none 0 0) := ⟨by rw [hV]; exact heap_alloc_new _ _, rl_zero _ _, hb1.trans (hbv.mono hb1.size), hb1.size⟩
  obtain ⟨B, hB⟩ : ∃ B, B = w1.heap.size := ⟨_, rfl⟩
  have HKP := Lib.hid hkp
  rw [← hB] at HKP
  have HV := Lib.hid hV
  have HB := Lib.hid hB
  clear hb1 hV hbv hkp hB
  go_upto_region 4 with fail
  rw [← HV.out, ← HB.out]
  go_upto_block 0 with fail
  go_cut [] from 4 to 41 (fun wx => ∃ (r : Rol) (vm vc : Value), Inv 60 r ∧ KpAt W B wx r vm vc)
  case first =>
    go_wp2_with fail
    go_loopw [4] (fun x wr => ∃ (k : Nat) (r : Rol) (vm vc : Value), k ≤ 60 ∧ k ≤ L ∧ x = .int .i64 k ∧ Inv k r ∧ KpAt W B wr r vm vc) (fun x _ => 60 - (intOf x).toNat)
    case atStart => exact ⟨0, ⟨[], []⟩, _, _, by omega, by omega, rfl, inv_nil, HKP.out⟩
    case round =>
      obtain ⟨k, r, vm, vc, hk60, hkL, rfl, hinv, hkp⟩ := hrel
      have HIN := Lib.hid hinv
      have HK := Lib.hid hkp
      clear hinv hkp
      by_cases hlt : k < L
      · have hlt2 : (k : Int) < (L : Int) := by omega
        by_cases h60 : k < 60
        · have h602 : (k : Int) < 60 := by omega
          have hkl : k < l.length := by rw [← HLL.out]; exact hlt
          obtain ⟨rfl, hbk⟩ := HH0.out (by omega)
          obtain ⟨d, hd⟩ : ∃ d, d = l[k] := ⟨_, rfl⟩
          obtain ⟨q0, q1, q2, q3⟩ := HC.out k hkl
          rw [← hd] at q0 q1 q2 q3
          have hshort : Short d := by rw [hd]; exact HSH.out _ (List.getElem_mem hkl)
          have HSD := Lib.hid hshort
          have HLO := Lib.hid (fun w => long_any d w HSD.out.1 HSD.out.2)
          have HDO := Lib.hid (fun (w : World) (hw : KpAt W B w r vm vc) => do_any r d (HIN.out.sized (by omega)) HSD.out.1 _ w _ hw.rl)
          have hIV := fun r' (e : doM r d = .ok r') => inv_do HIN.out e
          have HIV := Lib.hid hIV
          obtain ⟨R, hR⟩ : ∃ R, R = doM r d := ⟨_, rfl⟩
          rw [← hR] at HDO HIV
          obtain ⟨lg, hlg⟩ : ∃ lg, lg = longM d := ⟨_, rfl⟩
          rw [← hlg] at HLO
          obtain ⟨dw, da, db, dn⟩ := d
          dsimp only [encD] at *
          have HQ := Lib.hid (fun (w : World) (b : Below W.heap.size W w) => show w.cell? ⟨bk, off + k * 4, none⟩ = some (.int .i64 dw) ∧ w.cell? ⟨bk, off + k * 4 + 1, none⟩ = some (.string da) ∧ w.cell? ⟨bk, off + k * 4 + 2, none⟩ = some (.string db) ∧ w.cell? ⟨bk, off + k * 4 + 3, none⟩ = some (.int .i64 dn) from ⟨(b.cell (p := ⟨bk, off + k * 4, none⟩) hbk).trans q0, (b.cell (p := ⟨bk, off + k * 4 + 1, none⟩) hbk).trans q1, (b.cell (p := ⟨bk, off + k * 4 + 2, none⟩) hbk).trans q2, (b.cell (p := ⟨bk, off + k * 4 + 3, none⟩) hbk).trans q3⟩)
          have HBK := Lib.hid hbk
          have HLG := Lib.hid hlg
          have HRR := Lib.hid hR
          clear hd hshort hIV hR hlg q0 q1 q2 q3
          obtain ⟨q0, q1, q2, q3⟩ := HQ.out wr HK.out.bel
          clear hbk
          go_wp2_with fail
          refine (HLO.out wr).mono ?_
          rintro e w2 ⟨rfl, hb2⟩
          have HK2 := Lib.hid (HK.out.under hb2)
          clear hb2 q0 q1 q2 q3
          cases lg with
          | true =>
            go_wp2_with fail
            go_ret
            exact ⟨rfl, HK2.out.bel⟩
          | false =>
            go_upto_region 9 with fail
            obtain ⟨A1, c1, A2, c2, rfl, rfl⟩ := HK.out.form
            obtain ⟨n1, hn1⟩ : ∃ n1, n1 = r.ms.length := ⟨_, rfl⟩
            obtain ⟨n2, hn2⟩ : ∃ n2, n2 = r.cs.length := ⟨_, rfl⟩
            rw [← hn1, ← hn2] at HK HK2 HDO
            have HK3 := Lib.hid (HK2.out.under (Gn.below_drew (Below.refl _ _)))
            have HSS := Lib.hid (fun (w' : World) (h : KpAt W B w' r (.slice A1 n1 c1) (.slice A2 n2 c2)) => show (fun w' : World => w'.cell? ⟨B, 0, none⟩ = some (.slice A1 n1 c1) ∧ w'.cell? ⟨B, 1, none⟩ = some (.slice A2 n2 c2) ∧ w'.cell? ⟨bk, off + k * 4, none⟩ = some (.int .i64 dw) ∧ w'.cell? ⟨bk, off + k * 4 + 1, none⟩ = some (.string da) ∧ w'.cell? ⟨bk, off + k * 4 + 2, none⟩ = some (.string db) ∧ w'.cell? ⟨bk, off + k * 4 + 3, none⟩ = some (.int .i64 dn)) w' from ⟨cell_of_row _ _ 0 _ _ (0, 0) h.box, cell_of_row _ _ 1 _ _ (0, 0) h.box, HQ.out w' h.bel⟩)
            clear hn1 hn2
            go_cut [5, 6] from 30 to 38 (fun s5 s6 wx => ∃ (q : Nat) (A3 : Option Addr) (n3 c3 : Nat) (A4 : Option Addr) (n4 c4 : Nat), s5 = .pointer (some ⟨q, 0, none⟩) ∧ s6 = .int .i64 (codeOf R : Nat) ∧ KpBox W B wx r (.slice A1 n1 c1) (.slice A2 n2 c2) q R (.slice A3 n3 c3) (.slice A4 n4 c4))
            case first =>
              refine wp_region_noPanic ?_
              refine wp_region_held_drew (S := (fun w' : World => w'.cell? ⟨B, 0, none⟩ = some (.slice A1 n1 c1) ∧ w'.cell? ⟨B, 1, none⟩ = some (.slice A2 n2 c2) ∧ w'.cell? ⟨bk, off + k * 4, none⟩ = some (.int .i64 dw) ∧ w'.cell? ⟨bk, off + k * 4 + 1, none⟩ = some (.string da) ∧ w'.cell? ⟨bk, off + k * 4 + 2, none⟩ = some (.string db) ∧ w'.cell? ⟨bk, off + k * 4 + 3, none⟩ = some (.int .i64 dn))) (by kernel_rfl) ?_ (fun hHeld => ?_)
              · exact HSS.out _ HK3.out
              refine wpAnyH_take (i := 0) (v := ?_) rfl (by kernel_rfl) (by kernel_rfl) (by kernel_rfl) (fun _ _ _ h => h) (Or.inl ⟨by rfl, ?_⟩) (by assumption) ?_
              rotate_left
              · intro w hSw
                try dsimp only at hSw
                go_simp
                try with_reducible rfl
              try simp only [Act.put, List.setIfInBounds_toArray, List.set_cons_zero, List.set_cons_succ]
              refine wpAnyH_take (i := 1) (v := ?_) rfl (by kernel_rfl) (by kernel_rfl) (by kernel_rfl) (fun _ _ _ h => h) (Or.inl ⟨by rfl, ?_⟩) (by assumption) ?_
              rotate_left
              · intro w hSw
                try dsimp only at hSw
                go_simp
                try with_reducible rfl
              try simp only [Act.put, List.setIfInBounds_toArray, List.set_cons_zero, List.set_cons_succ]
              refine wpAnyH_take (i := 2) (v := ?_) rfl (by kernel_rfl) (by kernel_rfl) (by kernel_rfl) (fun _ _ _ h => h) (Or.inl ⟨by rfl, ?_⟩) (by assumption) ?_
              rotate_left
              · intro w hSw
                try dsimp only at hSw
                go_simp
                try with_reducible rfl
              try simp only [Act.put, List.setIfInBounds_toArray, List.set_cons_zero, List.set_cons_succ]
              refine wpAnyH_take (i := 3) (v := ?_) rfl (by kernel_rfl) (by kernel_rfl) (by kernel_rfl) (fun _ _ _ h => h) (Or.inl ⟨by rfl, ?_⟩) (by assumption) ?_
              rotate_left
              · intro w hSw
                try dsimp only at hSw
                go_simp
                try with_reducible rfl
              try simp only [Act.put, List.setIfInBounds_toArray, List.set_cons_zero, List.set_cons_succ]
              refine wpAnyH_take (i := 4) (v := ?_) rfl (by kernel_rfl) (by kernel_rfl) (by kernel_rfl) (fun _ _ _ h => h) (Or.inl ⟨by rfl, ?_⟩) (by assumption) ?_
              rotate_left
              · intro w hSw
                try dsimp only at hSw
                go_simp
                try with_reducible rfl
              try simp only [Act.put, List.setIfInBounds_toArray, List.set_cons_zero, List.set_cons_succ]
              refine wpAnyH_ready (rs := [5, 9]) (by kernel_rfl) (by simp) ?_
              refine AllReadyH.cons rfl (fun K hK => ?_) ?_
              · go_simp
                go_at_call 15
                refine (HDO.out _ (HK3.out)).mono ?_
                rintro e w3 ⟨v3, rfl, hr3, hb3⟩
                obtain ⟨A3, c3, A4, c4, rfl, _, _⟩ := hr3.form
                obtain ⟨n3, hn3⟩ : ∃ n3, n3 = (rolOf R).ms.length := ⟨_, rfl⟩
                obtain ⟨n4, hn4⟩ : ∃ n4, n4 = (rolOf R).cs.length := ⟨_, rfl⟩
                rw [← hn3, ← hn4] at hr3 ⊢
                have HKA := Lib.hid (HK3.out.under hb3)
                have HRA := Lib.hid hr3
                have HBA := Lib.hid hb3
                clear hr3 hb3 hn3 hn4
                refine hK.out _ _ (HSS.out _ HKA.out) (fun hHeld => ?_)
                clear hK K
                try simp only [Act.put, List.setIfInBounds_toArray, List.set_cons_zero, List.set_cons_succ]
                refine wpAnyH_take (i := 6) (v := ?_) rfl (by kernel_rfl) (by kernel_rfl) (by kernel_rfl) (fun _ _ _ h => h) (Or.inl ⟨by rfl, ?_⟩) (by assumption) ?_
                rotate_left
                · intro w hSw
                  try dsimp only at hSw
                  go_simp
                  try with_reducible rfl
                try simp only [Act.put, List.setIfInBounds_toArray, List.set_cons_zero, List.set_cons_succ]
                refine wpAnyH_take (i := 7) (v := ?_) rfl (by kernel_rfl) (by kernel_rfl) (by kernel_rfl) (fun _ _ _ h => h) (Or.inl ⟨by rfl, ?_⟩) (by assumption) ?_
                rotate_left
                · intro w hSw
                  try dsimp only at hSw
                  go_simp
                  try with_reducible rfl
                try simp only [Act.put, List.setIfInBounds_toArray, List.set_cons_zero, List.set_cons_succ]
                refine wpAnyH_take (i := 8) (v := ?_) rfl (by kernel_rfl) (by kernel_rfl) (by kernel_rfl) (fun _ _ _ h => h) (Or.inl ⟨by rfl, ?_⟩) (by assumption) ?_
                rotate_left
                · intro w hSw
                  try dsimp only at hSw
                  go_simp
                  try with_reducible rfl
                try simp only [Act.put, List.setIfInBounds_toArray, List.set_cons_zero, List.set_cons_succ]
                refine wpAnyH_ready (rs := [9]) (by kernel_rfl) (by simp) ?_
                refine AllReadyH.cons rfl (fun K hK => ?_) AllReadyH.nil
                go_simp
                refine hK.out _ _ (HSS.out _ (HKA.out.under ((Below.refl _ _).alloc (Nat.le_refl _) _))) (fun hHeld => ?_)
                clear hK K
                try simp only [Act.put, List.setIfInBounds_toArray, List.set_cons_zero, List.set_cons_succ]
                refine wpAnyH_ready (rs := [10]) (by kernel_rfl) (by simp) ?_
                refine AllReadyH.cons rfl (fun K hK => ?_) AllReadyH.nil
                go_simp
                refine hK.out _ _ (HSS.out _ (HKA.out.under ((Below.refl _ _).alloc (Nat.le_refl _) _))) (fun hHeld => ?_)
                clear hK K
                try simp only [Act.put, List.setIfInBounds_toArray, List.set_cons_zero, List.set_cons_succ]
                refine wpAnyH_take (i := 11) (v := ?_) rfl (by kernel_rfl) (by kernel_rfl) (by kernel_rfl) (fun _ _ _ h => h) (Or.inl ⟨by rfl, ?_⟩) (by assumption) ?_
                rotate_left
                · intro w hSw
                  try dsimp only at hSw
                  go_simp
                  try with_reducible rfl
                try simp only [Act.put, List.setIfInBounds_toArray, List.set_cons_zero, List.set_cons_succ]
                refine wpAnyH_done (by kernel_rfl) ?_ _
                refine NoPanic.normal ?_
                go_wp2_with fail
                go_meet
                case rel => exact ⟨_, _, _, _, _, _, _, rfl, rfl, KpBox.late HK3.out HKA.out HRA.out HBA.out⟩
              refine AllReadyH.cons rfl (fun K hK => ?_) AllReadyH.nil
              · go_simp
                refine hK.out _ _ (HSS.out _ (HK3.out.under ((Below.refl _ _).alloc (Nat.le_refl _) _))) (fun hHeld => ?_)
                clear hK K
                try simp only [Act.put, List.setIfInBounds_toArray, List.set_cons_zero, List.set_cons_succ]
                refine wpAnyH_ready (rs := [5]) (by kernel_rfl) (by simp) ?_
                refine AllReadyH.cons rfl (fun K hK => ?_) AllReadyH.nil
                go_simp
                go_at_call 15
                refine (HDO.out _ (HK3.out.under ((Below.refl _ _).alloc (Nat.le_refl _) _))).mono ?_
                rintro e w3 ⟨v3, rfl, hr3, hb3⟩
                obtain ⟨A3, c3, A4, c4, rfl, _, _⟩ := hr3.form
                obtain ⟨n3, hn3⟩ : ∃ n3, n3 = (rolOf R).ms.length := ⟨_, rfl⟩
                obtain ⟨n4, hn4⟩ : ∃ n4, n4 = (rolOf R).cs.length := ⟨_, rfl⟩
                rw [← hn3, ← hn4] at hr3 ⊢
                have HKA := Lib.hid ((HK3.out.under ((Below.refl _ _).alloc (Nat.le_refl _) _)).under hb3)
                have HRA := Lib.hid hr3
                have HBA := Lib.hid hb3
                have hq := (HBA.out.block w2.heap.size (by simp)).trans (heap_alloc_new w2.drew _)
                have q0 := cell_of_row _ _ 0 _ _ (0, 0) hq
                have q1 := cell_of_row _ _ 1 _ _ (0, 0) hq
                have f0 := Gn.frozen_row hq 0
                have f1 := Gn.frozen_row hq 1
                have HQ9 := Lib.hid hq
                have hkb := KpBox.early HK3.out HRA.out HBA.out hq
                have HKB := Lib.hid hkb
                clear hr3 hb3 hn3 hn4 hq hkb
                refine hK.out _ _ (HSS.out _ HKA.out) (fun hHeld => ?_)
                clear hK K
                try simp only [Act.put, List.setIfInBounds_toArray, List.set_cons_zero, List.set_cons_succ]
                refine wpAnyH_take (i := 6) (v := ?_) rfl (by kernel_rfl) (by kernel_rfl) (by kernel_rfl) (fun _ _ _ h => h) (Or.inl ⟨by rfl, ?_⟩) (by assumption) ?_
                rotate_left
                · intro w hSw
                  try dsimp only at hSw
                  go_simp
                  try with_reducible rfl
                try simp only [Act.put, List.setIfInBounds_toArray, List.set_cons_zero, List.set_cons_succ]
                refine wpAnyH_take (i := 7) (v := ?_) rfl (by kernel_rfl) (by kernel_rfl) (by kernel_rfl) (fun _ _ _ h => h) (Or.inl ⟨by rfl, ?_⟩) (by assumption) ?_
                rotate_left
                · intro w hSw
                  try dsimp only at hSw
                  go_simp
                  try with_reducible rfl
                try simp only [Act.put, List.setIfInBounds_toArray, List.set_cons_zero, List.set_cons_succ]
                refine wpAnyH_take (i := 8) (v := ?_) rfl (by kernel_rfl) (by kernel_rfl) (by kernel_rfl) (fun _ _ _ h => h) (Or.inl ⟨by rfl, ?_⟩) (by assumption) ?_
                rotate_left
                · intro w hSw
                  try dsimp only at hSw
                  go_simp
                  try with_reducible rfl
                try simp only [Act.put, List.setIfInBounds_toArray, List.set_cons_zero, List.set_cons_succ]
                refine wpAnyH_ready (rs := [10]) (by kernel_rfl) (by simp) ?_
                refine AllReadyH.cons rfl (fun K hK => ?_) AllReadyH.nil
                go_simp
                refine hK.out _ _ (HSS.out _ HKB.out.kp) (fun hHeld => ?_)
                clear hK K
                try simp only [Act.put, List.setIfInBounds_toArray, List.set_cons_zero, List.set_cons_succ]
                refine wpAnyH_take (i := 11) (v := ?_) rfl (by kernel_rfl) (by kernel_rfl) (by kernel_rfl) (fun _ _ _ h => h) (Or.inl ⟨by rfl, ?_⟩) (by assumption) ?_
                rotate_left
                · intro w hSw
                  try dsimp only at hSw
                  go_simp
                  try with_reducible rfl
                try simp only [Act.put, List.setIfInBounds_toArray, List.set_cons_zero, List.set_cons_succ]
                refine wpAnyH_done (by kernel_rfl) ?_ _
                refine NoPanic.normal ?_
                go_wp2_with fail
                go_meet
                case rel => exact ⟨_, _, _, _, _, _, _, rfl, rfl, HKB.out⟩
            case rest =>
              obtain ⟨q, A3, n3, c3, A4, n4, c4, rfl, rfl, hbox⟩ := hcut
              have HBX := Lib.hid hbox
              have HW1 := Lib.hid (show IntKind.i64.wrap ((k : Int) + 1) = ((k + 1 : Nat) : Int) from IntWalk.i64_in _ (by omega))
              have hw1 := HW1.out
              clear hbox HSS HDO HK3
              by_cases hcode : codeOf R = 0
              · have hc0 : ((codeOf R : Nat) : Int) = 0 := by omega
                have hin : Inv (k + 1) (rolOf R) := by
                  match R, HIV, hcode with
                  | .error c, _, _ => exact inv_nil.mono (Nat.zero_le _)
                  | .ok r', HIV, _ => exact HIV.out r' rfl
                have HIN2 := Lib.hid hin
                have hq := HBX.out.bx
                have hbx := HBX.out.kp.box
                have q0 := cell_of_row _ _ 0 _ _ (0, 0) hq
                have q1 := cell_of_row _ _ 1 _ _ (0, 0) hq
                have b0 := cell_of_row _ _ 0 _ _ (0, 0) hbx
                have b1 := cell_of_row _ _ 1 _ _ (0, 0) hbx
                have f0 := Gn.frozen_row hbx 0
                have f1 := Gn.frozen_row hbx 1
                have HKN := Lib.hid HBX.out.next
                clear hin hq hbx hcode
                go_wp2_with fail
                go_roundw
                case rel => exact ⟨k + 1, rolOf R, _, _, by omega, by omega, by go_num, HIN2.out, HKN.out⟩
                case measure => simp [intOf]; omega
              · have hc0 : ¬ ((codeOf R : Nat) : Int) = 0 := by omega
                have HKN := Lib.hid HBX.out.kp
                clear hcode
                go_wp2_with fail
                go_roundw
                case rel => exact ⟨k + 1, r, _, _, by omega, by omega, by go_num, HIN.out.mono (Nat.le_succ _), HKN.out⟩
                case measure => simp [intOf]; omega
        · have h602 : ¬ (k : Int) < 60 := by omega
          have hke : k = 60 := by omega
          go_wp2_with fail
          go_meet
          case rel => exact ⟨r, _, _, HIN.out.mono hk60, HK.out⟩
      · have hlt2 : ¬ (k : Int) < (L : Int) := by omega
        go_wp2_with fail
        go_meet
        case rel => exact ⟨r, _, _, HIN.out.mono hk60, HK.out⟩
  case rest =>
    obtain ⟨r, vm, vc, hinv, hkp⟩ := hcut
    have HIN := Lib.hid hinv
    have HK0 := Lib.hid hkp
    obtain ⟨A1, c1, A2, c2, rfl, rfl⟩ := hkp.form
    obtain ⟨n1, hn1⟩ : ∃ n1, n1 = r.ms.length := ⟨_, rfl⟩
    obtain ⟨m, hm⟩ : ∃ m, m = r.cs.length := ⟨_, rfl⟩
    rw [← hn1, ← hm] at HK0
    have hm60 : m ≤ 60 := by rw [hm]; exact hinv.lc
    have HMM := Lib.hid hm
    clear hm hinv hkp hn1 HSP HL hL9 HH0 HC HSH HLL HKP HV HB
    go_wp2_with fail
    go_loopw [7] (fun x wr => ∃ (j : Nat), j ≤ m ∧ x = .int .i64 j ∧ KpAt W B wr r (.slice A1 n1 c1) (.slice A2 m c2)) (fun x _ => m - (intOf x).toNat)
    case atStart => exact ⟨0, Nat.zero_le _, rfl, HK0.out⟩
    case round =>
      obtain ⟨j, hjm, rfl, hkp⟩ := hrel
      have HK := Lib.hid hkp
      have b0 := cell_of_row _ _ 0 _ _ (0, 0) hkp.box
      have b1 := cell_of_row _ _ 1 _ _ (0, 0) hkp.box
      clear hkp
      by_cases hlt : j < m
      · have hlt2 : (j : Int) < (m : Int) := by omega
        have hjc : j < r.cs.length := by rw [← HMM.out]; exact hlt
        obtain ⟨g4, c4, A6, c6, e4, hc4, hg4, k1, k2, hst⟩ := HK.out.class_ hjc
        rw [← HMM.out] at e4 hc4
        injection e4 with e4 _ e5
        subst e4
        subst e5
        have hmem := List.getElem_mem hjc
        obtain ⟨c, hc⟩ : ∃ c, c = r.cs[j] := ⟨_, rfl⟩
        rw [← hc] at k1 k2 hst hmem
        obtain ⟨t1, xq, t2⟩ := HIN.out.teacher hmem
        have HRI := Lib.hid (HIN.out.rising c hmem)
        have hsl60 : c.studs.length ≤ 60 := HIN.out.ls c hmem
        have HME := Lib.hid (fun (w : World) (hb : Below wr.heap.size wr w) => Member_any r c.teacher _ w _ (HK.out.under hb).rl HIN.out.names (by have := HIN.out.lm; omega))
        rw [t1, t2] at HME
        dsimp only at HME
        obtain ⟨tc, htc⟩ : ∃ tc, tc = c.teacher := ⟨_, rfl⟩
        rw [← htc] at k1 HME
        have hw1 : IntKind.i64.wrap ((j : Int) + 1) = ((j + 1 : Nat) : Int) := IntWalk.i64_in _ (by omega)
        have HTC := Lib.hid htc
        have HMEM := Lib.hid hmem
        have HSS := Lib.hid (fun (w' : World) (b : Below wr.heap.size wr w') => show (fun w' : World => w'.cell? ⟨B, 0, none⟩ = some (.slice A1 n1 c1) ∧ w'.cell? ⟨B, 1, none⟩ = some (.slice (some ⟨g4, 0, none⟩) m c2) ∧ w'.cell? ⟨g4, j * 3 + 1, none⟩ = some (.string tc)) w' from ⟨cell_of_row _ _ 0 _ _ (0, 0) (HK.out.under b).box, cell_of_row _ _ 1 _ _ (0, 0) (HK.out.under b).box, (b.cell (p := ⟨g4, j * 3 + 1, none⟩) hg4).trans k1⟩)
        have HG4 := Lib.hid hg4
        have HK2 := Lib.hid k2
        have HST := Lib.hid hst
        clear hmem t1 t2 htc hc hst hg4 k2
        go_upto_region 15 with fail
        clear b0 b1 k1
        go_cut [8, 9] from 49 to 59 (fun s8 s9 wx => ∃ (q : Nat), s8 = .pointer (some ⟨q, 0, none⟩) ∧ s9 = .bool true ∧ NewBox wr wx q ⟨tc, 2, xq⟩)
        case first =>
          refine wp_region_noPanic ?_
          refine wp_region_held_drew (S := (fun w' : World => w'.cell? ⟨B, 0, none⟩ = some (.slice A1 n1 c1) ∧ w'.cell? ⟨B, 1, none⟩ = some (.slice (some ⟨g4, 0, none⟩) m c2) ∧ w'.cell? ⟨g4, j * 3 + 1, none⟩ = some (.string tc))) (by kernel_rfl) ?_ (fun hHeld => ?_)
          · exact HSS.out _ (Gn.below_drew (Below.refl _ _))
          refine wpAnyH_take (i := 0) (v := ?_) rfl (by kernel_rfl) (by kernel_rfl) (by kernel_rfl) (fun _ _ _ h => h) (Or.inl ⟨by rfl, ?_⟩) (by assumption) ?_
          rotate_left
          · intro w hSw
            try dsimp only at hSw
            go_simp
            try with_reducible rfl
          try simp only [Act.put, List.setIfInBounds_toArray, List.set_cons_zero, List.set_cons_succ]
          refine wpAnyH_take (i := 1) (v := ?_) rfl (by kernel_rfl) (by kernel_rfl) (by kernel_rfl) (fun _ _ _ h => h) (Or.inl ⟨by rfl, ?_⟩) (by assumption) ?_
          rotate_left
          · intro w hSw
            try dsimp only at hSw
            go_simp
            try with_reducible rfl
          try simp only [Act.put, List.setIfInBounds_toArray, List.set_cons_zero, List.set_cons_succ]
          refine wpAnyH_take (i := 2) (v := ?_) rfl (by kernel_rfl) (by kernel_rfl) (by kernel_rfl) (fun _ _ _ h => h) (Or.inl ⟨by rfl, ?_⟩) (by assumption) ?_
          rotate_left
          · intro w hSw
            try dsimp only at hSw
            go_simp
            try with_reducible rfl
          try simp only [Act.put, List.setIfInBounds_toArray, List.set_cons_zero, List.set_cons_succ]
          refine wpAnyH_take (i := 3) (v := ?_) rfl (by kernel_rfl) (by kernel_rfl) (by kernel_rfl) (fun _ _ _ h => h) (Or.inl ⟨by rfl, ?_⟩) (by assumption) ?_
          rotate_left
          · intro w hSw
            try dsimp only at hSw
            go_simp
            try with_reducible rfl
          try simp only [Act.put, List.setIfInBounds_toArray, List.set_cons_zero, List.set_cons_succ]
          refine wpAnyH_take (i := 4) (v := ?_) rfl (by kernel_rfl) (by kernel_rfl) (by kernel_rfl) (fun _ _ _ h => h) (Or.inl ⟨by rfl, ?_⟩) (by assumption) ?_
          rotate_left
          · intro w hSw
            try dsimp only at hSw
            go_simp
            try with_reducible rfl
          try simp only [Act.put, List.setIfInBounds_toArray, List.set_cons_zero, List.set_cons_succ]
          refine wpAnyH_take (i := 5) (v := ?_) rfl (by kernel_rfl) (by kernel_rfl) (by kernel_rfl) (fun _ _ _ h => h) (Or.inl ⟨by rfl, ?_⟩) (by assumption) ?_
          rotate_left
          · intro w hSw
            try dsimp only at hSw
            go_simp
            try with_reducible rfl
          try simp only [Act.put, List.setIfInBounds_toArray, List.set_cons_zero, List.set_cons_succ]
          refine wpAnyH_take (i := 6) (v := ?_) rfl (by kernel_rfl) (by kernel_rfl) (by kernel_rfl) (fun _ _ _ h => h) (Or.inl ⟨by rfl, ?_⟩) (by assumption) ?_
          rotate_left
          · intro w hSw
            try dsimp only at hSw
            go_simp
            try with_reducible rfl
          try simp only [Act.put, List.setIfInBounds_toArray, List.set_cons_zero, List.set_cons_succ]
          refine wpAnyH_ready (rs := [7, 11]) (by kernel_rfl) (by simp) ?_
          refine AllReadyH.cons rfl (fun K hK => ?_) ?_
          · go_simp
            go_at_call 16
            refine (HME.out _ (Gn.below_drew (Below.refl _ _))).mono ?_
            rintro e w3 ⟨rfl, hb3⟩
            have HBB := Lib.hid hb3
            have HNB := Lib.hid (show NewBox wr (w3.alloc (.cells #[.string tc, .int .i64 2, .int .i64 xq] 49)) w3.heap.size ⟨tc, 2, xq⟩ from (NewBox.late ⟨tc, 2, xq⟩ HBB.out).drew)
            have HBW := Lib.hid ((Gn.below_drew (Below.refl _ _)).trans (hb3.mono (Nat.le_refl _)))
            clear hb3
            refine hK.out _ _ (HSS.out _ HBW.out) (fun hHeld => ?_)
            clear hK K
            try simp only [Act.put, List.setIfInBounds_toArray, List.set_cons_zero, List.set_cons_succ]
            refine wpAnyH_take (i := 8) (v := ?_) rfl (by kernel_rfl) (by kernel_rfl) (by kernel_rfl) (fun _ _ _ h => h) (Or.inl ⟨by rfl, ?_⟩) (by assumption) ?_
            rotate_left
            · intro w hSw
              try dsimp only at hSw
              go_simp
              try with_reducible rfl
            try simp only [Act.put, List.setIfInBounds_toArray, List.set_cons_zero, List.set_cons_succ]
            refine wpAnyH_take (i := 9) (v := ?_) rfl (by kernel_rfl) (by kernel_rfl) (by kernel_rfl) (fun _ _ _ h => h) (Or.inl ⟨by rfl, ?_⟩) (by assumption) ?_
            rotate_left
            · intro w hSw
              try dsimp only at hSw
              go_simp
              try with_reducible rfl
            try simp only [Act.put, List.setIfInBounds_toArray, List.set_cons_zero, List.set_cons_succ]
            refine wpAnyH_take (i := 10) (v := ?_) rfl (by kernel_rfl) (by kernel_rfl) (by kernel_rfl) (fun _ _ _ h => h) (Or.inl ⟨by rfl, ?_⟩) (by assumption) ?_
            rotate_left
            · intro w hSw
              try dsimp only at hSw
              go_simp
              try with_reducible rfl
            try simp only [Act.put, List.setIfInBounds_toArray, List.set_cons_zero, List.set_cons_succ]
            refine wpAnyH_ready (rs := [11]) (by kernel_rfl) (by simp) ?_
            refine AllReadyH.cons rfl (fun K hK => ?_) AllReadyH.nil
            go_simp
            refine hK.out _ _ (HSS.out _ (HBW.out.trans (((Below.refl _ _).alloc (Nat.le_refl _) _).mono HBW.out.size))) (fun hHeld => ?_)
            clear hK K
            try simp only [Act.put, List.setIfInBounds_toArray, List.set_cons_zero, List.set_cons_succ]
            refine wpAnyH_ready (rs := [12]) (by kernel_rfl) (by simp) ?_
            refine AllReadyH.cons rfl (fun K hK => ?_) AllReadyH.nil
            go_simp
            refine hK.out _ _ (HSS.out _ HNB.out.1) (fun hHeld => ?_)
            clear hK K
            try simp only [Act.put, List.setIfInBounds_toArray, List.set_cons_zero, List.set_cons_succ]
            refine wpAnyH_take (i := 13) (v := ?_) rfl (by kernel_rfl) (by kernel_rfl) (by kernel_rfl) (fun _ _ _ h => h) (Or.inl ⟨by rfl, ?_⟩) (by assumption) ?_
            rotate_left
            · intro w hSw
              try dsimp only at hSw
              go_simp
              try with_reducible rfl
            try simp only [Act.put, List.setIfInBounds_toArray, List.set_cons_zero, List.set_cons_succ]
            refine wpAnyH_done (by kernel_rfl) ?_ _
            refine NoPanic.normal ?_
            go_wp2_with fail
            go_meet
            case rel => exact ⟨_, rfl, rfl, HNB.out⟩
          refine AllReadyH.cons rfl (fun K hK => ?_) AllReadyH.nil
          · go_simp
            refine hK.out _ _ (HSS.out _ ((Gn.below_drew (Below.refl _ _)).trans (((Below.refl _ _).alloc (Nat.le_refl _) _).mono (Nat.le_refl _)))) (fun hHeld => ?_)
            clear hK K
            try simp only [Act.put, List.setIfInBounds_toArray, List.set_cons_zero, List.set_cons_succ]
            refine wpAnyH_ready (rs := [7]) (by kernel_rfl) (by simp) ?_
            refine AllReadyH.cons rfl (fun K hK => ?_) AllReadyH.nil
            go_simp
            go_at_call 16
            refine (HME.out _ ((Gn.below_drew (Below.refl _ _)).trans (((Below.refl _ _).alloc (Nat.le_refl _) _).mono (Nat.le_refl _)))).mono ?_
            rintro e w3 ⟨rfl, hb3⟩
            have HBB := Lib.hid hb3
            have hq := (HBB.out.block wr.heap.size (by simp)).trans (heap_alloc_new wr.drew _)
            have q0 := cell_of_row _ _ 0 _ _ (0, 0) hq
            have q1 := cell_of_row _ _ 1 _ _ (0, 0) hq
            have q2 := cell_of_row _ _ 2 _ _ (0, 0) hq
            have f0 := Gn.frozen_row hq 0
            have f1 := Gn.frozen_row hq 1
            have f2 := Gn.frozen_row hq 2
            have HNB := Lib.hid (show NewBox wr (((w3.setCell ⟨wr.heap.size, 0, none⟩ (.string tc)).setCell ⟨wr.heap.size, 1, none⟩ (.int .i64 2)).setCell ⟨wr.heap.size, 2, none⟩ (.int .i64 xq)) wr.heap.size ⟨tc, 2, xq⟩ from (NewBox.early ⟨tc, 2, xq⟩ HBB.out hq).drew)
            clear hq
            have HBW := Lib.hid (((Gn.below_drew (Below.refl _ _)).trans (((Below.refl _ _).alloc (Nat.le_refl _) _).mono (Nat.le_refl _))).trans (hb3.mono (by simp)))
            clear hb3
            refine hK.out _ _ (HSS.out _ HBW.out) (fun hHeld => ?_)
            clear hK K
            try simp only [Act.put, List.setIfInBounds_toArray, List.set_cons_zero, List.set_cons_succ]
            refine wpAnyH_take (i := 8) (v := ?_) rfl (by kernel_rfl) (by kernel_rfl) (by kernel_rfl) (fun _ _ _ h => h) (Or.inl ⟨by rfl, ?_⟩) (by assumption) ?_
            rotate_left
            · intro w hSw
              try dsimp only at hSw
              go_simp
              try with_reducible rfl
            try simp only [Act.put, List.setIfInBounds_toArray, List.set_cons_zero, List.set_cons_succ]
            refine wpAnyH_take (i := 9) (v := ?_) rfl (by kernel_rfl) (by kernel_rfl) (by kernel_rfl) (fun _ _ _ h => h) (Or.inl ⟨by rfl, ?_⟩) (by assumption) ?_
            rotate_left
            · intro w hSw
              try dsimp only at hSw
              go_simp
              try with_reducible rfl
            try simp only [Act.put, List.setIfInBounds_toArray, List.set_cons_zero, List.set_cons_succ]
            refine wpAnyH_take (i := 10) (v := ?_) rfl (by kernel_rfl) (by kernel_rfl) (by kernel_rfl) (fun _ _ _ h => h) (Or.inl ⟨by rfl, ?_⟩) (by assumption) ?_
            rotate_left
            · intro w hSw
              try dsimp only at hSw
              go_simp
              try with_reducible rfl
            try simp only [Act.put, List.setIfInBounds_toArray, List.set_cons_zero, List.set_cons_succ]
            refine wpAnyH_ready (rs := [12]) (by kernel_rfl) (by simp) ?_
            refine AllReadyH.cons rfl (fun K hK => ?_) AllReadyH.nil
            go_simp
            refine hK.out _ _ (HSS.out _ HNB.out.1) (fun hHeld => ?_)
            clear hK K
            try simp only [Act.put, List.setIfInBounds_toArray, List.set_cons_zero, List.set_cons_succ]
            refine wpAnyH_take (i := 13) (v := ?_) rfl (by kernel_rfl) (by kernel_rfl) (by kernel_rfl) (fun _ _ _ h => h) (Or.inl ⟨by rfl, ?_⟩) (by assumption) ?_
            rotate_left
            · intro w hSw
              try dsimp only at hSw
              go_simp
              try with_reducible rfl
            try simp only [Act.put, List.setIfInBounds_toArray, List.set_cons_zero, List.set_cons_succ]
            refine wpAnyH_done (by kernel_rfl) ?_ _
            refine NoPanic.normal ?_
            go_wp2_with fail
            go_meet
            case rel => exact ⟨_, rfl, rfl, HNB.out⟩
        case rest =>
          obtain ⟨q, rfl, rfl, hbox⟩ := hcut
          have hbx : wc.heap[q]? = some (.cells #[.string tc, .int .i64 2, .int .i64 xq] 49 (0, 0)) := hbox.2
          obtain ⟨sl, hsl⟩ : ∃ sl, sl = c.studs.length := ⟨_, rfl⟩
          have HK5 := Lib.hid (HK.out.under hbox.1)
          have HST5 := Lib.hid (HST.out.under hbox.1)
          have hk5 := (hbox.1.cell (p := ⟨g4, j * 3 + 2, none⟩) HG4.out).trans HK2.out
          rw [← hsl] at HST5 hk5 hsl60
          have HK25 := Lib.hid hk5
          have HG45 := Lib.hid (Nat.lt_of_lt_of_le HG4.out hbox.1.size)
          have HBQ := Lib.hid hbx
          have HSL := Lib.hid hsl
          have HJC := Lib.hid hjc
          have t0 := cell_of_row _ _ 0 _ _ (0, 0) hbx
          have t1 := cell_of_row _ _ 1 _ _ (0, 0) hbx
          clear hbox hbx hk5 hsl HSS HST HK2 HG4 HK0 HME hjc
          rename World => w5
          go_upto_region 18 with fail
          clear t0 t1
          go_wp2_with fail
          go_loopw [10] (fun x wr => ∃ (a : Nat), a ≤ sl ∧ x = .int .i64 a ∧ Below w5.heap.size w5 wr) (fun x _ => sl - (intOf x).toNat)
          case atStart => exact ⟨0, Nat.zero_le _, rfl, Below.refl _ _⟩
          case round =>
            obtain ⟨a, hasl, rfl, hb5⟩ := hrel
            have HB5 := Lib.hid hb5
            have b0 := cell_of_row _ _ 0 _ _ (0, 0) (HK5.out.under hb5).box
            have b1 := cell_of_row _ _ 1 _ _ (0, 0) (HK5.out.under hb5).box
            have b2 := (hb5.cell (p := ⟨g4, j * 3 + 2, none⟩) HG45.out).trans HK25.out
            clear hb5
            by_cases hlta : a < sl
            · have hlta2 : (a : Int) < (sl : Int) := by omega
              have hac : a < c.studs.length := by rw [← HSL.out]; exact hlta
              obtain ⟨A7, c7, g6, e7, hc7, hA7, hcell⟩ := HST5.out
              rw [← HSL.out] at e7 hA7
              injection e7 with e7 _ e8
              subst e7
              subst e8
              obtain ⟨rfl, hg6, _⟩ := hA7 (by omega)
              obtain ⟨st, hst⟩ : ∃ st, st = c.studs[a] := ⟨_, rfl⟩
              have k3 := (HB5.out.cell (p := ⟨g6, a, none⟩) hg6).trans (hcell a hac)
              rw [← hst] at k3
              have hmem9 : st ∈ c.studs := by rw [hst]; exact List.getElem_mem hac
              obtain ⟨s1, yq, s2⟩ := HIN.out.student HMEM.out hmem9
              have HME := Lib.hid (fun (w : World) (hb : Below wr.heap.size wr w) => Member_any r st _ w _ ((HK5.out.under HB5.out).under hb).rl HIN.out.names (by have := HIN.out.lm; omega))
              rw [s1, s2] at HME
              dsimp only at HME
              have hte : teachesM r tc st = true := by
                unfold teachesM
                rw [List.any_eq_true]
                exact ⟨c, HMEM.out, by rw [Bool.and_eq_true]; exact ⟨decide_eq_true HTC.out.symm, hasN_iff.2 hmem9⟩⟩
              have HTE := Lib.hid (fun (w : World) (hb : Below wr.heap.size wr w) => teaches_any r tc st (HIN.out.sized (by omega)) _ w _ ((HK5.out.under HB5.out).under hb).rl)
              rw [hte] at HTE
              have hw3 : IntKind.i64.wrap ((a : Int) + 1) = ((a + 1 : Nat) : Int) := IntWalk.i64_in _ (by omega)
              have HSS := Lib.hid (fun (w' : World) (b : Below wr.heap.size wr w') => show (fun w' : World => w'.cell? ⟨B, 0, none⟩ = some (.slice A1 n1 c1) ∧ w'.cell? ⟨B, 1, none⟩ = some (.slice (some ⟨g4, 0, none⟩) m c2) ∧ w'.cell? ⟨g4, j * 3 + 2, none⟩ = some (.slice (some ⟨g6, 0, none⟩) sl c6) ∧ w'.cell? ⟨g6, a, none⟩ = some (.string st)) w' from ⟨(b.cell (p := ⟨B, 0, none⟩) (Gn.heap_lt (HK5.out.under HB5.out).box)).trans b0, (b.cell (p := ⟨B, 1, none⟩) (Gn.heap_lt (HK5.out.under HB5.out).box)).trans b1, (b.cell (p := ⟨g4, j * 3 + 2, none⟩) (Nat.lt_of_lt_of_le HG45.out HB5.out.size)).trans b2, (b.cell (p := ⟨g6, a, none⟩) (Nat.lt_of_lt_of_le hg6 HB5.out.size)).trans k3⟩)
              have HCE := Lib.hid (fun (i : Nat) (h : i < c.studs.length) (w' : World) (b : Below wr.heap.size wr w') => (b.cell (p := ⟨g6, i, none⟩) (Nat.lt_of_lt_of_le hg6 HB5.out.size)).trans ((HB5.out.cell (p := ⟨g6, i, none⟩) hg6).trans (hcell i h)))
              have HAC := Lib.hid hac
              have HST := Lib.hid (show ∀ h : a < c.studs.length, st = c.studs[a] from fun _ => hst)
              clear hst hac hcell hg6 hmem9 s1 s2 hte
              go_upto_region 21 with fail
              clear b0 b1 b2 k3
              go_cut [11, 12] from 78 to 91 (fun s8 s9 wx => ∃ (q2 : Nat), s8 = .pointer (some ⟨q2, 0, none⟩) ∧ s9 = .bool true ∧ NewBox wr wx q2 ⟨st, 1, yq⟩)
              case first =>
                refine wp_region_noPanic ?_
                refine wp_region_held_drew (S := (fun w' : World => w'.cell? ⟨B, 0, none⟩ = some (.slice A1 n1 c1) ∧ w'.cell? ⟨B, 1, none⟩ = some (.slice (some ⟨g4, 0, none⟩) m c2) ∧ w'.cell? ⟨g4, j * 3 + 2, none⟩ = some (.slice (some ⟨g6, 0, none⟩) sl c6) ∧ w'.cell? ⟨g6, a, none⟩ = some (.string st))) (by kernel_rfl) ?_ (fun hHeld => ?_)
                · exact HSS.out _ (Gn.below_drew (Below.refl _ _))
                refine wpAnyH_take (i := 0) (v := ?_) rfl (by kernel_rfl) (by kernel_rfl) (by kernel_rfl) (fun _ _ _ h => h) (Or.inl ⟨by rfl, ?_⟩) (by assumption) ?_
                rotate_left
                · intro w hSw
                  try dsimp only at hSw
                  go_simp
                  try with_reducible rfl
                try simp only [Act.put, List.setIfInBounds_toArray, List.set_cons_zero, List.set_cons_succ]
                refine wpAnyH_take (i := 1) (v := ?_) rfl (by kernel_rfl) (by kernel_rfl) (by kernel_rfl) (fun _ _ _ h => h) (Or.inl ⟨by rfl, ?_⟩) (by assumption) ?_
                rotate_left
                · intro w hSw
                  try dsimp only at hSw
                  go_simp
                  try with_reducible rfl
                try simp only [Act.put, List.setIfInBounds_toArray, List.set_cons_zero, List.set_cons_succ]
                refine wpAnyH_take (i := 2) (v := ?_) rfl (by kernel_rfl) (by kernel_rfl) (by kernel_rfl) (fun _ _ _ h => h) (Or.inl ⟨by rfl, ?_⟩) (by assumption) ?_
                rotate_left
                · intro w hSw
                  try dsimp only at hSw
                  go_simp
                  try with_reducible rfl
                try simp only [Act.put, List.setIfInBounds_toArray, List.set_cons_zero, List.set_cons_succ]
                refine wpAnyH_take (i := 3) (v := ?_) rfl (by kernel_rfl) (by kernel_rfl) (by kernel_rfl) (fun _ _ _ h => h) (Or.inl ⟨by rfl, ?_⟩) (by assumption) ?_
                rotate_left
                · intro w hSw
                  try dsimp only at hSw
                  go_simp
                  try with_reducible rfl
                try simp only [Act.put, List.setIfInBounds_toArray, List.set_cons_zero, List.set_cons_succ]
                refine wpAnyH_take (i := 4) (v := ?_) rfl (by kernel_rfl) (by kernel_rfl) (by kernel_rfl) (fun _ _ _ h => h) (Or.inl ⟨by rfl, ?_⟩) (by assumption) ?_
                rotate_left
                · intro w hSw
                  try dsimp only at hSw
                  go_simp
                  try with_reducible rfl
                try simp only [Act.put, List.setIfInBounds_toArray, List.set_cons_zero, List.set_cons_succ]
                refine wpAnyH_take (i := 5) (v := ?_) rfl (by kernel_rfl) (by kernel_rfl) (by kernel_rfl) (fun _ _ _ h => h) (Or.inl ⟨by rfl, ?_⟩) (by assumption) ?_
                rotate_left
                · intro w hSw
                  try dsimp only at hSw
                  go_simp
                  try with_reducible rfl
                try simp only [Act.put, List.setIfInBounds_toArray, List.set_cons_zero, List.set_cons_succ]
                refine wpAnyH_take (i := 6) (v := ?_) rfl (by kernel_rfl) (by kernel_rfl) (by kernel_rfl) (fun _ _ _ h => h) (Or.inl ⟨by rfl, ?_⟩) (by assumption) ?_
                rotate_left
                · intro w hSw
                  try dsimp only at hSw
                  go_simp
                  try with_reducible rfl
                try simp only [Act.put, List.setIfInBounds_toArray, List.set_cons_zero, List.set_cons_succ]
                refine wpAnyH_take (i := 7) (v := ?_) rfl (by kernel_rfl) (by kernel_rfl) (by kernel_rfl) (fun _ _ _ h => h) (Or.inl ⟨by rfl, ?_⟩) (by assumption) ?_
                rotate_left
                · intro w hSw
                  try dsimp only at hSw
                  go_simp
                  try with_reducible rfl
                try simp only [Act.put, List.setIfInBounds_toArray, List.set_cons_zero, List.set_cons_succ]
                refine wpAnyH_take (i := 8) (v := ?_) rfl (by kernel_rfl) (by kernel_rfl) (by kernel_rfl) (fun _ _ _ h => h) (Or.inl ⟨by rfl, ?_⟩) (by assumption) ?_
                rotate_left
                · intro w hSw
                  try dsimp only at hSw
                  go_simp
                  try with_reducible rfl
                try simp only [Act.put, List.setIfInBounds_toArray, List.set_cons_zero, List.set_cons_succ]
                refine wpAnyH_take (i := 9) (v := ?_) rfl (by kernel_rfl) (by kernel_rfl) (by kernel_rfl) (fun _ _ _ h => h) (Or.inl ⟨by rfl, ?_⟩) (by assumption) ?_
                rotate_left
                · intro w hSw
                  try dsimp only at hSw
                  go_simp
                  try with_reducible rfl
                try simp only [Act.put, List.setIfInBounds_toArray, List.set_cons_zero, List.set_cons_succ]
                refine wpAnyH_ready (rs := [10, 14]) (by kernel_rfl) (by simp) ?_
                refine AllReadyH.cons rfl (fun K hK => ?_) ?_
                · go_simp
                  go_at_call 16
                  refine (HME.out _ (Gn.below_drew (Below.refl _ _))).mono ?_
                  rintro e w3 ⟨rfl, hb3⟩
                  have HBB := Lib.hid hb3
                  have HNB := Lib.hid (show NewBox wr (w3.alloc (.cells #[.string st, .int .i64 1, .int .i64 yq] 49)) w3.heap.size ⟨st, 1, yq⟩ from (NewBox.late ⟨st, 1, yq⟩ HBB.out).drew)
                  have HBW := Lib.hid ((Gn.below_drew (Below.refl _ _)).trans (hb3.mono (Nat.le_refl _)))
                  clear hb3
                  refine hK.out _ _ (HSS.out _ HBW.out) (fun hHeld => ?_)
                  clear hK K
                  try simp only [Act.put, List.setIfInBounds_toArray, List.set_cons_zero, List.set_cons_succ]
                  refine wpAnyH_take (i := 11) (v := ?_) rfl (by kernel_rfl) (by kernel_rfl) (by kernel_rfl) (fun _ _ _ h => h) (Or.inl ⟨by rfl, ?_⟩) (by assumption) ?_
                  rotate_left
                  · intro w hSw
                    try dsimp only at hSw
                    go_simp
                    try with_reducible rfl
                  try simp only [Act.put, List.setIfInBounds_toArray, List.set_cons_zero, List.set_cons_succ]
                  refine wpAnyH_take (i := 12) (v := ?_) rfl (by kernel_rfl) (by kernel_rfl) (by kernel_rfl) (fun _ _ _ h => h) (Or.inl ⟨by rfl, ?_⟩) (by assumption) ?_
                  rotate_left
                  · intro w hSw
                    try dsimp only at hSw
                    go_simp
                    try with_reducible rfl
                  try simp only [Act.put, List.setIfInBounds_toArray, List.set_cons_zero, List.set_cons_succ]
                  refine wpAnyH_take (i := 13) (v := ?_) rfl (by kernel_rfl) (by kernel_rfl) (by kernel_rfl) (fun _ _ _ h => h) (Or.inl ⟨by rfl, ?_⟩) (by assumption) ?_
                  rotate_left
                  · intro w hSw
                    try dsimp only at hSw
                    go_simp
                    try with_reducible rfl
                  try simp only [Act.put, List.setIfInBounds_toArray, List.set_cons_zero, List.set_cons_succ]
                  refine wpAnyH_ready (rs := [14]) (by kernel_rfl) (by simp) ?_
                  refine AllReadyH.cons rfl (fun K hK => ?_) AllReadyH.nil
                  go_simp
                  refine hK.out _ _ (HSS.out _ (HBW.out.trans (((Below.refl _ _).alloc (Nat.le_refl _) _).mono HBW.out.size))) (fun hHeld => ?_)
                  clear hK K
                  try simp only [Act.put, List.setIfInBounds_toArray, List.set_cons_zero, List.set_cons_succ]
                  refine wpAnyH_ready (rs := [15]) (by kernel_rfl) (by simp) ?_
                  refine AllReadyH.cons rfl (fun K hK => ?_) AllReadyH.nil
                  go_simp
                  refine hK.out _ _ (HSS.out _ HNB.out.1) (fun hHeld => ?_)
                  clear hK K
                  try simp only [Act.put, List.setIfInBounds_toArray, List.set_cons_zero, List.set_cons_succ]
                  refine wpAnyH_take (i := 16) (v := ?_) rfl (by kernel_rfl) (by kernel_rfl) (by kernel_rfl) (fun _ _ _ h => h) (Or.inl ⟨by rfl, ?_⟩) (by assumption) ?_
                  rotate_left
                  · intro w hSw
                    try dsimp only at hSw
                    go_simp
                    try with_reducible rfl
                  try simp only [Act.put, List.setIfInBounds_toArray, List.set_cons_zero, List.set_cons_succ]
                  refine wpAnyH_done (by kernel_rfl) ?_ _
                  refine NoPanic.normal ?_
                  go_wp2_with fail
                  go_meet
                  case rel => exact ⟨_, rfl, rfl, HNB.out⟩
                refine AllReadyH.cons rfl (fun K hK => ?_) AllReadyH.nil
                · go_simp
                  refine hK.out _ _ (HSS.out _ ((Gn.below_drew (Below.refl _ _)).trans (((Below.refl _ _).alloc (Nat.le_refl _) _).mono (Nat.le_refl _)))) (fun hHeld => ?_)
                  clear hK K
                  try simp only [Act.put, List.setIfInBounds_toArray, List.set_cons_zero, List.set_cons_succ]
                  refine wpAnyH_ready (rs := [10]) (by kernel_rfl) (by simp) ?_
                  refine AllReadyH.cons rfl (fun K hK => ?_) AllReadyH.nil
                  go_simp
                  go_at_call 16
                  refine (HME.out _ ((Gn.below_drew (Below.refl _ _)).trans (((Below.refl _ _).alloc (Nat.le_refl _) _).mono (Nat.le_refl _)))).mono ?_
                  rintro e w3 ⟨rfl, hb3⟩
                  have HBB := Lib.hid hb3
                  have hq := (HBB.out.block wr.heap.size (by simp)).trans (heap_alloc_new wr.drew _)
                  have q0 := cell_of_row _ _ 0 _ _ (0, 0) hq
                  have q1 := cell_of_row _ _ 1 _ _ (0, 0) hq
                  have q2 := cell_of_row _ _ 2 _ _ (0, 0) hq
                  have f0 := Gn.frozen_row hq 0
                  have f1 := Gn.frozen_row hq 1
                  have f2 := Gn.frozen_row hq 2
                  have HNB := Lib.hid (show NewBox wr (((w3.setCell ⟨wr.heap.size, 0, none⟩ (.string st)).setCell ⟨wr.heap.size, 1, none⟩ (.int .i64 1)).setCell ⟨wr.heap.size, 2, none⟩ (.int .i64 yq)) wr.heap.size ⟨st, 1, yq⟩ from (NewBox.early ⟨st, 1, yq⟩ HBB.out hq).drew)
                  clear hq
                  have HBW := Lib.hid (((Gn.below_drew (Below.refl _ _)).trans (((Below.refl _ _).alloc (Nat.le_refl _) _).mono (Nat.le_refl _))).trans (hb3.mono (by simp)))
                  clear hb3
                  refine hK.out _ _ (HSS.out _ HBW.out) (fun hHeld => ?_)
                  clear hK K
                  try simp only [Act.put, List.setIfInBounds_toArray, List.set_cons_zero, List.set_cons_succ]
                  refine wpAnyH_take (i := 11) (v := ?_) rfl (by kernel_rfl) (by kernel_rfl) (by kernel_rfl) (fun _ _ _ h => h) (Or.inl ⟨by rfl, ?_⟩) (by assumption) ?_
                  rotate_left
                  · intro w hSw
                    try dsimp only at hSw
                    go_simp
                    try with_reducible rfl
                  try simp only [Act.put, List.setIfInBounds_toArray, List.set_cons_zero, List.set_cons_succ]
                  refine wpAnyH_take (i := 12) (v := ?_) rfl (by kernel_rfl) (by kernel_rfl) (by kernel_rfl) (fun _ _ _ h => h) (Or.inl ⟨by rfl, ?_⟩) (by assumption) ?_
                  rotate_left
                  · intro w hSw
                    try dsimp only at hSw
                    go_simp
                    try with_reducible rfl
                  try simp only [Act.put, List.setIfInBounds_toArray, List.set_cons_zero, List.set_cons_succ]
                  refine wpAnyH_take (i := 13) (v := ?_) rfl (by kernel_rfl) (by kernel_rfl) (by kernel_rfl) (fun _ _ _ h => h) (Or.inl ⟨by rfl, ?_⟩) (by assumption) ?_
                  rotate_left
                  · intro w hSw
                    try dsimp only at hSw
                    go_simp
                    try with_reducible rfl
                  try simp only [Act.put, List.setIfInBounds_toArray, List.set_cons_zero, List.set_cons_succ]
                  refine wpAnyH_ready (rs := [15]) (by kernel_rfl) (by simp) ?_
                  refine AllReadyH.cons rfl (fun K hK => ?_) AllReadyH.nil
                  go_simp
                  refine hK.out _ _ (HSS.out _ HNB.out.1) (fun hHeld => ?_)
                  clear hK K
                  try simp only [Act.put, List.setIfInBounds_toArray, List.set_cons_zero, List.set_cons_succ]
                  refine wpAnyH_take (i := 16) (v := ?_) rfl (by kernel_rfl) (by kernel_rfl) (by kernel_rfl) (fun _ _ _ h => h) (Or.inl ⟨by rfl, ?_⟩) (by assumption) ?_
                  rotate_left
                  · intro w hSw
                    try dsimp only at hSw
                    go_simp
                    try with_reducible rfl
                  try simp only [Act.put, List.setIfInBounds_toArray, List.set_cons_zero, List.set_cons_succ]
                  refine wpAnyH_done (by kernel_rfl) ?_ _
                  refine NoPanic.normal ?_
                  go_wp2_with fail
                  go_meet
                  case rel => exact ⟨_, rfl, rfl, HNB.out⟩
              case rest =>
                obtain ⟨q2, rfl, rfl, hbox⟩ := hcut
                have hbx : wc.heap[q2]? = some (.cells #[.string st, .int .i64 1, .int .i64 yq] 49 (0, 0)) := hbox.2
                have HB7 := Lib.hid (HB5.out.trans (hbox.1.mono HB5.out.size))
                have HF := Lib.hid (fun (w' : World) (b : Below wc.heap.size wc w') => show w'.cell? ⟨B, 0, none⟩ = some (.slice A1 n1 c1) ∧ w'.cell? ⟨B, 1, none⟩ = some (.slice (some ⟨g4, 0, none⟩) m c2) ∧ w'.cell? ⟨g4, j * 3 + 2, none⟩ = some (.slice (some ⟨g6, 0, none⟩) sl c6) ∧ w'.cell? ⟨g6, a, none⟩ = some (.string st) ∧ w'.cell? ⟨q, 0, none⟩ = some (.string tc) ∧ w'.cell? ⟨q2, 0, none⟩ = some (.string st) ∧ w'.cell? ⟨q2, 1, none⟩ = some (.int .i64 1) from by
                  obtain ⟨y1, y2, y3, y4⟩ := HSS.out w' (hbox.1.trans (b.mono hbox.1.size))
                  have h1 := (b.block _ (Gn.heap_lt hbx)).trans hbx
                  have h2 := ((HB7.out.trans (b.mono HB7.out.size)).block _ (Gn.heap_lt HBQ.out)).trans HBQ.out
                  exact ⟨y1, y2, y3, y4, cell_of_row _ _ 0 _ _ (0, 0) h2, cell_of_row _ _ 0 _ _ (0, 0) h1, cell_of_row _ _ 1 _ _ (0, 0) h1⟩)
                have HTE7 := Lib.hid (fun (w' : World) (b : Below wc.heap.size wc w') => HTE.out w' (hbox.1.trans (b.mono hbox.1.size)))
                have HCE7 := Lib.hid (fun (i : Nat) (h : i < c.studs.length) (w' : World) (b : Below wc.heap.size wc w') => HCE.out i h w' (hbox.1.trans (b.mono hbox.1.size)))
                clear hbox hbx HSS HTE HCE HME
                rename World => w7
                go_upto_region 22 with fail
                by_cases ha0 : a = 0
                · have ha1 : ¬ (0 : Int) < (a : Int) := by omega
                  clear ha0
                  refine LooseD.region_loose (fun w => Below w7.heap.size w7 w) _ _ (by kernel_rfl) (by kernel_rfl)
                    (LooseD.waits (D := [[], [], [], [], [], [], [], [], [], [], [], [], [], [], [], [], [], [], [], [], [], [], [], [], [], [], [], [], [], [], [], [], [], [], [], [], [], [], [], [], [], []]) (by kernel_rfl))
                    (LooseD.stays (ts := [none, none, none, none, none, none, none, none, none, none, none, none, none, some (.is (.bool true)), none, none, none, none, none, none, none, none, none, none, none, none, none, none, none, none, none, none, none, none, none, none, none, none, none, none, none, none]) (fun w w' h b => h.trans (b.mono h.size)) (.none (.none (.none (.none (.none (.none (.none (.none (.none (.none (.none (.none (.none (.is (.none (.none (.none (.none (.none (.none (.none (.none (.none (.none (.none (.none (.none (.none (.none (.none (.none (.none (.none (.none (.none (.none (.none (.none (.none (.none (.none (.none .nil)))))))))))))))))))))))))))))))))))))))))))
                    (Gn.below_drew (Below.refl _ _)) ?_
                  refine LooseD.reads (.bool true) rfl rfl ?_ ?_
                  · intro w hw
                    obtain ⟨y1, y2, y3, y4, y5, y6, y7⟩ := HF.out w hw
                    clear hw
                    go_simp
                  try simp only [Act.put, List.setIfInBounds_toArray, List.set_cons_zero, List.set_cons_succ]
                  refine LooseD.reads (.bool false) rfl rfl ?_ ?_
                  · intro w hw
                    obtain ⟨y1, y2, y3, y4, y5, y6, y7⟩ := HF.out w hw
                    clear hw
                    go_simp
                  try simp only [Act.put, List.setIfInBounds_toArray, List.set_cons_zero, List.set_cons_succ]
                  refine LooseD.reads (.bool false) rfl rfl ?_ ?_
                  · intro w hw
                    obtain ⟨y1, y2, y3, y4, y5, y6, y7⟩ := HF.out w hw
                    clear hw
                    go_simp
                  try simp only [Act.put, List.setIfInBounds_toArray, List.set_cons_zero, List.set_cons_succ]
                  refine LooseD.reads (.pointer (some ⟨q2, 1, none⟩)) rfl rfl ?_ ?_
                  · intro w hw
                    obtain ⟨y1, y2, y3, y4, y5, y6, y7⟩ := HF.out w hw
                    clear hw
                    go_simp
                  try simp only [Act.put, List.setIfInBounds_toArray, List.set_cons_zero, List.set_cons_succ]
                  refine LooseD.reads (.int .i64 1) rfl rfl ?_ ?_
                  · intro w hw
                    obtain ⟨y1, y2, y3, y4, y5, y6, y7⟩ := HF.out w hw
                    clear hw
                    go_simp
                  try simp only [Act.put, List.setIfInBounds_toArray, List.set_cons_zero, List.set_cons_succ]
                  refine LooseD.reads (.bool false) rfl rfl ?_ ?_
                  · intro w hw
                    obtain ⟨y1, y2, y3, y4, y5, y6, y7⟩ := HF.out w hw
                    clear hw
                    go_simp
                  try simp only [Act.put, List.setIfInBounds_toArray, List.set_cons_zero, List.set_cons_succ]
                  refine LooseD.reads (.bool false) rfl rfl ?_ ?_
                  · intro w hw
                    obtain ⟨y1, y2, y3, y4, y5, y6, y7⟩ := HF.out w hw
                    clear hw
                    go_simp
                  try simp only [Act.put, List.setIfInBounds_toArray, List.set_cons_zero, List.set_cons_succ]
                  refine LooseD.reads (.bool false) rfl rfl ?_ ?_
                  · intro w hw
                    obtain ⟨y1, y2, y3, y4, y5, y6, y7⟩ := HF.out w hw
                    clear hw
                    go_simp
                  try simp only [Act.put, List.setIfInBounds_toArray, List.set_cons_zero, List.set_cons_succ]
                  refine LooseD.reads (.agg #[.slice A1 n1 c1, .slice (some ⟨g4, 0, none⟩) m c2]) rfl rfl ?_ ?_
                  · intro w hw
                    obtain ⟨y1, y2, y3, y4, y5, y6, y7⟩ := HF.out w hw
                    clear hw
                    go_simp
                  try simp only [Act.put, List.setIfInBounds_toArray, List.set_cons_zero, List.set_cons_succ]
                  refine LooseD.reads (.pointer (some ⟨q, 0, none⟩)) rfl rfl ?_ ?_
                  · intro w hw
                    obtain ⟨y1, y2, y3, y4, y5, y6, y7⟩ := HF.out w hw
                    clear hw
                    go_simp
                  try simp only [Act.put, List.setIfInBounds_toArray, List.set_cons_zero, List.set_cons_succ]
                  refine LooseD.reads (.string tc) rfl rfl ?_ ?_
                  · intro w hw
                    obtain ⟨y1, y2, y3, y4, y5, y6, y7⟩ := HF.out w hw
                    clear hw
                    go_simp
                  try simp only [Act.put, List.setIfInBounds_toArray, List.set_cons_zero, List.set_cons_succ]
                  refine LooseD.reads (.pointer (some ⟨q2, 0, none⟩)) rfl rfl ?_ ?_
                  · intro w hw
                    obtain ⟨y1, y2, y3, y4, y5, y6, y7⟩ := HF.out w hw
                    clear hw
                    go_simp
                  try simp only [Act.put, List.setIfInBounds_toArray, List.set_cons_zero, List.set_cons_succ]
                  refine LooseD.reads (.string st) rfl rfl ?_ ?_
                  · intro w hw
                    obtain ⟨y1, y2, y3, y4, y5, y6, y7⟩ := HF.out w hw
                    clear hw
                    go_simp
                  try simp only [Act.put, List.setIfInBounds_toArray, List.set_cons_zero, List.set_cons_succ]
                  refine LooseD.gives (.bool true) 17 #[.agg #[.slice A1 n1 c1, .slice (some ⟨g4, 0, none⟩) m c2], .string tc, .string st] rfl rfl ?_ (fun w hw hH => HTE7.out w hw) ?_
                  · intro w hw
                    clear hw
                    go_simp
                  try simp only [Act.put, List.setIfInBounds_toArray, List.set_cons_zero, List.set_cons_succ]
                  refine LooseD.reads (.bool false) rfl rfl ?_ ?_
                  · intro w hw
                    obtain ⟨y1, y2, y3, y4, y5, y6, y7⟩ := HF.out w hw
                    clear hw
                    go_simp
                  try simp only [Act.put, List.setIfInBounds_toArray, List.set_cons_zero, List.set_cons_succ]
                  refine LooseD.reads (.bool false) rfl rfl ?_ ?_
                  · intro w hw
                    obtain ⟨y1, y2, y3, y4, y5, y6, y7⟩ := HF.out w hw
                    clear hw
                    go_simp
                  try simp only [Act.put, List.setIfInBounds_toArray, List.set_cons_zero, List.set_cons_succ]
                  refine LooseD.reads (.bool false) rfl rfl ?_ ?_
                  · intro w hw
                    obtain ⟨y1, y2, y3, y4, y5, y6, y7⟩ := HF.out w hw
                    clear hw
                    go_simp
                  try simp only [Act.put, List.setIfInBounds_toArray, List.set_cons_zero, List.set_cons_succ]
                  refine LooseD.reads (.int .i64 a) rfl rfl ?_ ?_
                  · intro w hw
                    obtain ⟨y1, y2, y3, y4, y5, y6, y7⟩ := HF.out w hw
                    clear hw
                    go_simp
                  try simp only [Act.put, List.setIfInBounds_toArray, List.set_cons_zero, List.set_cons_succ]
                  refine LooseD.reads (.bool false) rfl rfl ?_ ?_
                  · intro w hw
                    obtain ⟨y1, y2, y3, y4, y5, y6, y7⟩ := HF.out w hw
                    clear hw
                    go_simp
                    all_goals omega
                  try simp only [Act.put, List.setIfInBounds_toArray, List.set_cons_zero, List.set_cons_succ]
                  refine LooseD.reads (.bool false) rfl rfl ?_ ?_
                  · intro w hw
                    obtain ⟨y1, y2, y3, y4, y5, y6, y7⟩ := HF.out w hw
                    clear hw
                    go_simp
                  try simp only [Act.put, List.setIfInBounds_toArray, List.set_cons_zero, List.set_cons_succ]
                  refine LooseD.unwanted rfl ?_
                  try simp only [Act.put, List.setIfInBounds_toArray, List.set_cons_zero, List.set_cons_succ]
                  refine LooseD.unwanted rfl ?_
                  try simp only [Act.put, List.setIfInBounds_toArray, List.set_cons_zero, List.set_cons_succ]
                  refine LooseD.unwanted rfl ?_
                  try simp only [Act.put, List.setIfInBounds_toArray, List.set_cons_zero, List.set_cons_succ]
                  refine LooseD.unwanted rfl ?_
                  try simp only [Act.put, List.setIfInBounds_toArray, List.set_cons_zero, List.set_cons_succ]
                  refine LooseD.unwanted rfl ?_
                  try simp only [Act.put, List.setIfInBounds_toArray, List.set_cons_zero, List.set_cons_succ]
                  refine LooseD.unwanted rfl ?_
                  try simp only [Act.put, List.setIfInBounds_toArray, List.set_cons_zero, List.set_cons_succ]
                  refine LooseD.unwanted rfl ?_
                  try simp only [Act.put, List.setIfInBounds_toArray, List.set_cons_zero, List.set_cons_succ]
                  refine LooseD.unwanted rfl ?_
                  try simp only [Act.put, List.setIfInBounds_toArray, List.set_cons_zero, List.set_cons_succ]
                  refine LooseD.unwanted rfl ?_
                  try simp only [Act.put, List.setIfInBounds_toArray, List.set_cons_zero, List.set_cons_succ]
                  refine LooseD.unwanted rfl ?_
                  try simp only [Act.put, List.setIfInBounds_toArray, List.set_cons_zero, List.set_cons_succ]
                  refine LooseD.unwanted rfl ?_
                  try simp only [Act.put, List.setIfInBounds_toArray, List.set_cons_zero, List.set_cons_succ]
                  refine LooseD.unwanted rfl ?_
                  try simp only [Act.put, List.setIfInBounds_toArray, List.set_cons_zero, List.set_cons_succ]
                  refine LooseD.unwanted rfl ?_
                  try simp only [Act.put, List.setIfInBounds_toArray, List.set_cons_zero, List.set_cons_succ]
                  refine LooseD.unwanted rfl ?_
                  try simp only [Act.put, List.setIfInBounds_toArray, List.set_cons_zero, List.set_cons_succ]
                  refine LooseD.unwanted rfl ?_
                  try simp only [Act.put, List.setIfInBounds_toArray, List.set_cons_zero, List.set_cons_succ]
                  refine LooseD.unwanted rfl ?_
                  try simp only [Act.put, List.setIfInBounds_toArray, List.set_cons_zero, List.set_cons_succ]
                  refine LooseD.unwanted rfl ?_
                  try simp only [Act.put, List.setIfInBounds_toArray, List.set_cons_zero, List.set_cons_succ]
                  refine LooseD.unwanted rfl ?_
                  try simp only [Act.put, List.setIfInBounds_toArray, List.set_cons_zero, List.set_cons_succ]
                  refine LooseD.unwanted rfl ?_
                  try simp only [Act.put, List.setIfInBounds_toArray, List.set_cons_zero, List.set_cons_succ]
                  refine LooseD.unwanted rfl ?_
                  try simp only [Act.put, List.setIfInBounds_toArray, List.set_cons_zero, List.set_cons_succ]
                  refine LooseD.reads (.bool false) rfl rfl ?_ ?_
                  · intro w hw
                    obtain ⟨y1, y2, y3, y4, y5, y6, y7⟩ := HF.out w hw
                    clear hw
                    go_simp
                  try simp only [Act.put, List.setIfInBounds_toArray, List.set_cons_zero, List.set_cons_succ]
                  refine LooseD.reads (.bool false) rfl rfl ?_ ?_
                  · intro w hw
                    obtain ⟨y1, y2, y3, y4, y5, y6, y7⟩ := HF.out w hw
                    clear hw
                    go_simp
                  try simp only [Act.put, List.setIfInBounds_toArray, List.set_cons_zero, List.set_cons_succ]
                  refine LooseD.done ?_
                  intro w8 hw8 _
                  have HB8 := Lib.hid (HB7.out.trans (hw8.mono HB7.out.size))
                  clear hw8
                  go_wp2_with fail
                  go_roundw
                  case rel => exact ⟨a + 1, by omega, by go_num, HB8.out⟩
                  case measure => simp [intOf]; omega
                · have ha1 : (0 : Int) < (a : Int) := by omega
                  obtain ⟨sp, hsp⟩ : ∃ sp, sp = c.studs[a - 1]'(by have := HAC.out; omega) := ⟨_, rfl⟩
                  have HSPC := Lib.hid (fun (w' : World) (b : Below w7.heap.size w7 w') => show w'.cell? ⟨g6, a - 1, none⟩ = some (.string sp) from by rw [hsp]; exact HCE7.out (a - 1) (by have := HAC.out; omega) w' b)
                  have hcmp : cmpN sp st < 0 := by
                    rw [hsp, HST.out HAC.out]
                    exact HRI.out.at_ (by omega) HAC.out
                  have hbl : Op.bytesLess st.toList sp.toList = false := by
                    rw [less_cmp, Lib.toList_data, Lib.toList_data]
                    exact decide_eq_false (fun h : cmpN st sp < 0 => by rw [cmpN_neg sp] at h; omega)
                  have heq9 : (st.toList == sp.toList) = false := by
                    rw [str_list]
                    exact decide_eq_false (fun e => by rw [e, cmpN_self] at hcmp; exact absurd hcmp (by decide))
                  have hle : ∀ w, (binOp .leq 9 (.string st) (.string sp)).run Try.prog w = .ok (.bool false) w := fun w => by
                    have hq : (binOp .leq 9 (.string st) (.string sp)).run Try.prog w = .ok (.bool (Op.bytesLess st.toList sp.toList || st.toList == sp.toList)) w := by first | rfl | kernel_rfl
                    rw [hq, hbl, heq9]; rfl
                  have hw4 : IntKind.i64.wrap ((a : Int) - 1) = ((a - 1 : Nat) : Int) := by
                    rw [show (a : Int) - 1 = ((a - 1 : Nat) : Int) by omega]; exact IntWalk.i64_in _ (by omega)
                  have hl4 : a - 1 < sl := by omega
                  clear hsp hcmp hbl heq9
                  refine LooseD.region_loose (fun w => Below w7.heap.size w7 w) _ _ (by kernel_rfl) (by kernel_rfl)
                    (LooseD.waits (D := [[], [], [], [], [], [], [], [], [], [], [], [], [], [], [], [], [], [], [], [], [], [], [], [], [], [], [], [], [], [], [], [], [], [], [], [], [], [], [], [], [], []]) (by kernel_rfl))
                    (LooseD.stays (ts := [none, none, none, none, none, none, none, none, none, none, none, none, none, some (.is (.bool true)), none, none, none, none, none, none, none, none, none, none, none, none, none, none, none, none, none, none, none, none, none, none, none, none, none, none, none, none]) (fun w w' h b => h.trans (b.mono h.size)) (.none (.none (.none (.none (.none (.none (.none (.none (.none (.none (.none (.none (.none (.is (.none (.none (.none (.none (.none (.none (.none (.none (.none (.none (.none (.none (.none (.none (.none (.none (.none (.none (.none (.none (.none (.none (.none (.none (.none (.none (.none (.none .nil)))))))))))))))))))))))))))))))))))))))))))
                    (Gn.below_drew (Below.refl _ _)) ?_
                  refine LooseD.reads (.bool true) rfl rfl ?_ ?_
                  · intro w hw
                    obtain ⟨y1, y2, y3, y4, y5, y6, y7⟩ := HF.out w hw
                    clear hw
                    go_simp
                  try simp only [Act.put, List.setIfInBounds_toArray, List.set_cons_zero, List.set_cons_succ]
                  refine LooseD.reads (.bool false) rfl rfl ?_ ?_
                  · intro w hw
                    obtain ⟨y1, y2, y3, y4, y5, y6, y7⟩ := HF.out w hw
                    clear hw
                    go_simp
                  try simp only [Act.put, List.setIfInBounds_toArray, List.set_cons_zero, List.set_cons_succ]
                  refine LooseD.reads (.bool false) rfl rfl ?_ ?_
                  · intro w hw
                    obtain ⟨y1, y2, y3, y4, y5, y6, y7⟩ := HF.out w hw
                    clear hw
                    go_simp
                  try simp only [Act.put, List.setIfInBounds_toArray, List.set_cons_zero, List.set_cons_succ]
                  refine LooseD.reads (.pointer (some ⟨q2, 1, none⟩)) rfl rfl ?_ ?_
                  · intro w hw
                    obtain ⟨y1, y2, y3, y4, y5, y6, y7⟩ := HF.out w hw
                    clear hw
                    go_simp
                  try simp only [Act.put, List.setIfInBounds_toArray, List.set_cons_zero, List.set_cons_succ]
                  refine LooseD.reads (.int .i64 1) rfl rfl ?_ ?_
                  · intro w hw
                    obtain ⟨y1, y2, y3, y4, y5, y6, y7⟩ := HF.out w hw
                    clear hw
                    go_simp
                  try simp only [Act.put, List.setIfInBounds_toArray, List.set_cons_zero, List.set_cons_succ]
                  refine LooseD.reads (.bool false) rfl rfl ?_ ?_
                  · intro w hw
                    obtain ⟨y1, y2, y3, y4, y5, y6, y7⟩ := HF.out w hw
                    clear hw
                    go_simp
                  try simp only [Act.put, List.setIfInBounds_toArray, List.set_cons_zero, List.set_cons_succ]
                  refine LooseD.reads (.bool false) rfl rfl ?_ ?_
                  · intro w hw
                    obtain ⟨y1, y2, y3, y4, y5, y6, y7⟩ := HF.out w hw
                    clear hw
                    go_simp
                  try simp only [Act.put, List.setIfInBounds_toArray, List.set_cons_zero, List.set_cons_succ]
                  refine LooseD.reads (.bool false) rfl rfl ?_ ?_
                  · intro w hw
                    obtain ⟨y1, y2, y3, y4, y5, y6, y7⟩ := HF.out w hw
                    clear hw
                    go_simp
                  try simp only [Act.put, List.setIfInBounds_toArray, List.set_cons_zero, List.set_cons_succ]
                  refine LooseD.reads (.agg #[.slice A1 n1 c1, .slice (some ⟨g4, 0, none⟩) m c2]) rfl rfl ?_ ?_
                  · intro w hw
                    obtain ⟨y1, y2, y3, y4, y5, y6, y7⟩ := HF.out w hw
                    clear hw
                    go_simp
                  try simp only [Act.put, List.setIfInBounds_toArray, List.set_cons_zero, List.set_cons_succ]
                  refine LooseD.reads (.pointer (some ⟨q, 0, none⟩)) rfl rfl ?_ ?_
                  · intro w hw
                    obtain ⟨y1, y2, y3, y4, y5, y6, y7⟩ := HF.out w hw
                    clear hw
                    go_simp
                  try simp only [Act.put, List.setIfInBounds_toArray, List.set_cons_zero, List.set_cons_succ]
                  refine LooseD.reads (.string tc) rfl rfl ?_ ?_
                  · intro w hw
                    obtain ⟨y1, y2, y3, y4, y5, y6, y7⟩ := HF.out w hw
                    clear hw
                    go_simp
                  try simp only [Act.put, List.setIfInBounds_toArray, List.set_cons_zero, List.set_cons_succ]
                  refine LooseD.reads (.pointer (some ⟨q2, 0, none⟩)) rfl rfl ?_ ?_
                  · intro w hw
                    obtain ⟨y1, y2, y3, y4, y5, y6, y7⟩ := HF.out w hw
                    clear hw
                    go_simp
                  try simp only [Act.put, List.setIfInBounds_toArray, List.set_cons_zero, List.set_cons_succ]
                  refine LooseD.reads (.string st) rfl rfl ?_ ?_
                  · intro w hw
                    obtain ⟨y1, y2, y3, y4, y5, y6, y7⟩ := HF.out w hw
                    clear hw
                    go_simp
                  try simp only [Act.put, List.setIfInBounds_toArray, List.set_cons_zero, List.set_cons_succ]
                  refine LooseD.gives (.bool true) 17 #[.agg #[.slice A1 n1 c1, .slice (some ⟨g4, 0, none⟩) m c2], .string tc, .string st] rfl rfl ?_ (fun w hw hH => HTE7.out w hw) ?_
                  · intro w hw
                    clear hw
                    go_simp
                  try simp only [Act.put, List.setIfInBounds_toArray, List.set_cons_zero, List.set_cons_succ]
                  refine LooseD.reads (.bool false) rfl rfl ?_ ?_
                  · intro w hw
                    obtain ⟨y1, y2, y3, y4, y5, y6, y7⟩ := HF.out w hw
                    clear hw
                    go_simp
                  try simp only [Act.put, List.setIfInBounds_toArray, List.set_cons_zero, List.set_cons_succ]
                  refine LooseD.reads (.bool false) rfl rfl ?_ ?_
                  · intro w hw
                    obtain ⟨y1, y2, y3, y4, y5, y6, y7⟩ := HF.out w hw
                    clear hw
                    go_simp
                  try simp only [Act.put, List.setIfInBounds_toArray, List.set_cons_zero, List.set_cons_succ]
                  refine LooseD.reads (.bool false) rfl rfl ?_ ?_
                  · intro w hw
                    obtain ⟨y1, y2, y3, y4, y5, y6, y7⟩ := HF.out w hw
                    clear hw
                    go_simp
                  try simp only [Act.put, List.setIfInBounds_toArray, List.set_cons_zero, List.set_cons_succ]
                  refine LooseD.reads (.int .i64 a) rfl rfl ?_ ?_
                  · intro w hw
                    obtain ⟨y1, y2, y3, y4, y5, y6, y7⟩ := HF.out w hw
                    clear hw
                    go_simp
                  try simp only [Act.put, List.setIfInBounds_toArray, List.set_cons_zero, List.set_cons_succ]
                  refine LooseD.reads (.bool true) rfl rfl ?_ ?_
                  · intro w hw
                    obtain ⟨y1, y2, y3, y4, y5, y6, y7⟩ := HF.out w hw
                    clear hw
                    go_simp
                    all_goals omega
                  try simp only [Act.put, List.setIfInBounds_toArray, List.set_cons_zero, List.set_cons_succ]
                  refine LooseD.reads (.bool true) rfl rfl ?_ ?_
                  · intro w hw
                    obtain ⟨y1, y2, y3, y4, y5, y6, y7⟩ := HF.out w hw
                    clear hw
                    go_simp
                  try simp only [Act.put, List.setIfInBounds_toArray, List.set_cons_zero, List.set_cons_succ]
                  refine LooseD.reads (.pointer (some ⟨B, 1, none⟩)) rfl rfl ?_ ?_
                  · intro w hw
                    obtain ⟨y1, y2, y3, y4, y5, y6, y7⟩ := HF.out w hw
                    clear hw
                    go_simp
                  try simp only [Act.put, List.setIfInBounds_toArray, List.set_cons_zero, List.set_cons_succ]
                  refine LooseD.reads (.slice (some ⟨g4, 0, none⟩) m c2) rfl rfl ?_ ?_
                  · intro w hw
                    obtain ⟨y1, y2, y3, y4, y5, y6, y7⟩ := HF.out w hw
                    clear hw
                    go_simp
                  try simp only [Act.put, List.setIfInBounds_toArray, List.set_cons_zero, List.set_cons_succ]
                  refine LooseD.reads (.int .i64 j) rfl rfl ?_ ?_
                  · intro w hw
                    obtain ⟨y1, y2, y3, y4, y5, y6, y7⟩ := HF.out w hw
                    clear hw
                    go_simp
                  try simp only [Act.put, List.setIfInBounds_toArray, List.set_cons_zero, List.set_cons_succ]
                  refine LooseD.reads (.pointer (some ⟨g4, j * 3, none⟩)) rfl rfl ?_ ?_
                  · intro w hw
                    obtain ⟨y1, y2, y3, y4, y5, y6, y7⟩ := HF.out w hw
                    clear hw
                    go_simp
                  try simp only [Act.put, List.setIfInBounds_toArray, List.set_cons_zero, List.set_cons_succ]
                  refine LooseD.reads (.pointer (some ⟨g4, j * 3 + 2, none⟩)) rfl rfl ?_ ?_
                  · intro w hw
                    obtain ⟨y1, y2, y3, y4, y5, y6, y7⟩ := HF.out w hw
                    clear hw
                    go_simp
                  try simp only [Act.put, List.setIfInBounds_toArray, List.set_cons_zero, List.set_cons_succ]
                  refine LooseD.reads (.slice (some ⟨g6, 0, none⟩) sl c6) rfl rfl ?_ ?_
                  · intro w hw
                    obtain ⟨y1, y2, y3, y4, y5, y6, y7⟩ := HF.out w hw
                    clear hw
                    go_simp
                  try simp only [Act.put, List.setIfInBounds_toArray, List.set_cons_zero, List.set_cons_succ]
                  refine LooseD.reads (.int .i64 a) rfl rfl ?_ ?_
                  · intro w hw
                    obtain ⟨y1, y2, y3, y4, y5, y6, y7⟩ := HF.out w hw
                    clear hw
                    go_simp
                  try simp only [Act.put, List.setIfInBounds_toArray, List.set_cons_zero, List.set_cons_succ]
                  refine LooseD.reads (.pointer (some ⟨g6, a, none⟩)) rfl rfl ?_ ?_
                  · intro w hw
                    obtain ⟨y1, y2, y3, y4, y5, y6, y7⟩ := HF.out w hw
                    clear hw
                    go_simp
                  try simp only [Act.put, List.setIfInBounds_toArray, List.set_cons_zero, List.set_cons_succ]
                  refine LooseD.reads (.string st) rfl rfl ?_ ?_
                  · intro w hw
                    obtain ⟨y1, y2, y3, y4, y5, y6, y7⟩ := HF.out w hw
                    clear hw
                    go_simp
                  try simp only [Act.put, List.setIfInBounds_toArray, List.set_cons_zero, List.set_cons_succ]
                  refine LooseD.reads (.pointer (some ⟨B, 1, none⟩)) rfl rfl ?_ ?_
                  · intro w hw
                    obtain ⟨y1, y2, y3, y4, y5, y6, y7⟩ := HF.out w hw
                    clear hw
                    go_simp
                  try simp only [Act.put, List.setIfInBounds_toArray, List.set_cons_zero, List.set_cons_succ]
                  refine LooseD.reads (.slice (some ⟨g4, 0, none⟩) m c2) rfl rfl ?_ ?_
                  · intro w hw
                    obtain ⟨y1, y2, y3, y4, y5, y6, y7⟩ := HF.out w hw
                    clear hw
                    go_simp
                  try simp only [Act.put, List.setIfInBounds_toArray, List.set_cons_zero, List.set_cons_succ]
                  refine LooseD.reads (.int .i64 j) rfl rfl ?_ ?_
                  · intro w hw
                    obtain ⟨y1, y2, y3, y4, y5, y6, y7⟩ := HF.out w hw
                    clear hw
                    go_simp
                  try simp only [Act.put, List.setIfInBounds_toArray, List.set_cons_zero, List.set_cons_succ]
                  refine LooseD.reads (.pointer (some ⟨g4, j * 3, none⟩)) rfl rfl ?_ ?_
                  · intro w hw
                    obtain ⟨y1, y2, y3, y4, y5, y6, y7⟩ := HF.out w hw
                    clear hw
                    go_simp
                  try simp only [Act.put, List.setIfInBounds_toArray, List.set_cons_zero, List.set_cons_succ]
                  refine LooseD.reads (.pointer (some ⟨g4, j * 3 + 2, none⟩)) rfl rfl ?_ ?_
                  · intro w hw
                    obtain ⟨y1, y2, y3, y4, y5, y6, y7⟩ := HF.out w hw
                    clear hw
                    go_simp
                  try simp only [Act.put, List.setIfInBounds_toArray, List.set_cons_zero, List.set_cons_succ]
                  refine LooseD.reads (.slice (some ⟨g6, 0, none⟩) sl c6) rfl rfl ?_ ?_
                  · intro w hw
                    obtain ⟨y1, y2, y3, y4, y5, y6, y7⟩ := HF.out w hw
                    clear hw
                    go_simp
                  try simp only [Act.put, List.setIfInBounds_toArray, List.set_cons_zero, List.set_cons_succ]
                  refine LooseD.reads (.int .i64 a) rfl rfl ?_ ?_
                  · intro w hw
                    obtain ⟨y1, y2, y3, y4, y5, y6, y7⟩ := HF.out w hw
                    clear hw
                    go_simp
                  try simp only [Act.put, List.setIfInBounds_toArray, List.set_cons_zero, List.set_cons_succ]
                  refine LooseD.reads (.int .i64 ((a - 1 : Nat) : Int)) rfl rfl ?_ ?_
                  · intro w hw
                    obtain ⟨y1, y2, y3, y4, y5, y6, y7⟩ := HF.out w hw
                    clear hw
                    go_simp
                  try simp only [Act.put, List.setIfInBounds_toArray, List.set_cons_zero, List.set_cons_succ]
                  refine LooseD.reads (.pointer (some ⟨g6, a - 1, none⟩)) rfl rfl ?_ ?_
                  · intro w hw
                    obtain ⟨y1, y2, y3, y4, y5, y6, y7⟩ := HF.out w hw
                    clear hw
                    go_simp
                  try simp only [Act.put, List.setIfInBounds_toArray, List.set_cons_zero, List.set_cons_succ]
                  refine LooseD.reads (.string sp) rfl rfl ?_ ?_
                  · intro w hw
                    obtain ⟨y1, y2, y3, y4, y5, y6, y7⟩ := HF.out w hw
                    have y8 := HSPC.out w hw
                    clear hw
                    go_simp
                  try simp only [Act.put, List.setIfInBounds_toArray, List.set_cons_zero, List.set_cons_succ]
                  refine LooseD.reads (.bool false) rfl rfl ?_ ?_
                  · intro w hw
                    obtain ⟨y1, y2, y3, y4, y5, y6, y7⟩ := HF.out w hw
                    have y9 := hle w
                    clear hw
                    go_simp
                  try simp only [Act.put, List.setIfInBounds_toArray, List.set_cons_zero, List.set_cons_succ]
                  refine LooseD.reads (.bool false) rfl rfl ?_ ?_
                  · intro w hw
                    obtain ⟨y1, y2, y3, y4, y5, y6, y7⟩ := HF.out w hw
                    clear hw
                    go_simp
                  try simp only [Act.put, List.setIfInBounds_toArray, List.set_cons_zero, List.set_cons_succ]
                  refine LooseD.reads (.bool false) rfl rfl ?_ ?_
                  · intro w hw
                    obtain ⟨y1, y2, y3, y4, y5, y6, y7⟩ := HF.out w hw
                    clear hw
                    go_simp
                  try simp only [Act.put, List.setIfInBounds_toArray, List.set_cons_zero, List.set_cons_succ]
                  refine LooseD.done ?_
                  intro w8 hw8 _
                  have HB8 := Lib.hid (HB7.out.trans (hw8.mono HB7.out.size))
                  clear hw8
                  go_wp2_with fail
                  go_roundw
                  case rel => exact ⟨a + 1, by omega, by go_num, HB8.out⟩
                  case measure => simp [intOf]; omega
            · have hlta2 : ¬ (a : Int) < (sl : Int) := by omega
              go_wp2_with fail
              go_roundw
              case rel => exact ⟨j + 1, by omega, by go_num, HK5.out.under HB5.out⟩
              case measure => simp [intOf]; omega
      · have hlt2 : ¬ (j : Int) < (m : Int) := by omega
        go_wp2_with fail
        go_ret
        exact ⟨rfl, HK.out.bel⟩
end Go.Proofs.Ytdkcfhmdgignhaa.Rl

