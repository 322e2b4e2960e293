/-
  Layer 18: the walk of the document's Put.
-/
import Derived.Test.YtnmhgjoofgmcgaaGreatOctRefPut
import Derived.Test.YtnmhgjoofgmcgaaGreatRlGt
import Derived.Test.YtnmhgjoofgmcgaaGreatLooseD
namespace Go.Proofs.YtnmhgjoofgmcgaaGreat.Rl
open Go.RowKit
open Fx (StrsAt)
open Oct (pb bs)
set_option maxRecDepth 100000
set_option linter.unusedSimpArgs false
set_option linter.unusedVariables false
def BIG : Nat := 9223372036854775807
def qText (s : ByteArray) : List UInt8 := pb s.size ++ bs s
def qMem (m : Mem) : List UInt8 := qText m.name ++ pb m.role ++ pb m.quota
def qMems (l : List Mem) : List UInt8 := (l.map qMem).flatten
def qStrs (l : List ByteArray) : List UInt8 := (l.map qText).flatten
def qCls (c : Cls) : List UInt8 := qText c.name ++ qText c.teacher ++ pb c.studs.length ++ qStrs c.studs
def qClss (l : List Cls) : List UInt8 := (l.map qCls).flatten
def qPut (r : Rol) : List UInt8 := pb r.ms.length ++ qMems r.ms ++ pb r.cs.length ++ qClss r.cs
theorem mkS_size (l : List UInt8) : (mkS l).size = l.length := by show l.toArray.size = _; simp
theorem mkS_add (l k : List UInt8) : mkS l ++ mkS k = mkS (l ++ k) := by
  apply ByteArray.ext
  simp [mkS]
theorem str_add (l k : List UInt8) (h : l.length + k.length ≤ BIG) (w : World) : (binOp .add 9 (.string (mkS l)) (.string (mkS k))).run Tryz.prog w = .ok (.string (mkS (l ++ k))) w := by
  have hq : (binOp .add 9 (.string (mkS l)) (.string (mkS k))).run Tryz.prog w = (Op.stringOp .add (mkS l) (mkS k)).run Tryz.prog w := by first | rfl | kernel_rfl
  rw [hq]
  have h2 : ((mkS l).size : Int) + ((mkS k).size : Int) ≤ 9223372036854775807 := by
    rw [mkS_size, mkS_size]
    unfold BIG at h
    omega
  have h3 : IntKind.i64.max = 9223372036854775807 := by decide
  simp [Op.stringOp, mkS_add, h3, h2]
theorem split_at {α : Type} (f : α → List UInt8) (l : List α) (k : Nat) (h : k < l.length) : ((l.take (k + 1)).map f).flatten = ((l.take k).map f).flatten ++ f l[k] := by
  rw [List.take_succ_eq_append_getElem h, List.map_append, List.flatten_append]
  simp
theorem part_le {α : Type} (f : α → List UInt8) (l : List α) (k : Nat) : ((l.take k).map f).flatten.length ≤ ((l.map f).flatten).length := by
  have h := List.take_append_drop k l
  have : (l.map f).flatten = ((l.take k).map f).flatten ++ ((l.drop k).map f).flatten := by rw [← List.flatten_append, ← List.map_append, h]
  rw [this, List.length_append]
  omega
set_option maxHeartbeats 2000000 in
theorem rtext_any (s : ByteArray) (hs : (qText s).length ≤ BIG) (W : World) : Calls Tryz.prog 46 #[.string s] W fun e w' => e = .returned (.string (mkS (qText s))) ∧ Below W.heap.size W w' := by
  have HP := Lib.hid (fun w => Oct.rput_any s.size w)
  have hl : (pb s.size).length + (bs s).length ≤ BIG := by unfold qText at hs; rwa [List.length_append] at hs
  have hss : mkS (bs s) = s := by cases s; rfl
  obtain ⟨x1, hx1⟩ : ∃ x, x = mkS (pb s.size) := ⟨_, rfl⟩
  have HP := Lib.hid (fun w => show Calls Tryz.prog 45 #[.int .i64 s.size] w fun e w' => e = .returned (.string x1) ∧ Below w.heap.size w w' by rw [hx1]; exact HP.out w)
  have hsz : ¬ 9223372036854775807 < x1.size + s.size := by
    have h2 : s.size = (bs s).length := by cases s; simp [bs]; rfl
    have h3 : x1.size = (pb s.size).length := by rw [hx1, mkS_size]
    unfold BIG at hl
    omega
  have HE := Lib.hid (show x1 ++ s = mkS (qText s) by
    have h := mkS_add (pb s.size) (bs s)
    rw [hss, ← hx1] at h
    exact h)
  clear hs hl hss hx1
  go_enter Tryz.func46, Tryz.ntmps46
  go_wp2_with fail
  refine (HP.out _).mono ?_
  rintro e w2 ⟨rfl, hb⟩
  have HB := Lib.hid hb
  clear hb
  go_wp2_with fail
  go_ret
  exact ⟨by rw [← HE.out]; rfl, HB.out⟩
set_option maxHeartbeats 16000000 in
theorem refput_any (r : Rol) (hsz : (qPut r).length ≤ BIG) (hn : r.ms.length ≤ 4096) (hm : r.cs.length ≤ 4096) (hst : ∀ c ∈ r.cs, c.studs.length ≤ 4096) (P : Nat → Prop) (W : World) (v : Value) (h : RlAt P W r v) :
    Calls Tryz.prog 11 #[v] W fun e w' => e = .returned (.string (mkS (qPut r))) ∧ Below W.heap.size W w' := by
  obtain ⟨Am, cm, Ac, cc, rfl, hms, hcs⟩ := h.form
  obtain ⟨raws, hrow, hall⟩ := hcs
  have hrl : raws.length = r.cs.length := hall.1
  obtain ⟨n, hnn⟩ : ∃ n, n = r.ms.length := ⟨_, rfl⟩
  obtain ⟨m, hmm⟩ : ∃ m, m = r.cs.length := ⟨_, rfl⟩
  rw [← hnn] at hms hn ⊢
  rw [← hmm] at hrow hm hrl ⊢
  obtain ⟨V, hV⟩ : ∃ V, V = W.alloc (.cells #[.slice Am n cm, .slice Ac m cc] 31) := ⟨_, rfl⟩
  have hb : Below W.heap.size W V := by rw [hV]; exact (Below.refl _ W).alloc (Nat.le_refl _) _
  have hx : V.heap[W.heap.size]? = some (.cells #[.slice Am n cm, .slice Ac m cc] 31 (0, 0)) := by rw [hV]; exact heap_alloc_new W _
  have HP0 := Lib.hid (fun w => Oct.rput_any (n : Int) w)
  have hlen : (pb (n : Int)).length + (qMems r.ms).length + (pb (m : Int)).length + (qClss r.cs).length ≤ BIG := by
    unfold qPut at hsz
    rw [← hnn, ← hmm] at hsz
    simp only [List.length_append] at hsz
    exact hsz
  have HLEN := Lib.hid hlen
  have HMS := Lib.hid (RowAt.under hms hb)
  have HRO := Lib.hid (RowAt.under hrow hb)
  have HAL := Lib.hid (fun (w : World) (b : Below V.heap.size V w) (i : Nat) (h1 : i < raws.length) (h2 : i < r.cs.length) => (⟨(hall.2 i h1 h2).1, (hall.2 i h1 h2).2.1, ((hall.2 i h1 h2).2.2.under hb).under b⟩ : raws[i].name = r.cs[i].name ∧ raws[i].teacher = r.cs[i].teacher ∧ StrsAt P w r.cs[i].studs raws[i].studs))
  have HX := Lib.hid hx
  have HV := Lib.hid hV
  have HB := Lib.hid hb
  have HNN := Lib.hid hnn
  have HMM := Lib.hid hmm
  have HRL := Lib.hid hrl
  have HST := Lib.hid hst
  have x0 := cell_of_row _ _ 0 _ _ (0, 0) hx
  obtain ⟨p0, hp0⟩ : ∃ p, p = mkS (pb (n : Int)) := ⟨_, rfl⟩
  have HP0 := Lib.hid (show Calls Tryz.prog 45 #[.int .i64 n] V fun e w' => e = .returned (.string p0) ∧ Below V.heap.size V w' by rw [hp0]; exact HP0.out V)
  have HPP := Lib.hid hp0
  clear hsz hst h hms hrow hall hrl hb hx hV hlen hnn hmm hp0
  go_enter Tryz.func11, Tryz.ntmps11
  go_upto_region 1 with fail
  rw [← HV.out]
  go_wp2_with fail
  refine HP0.out.mono ?_
  rintro e w1 ⟨rfl, hb1⟩
  have HB1 := Lib.hid hb1
  clear hb1 x0
  go_upto_block 0 with fail
  go_wp2_with fail
  go_loopw [3, 4] (fun s x wr => ∃ (k : Nat), k ≤ n ∧ x = .int .i64 k ∧ s = .string (mkS (pb (n : Int) ++ qMems (r.ms.take k))) ∧ Below V.heap.size V wr) (fun _ x _ => n - (intOf x).toNat)
  case atStart => exact ⟨0, Nat.zero_le _, rfl, by rw [HPP.out]; simp [qMems], HB1.out⟩
  case round =>
    obtain ⟨k, hk, rfl, rfl, hb⟩ := hrel
    have HBK := Lib.hid hb
    clear hb
    obtain ⟨acc, hacc⟩ : ∃ a, a = mkS (pb (n : Int) ++ qMems (r.ms.take k)) := ⟨_, rfl⟩
    rw [← hacc]
    have HACC := Lib.hid hacc
    clear hacc
    have r0 := cell_of_row _ _ 0 _ _ (0, 0) ((HBK.out.block _ (Gn.heap_lt HX.out)).trans HX.out)
    have r1 := cell_of_row _ _ 1 _ _ (0, 0) ((HBK.out.block _ (Gn.heap_lt HX.out)).trans HX.out)
    by_cases hlt : k < n
    · have hlt2 : (k : Int) < (n : Int) := by omega
      have hkm : k < r.ms.length := by rw [← HNN.out]; exact hlt
      obtain ⟨A5, c5, b, e5, hc5, _, hA5, hcell⟩ := HMS.out
      rw [← HNN.out] at e5 hc5
      injection e5 with e5 _ e6
      subst e5
      subst e6
      obtain ⟨rfl, hbb, _⟩ := hA5 (by omega)
      obtain ⟨x, hx⟩ : ∃ x, x = r.ms[k] := ⟨_, rfl⟩
      have k0 := hcell k hkm 0 (.string r.ms[k].name) rfl
      have k1 := hcell k hkm 1 (.int .i64 r.ms[k].role) rfl
      have k2 := hcell k hkm 2 (.int .i64 r.ms[k].quota) rfl
      rw [← hx] at k0 k1 k2
      rw [Nat.add_zero] at k0
      have hsp := split_at qMem r.ms k hkm
      rw [← hx] at hsp
      have hle := part_le qMem r.ms (k + 1)
      rw [hsp, List.length_append] at hle
      have hLN := HLEN.out
      unfold qMems at hLN
      have hq : (qMem x).length = (qText x.name).length + (pb x.role).length + (pb x.quota).length := by unfold qMem; rw [List.length_append, List.length_append]
      have hBIG : BIG = 9223372036854775807 := rfl
      obtain ⟨nm, ro, qu⟩ := x
      dsimp only at k0 k1 k2 hq
      have HC1 := Lib.hid (fun w => rtext_any nm (by omega) w)
      have HC2 := Lib.hid (fun w => Oct.rput_any ro w)
      have HC3 := Lib.hid (fun w => Oct.rput_any qu w)
      obtain ⟨x1, hx1⟩ : ∃ x, x = mkS (qText nm) := ⟨_, rfl⟩
      obtain ⟨x2, hx2⟩ : ∃ x, x = mkS (pb ro) := ⟨_, rfl⟩
      obtain ⟨x3, hx3⟩ : ∃ x, x = mkS (pb qu) := ⟨_, rfl⟩
      have z1 : x1.size = (qText nm).length := by rw [hx1, mkS_size]
      have z2 : x2.size = (pb ro).length := by rw [hx2, mkS_size]
      have z3 : x3.size = (pb qu).length := by rw [hx3, mkS_size]
      have z0 : acc.size = (pb (n : Int)).length + ((r.ms.take k).map qMem).flatten.length := by rw [HACC.out, mkS_size, List.length_append]; rfl
      have ha1 : ¬ 9223372036854775807 < x1.size + x2.size := by omega
      have ha2 : ¬ 9223372036854775807 < x1.size + x2.size + x3.size := by omega
      have ha3 : ¬ 9223372036854775807 < acc.size + (x1.size + x2.size + x3.size) := by omega
      have HNX := Lib.hid (show acc ++ (x1 ++ x2 ++ x3) = mkS (pb (n : Int) ++ qMems (r.ms.take (k + 1))) by
        rw [HACC.out, hx1, hx2, hx3, mkS_add, mkS_add, mkS_add]
        unfold qMems
        rw [hsp, List.append_assoc]
        rfl)
      have HC1 := Lib.hid (fun w => show Calls Tryz.prog 46 #[.string nm] w fun e w' => e = .returned (.string x1) ∧ Below w.heap.size w w' by rw [hx1]; exact HC1.out w)
      have HC2 := Lib.hid (fun w => show Calls Tryz.prog 45 #[.int .i64 ro] w fun e w' => e = .returned (.string x2) ∧ Below w.heap.size w w' by rw [hx2]; exact HC2.out w)
      have HC3 := Lib.hid (fun w => show Calls Tryz.prog 45 #[.int .i64 qu] w fun e w' => e = .returned (.string x3) ∧ Below w.heap.size w w' by rw [hx3]; exact HC3.out w)
      have HCE := Lib.hid (fun (w : World) (b9 : Below wr.heap.size wr w) => show w.cell? ⟨W.heap.size, 0, none⟩ = some (.slice (some ⟨b, 0, none⟩) n cm) ∧ w.cell? ⟨b, k * 3, none⟩ = some (.string nm) ∧ w.cell? ⟨b, k * 3 + 1, none⟩ = some (.int .i64 ro) ∧ w.cell? ⟨b, k * 3 + 2, none⟩ = some (.int .i64 qu) from by
        have hv := HBK.out.trans (b9.mono HBK.out.size)
        exact ⟨cell_of_row _ _ 0 _ _ (0, 0) ((hv.block _ (Gn.heap_lt HX.out)).trans HX.out), (hv.cell (p := ⟨b, k * 3, none⟩) hbb).trans k0, (hv.cell (p := ⟨b, k * 3 + 1, none⟩) hbb).trans k1, (hv.cell (p := ⟨b, k * 3 + 2, none⟩) hbb).trans k2⟩)
      have hw1 : IntKind.i64.wrap ((k : Int) + 1) = ((k + 1 : Nat) : Int) := IntWalk.i64_in _ (by omega)
      clear k0 k1 k2 hsp hle hLN hq hx1 hx2 hx3 z0 z1 z2 z3 hx hcell hbb hkm
      go_upto_region 5 with fail
      clear r0 r1
      refine LooseD.region_loose (fun w => Below wr.heap.size wr w) _ _ (by kernel_rfl) (by kernel_rfl)
        (LooseD.waits (D := [[], [], [], [], [], [], [], [], [], [], [], [], [], [], [], [], [], [], [], [], [], [], [], [], [], []]) (by kernel_rfl))
        (LooseD.stays (ts := [none, none, none, none, none, none, none, some (.is (.string x1)), none, none, none, none, none, none, some (.is (.string x2)), none, none, none, none, none, none, none, some (.is (.string x3)), none, none, none]) (fun w w' h b => h.trans (b.mono h.size)) (.none (.none (.none (.none (.none (.none (.none (.is (.none (.none (.none (.none (.none (.none (.is (.none (.none (.none (.none (.none (.none (.none (.is (.none (.none (.none .nil)))))))))))))))))))))))))))
        (Gn.below_drew (Below.refl _ _)) ?_
      refine LooseD.reads (.string acc) rfl rfl ?_ ?_
      · intro w hw
        obtain ⟨y1, y2, y3, y4⟩ := HCE.out w hw
        clear hw
        go_simp
      try simp only [Act.put, List.setIfInBounds_toArray, List.set_cons_zero, List.set_cons_succ]
      refine LooseD.reads (.pointer (some ⟨W.heap.size, 0, none⟩)) rfl rfl ?_ ?_
      · intro w hw
        obtain ⟨y1, y2, y3, y4⟩ := HCE.out w hw
        clear hw
        go_simp
      try simp only [Act.put, List.setIfInBounds_toArray, List.set_cons_zero, List.set_cons_succ]
      refine LooseD.reads (.slice (some ⟨b, 0, none⟩) n cm) rfl rfl ?_ ?_
      · intro w hw
        obtain ⟨y1, y2, y3, y4⟩ := HCE.out w hw
        clear hw
        go_simp
      try simp only [Act.put, List.setIfInBounds_toArray, List.set_cons_zero, List.set_cons_succ]
      refine LooseD.reads (.int .i64 k) rfl rfl ?_ ?_
      · intro w hw
        obtain ⟨y1, y2, y3, y4⟩ := HCE.out w hw
        clear hw
        go_simp
      try simp only [Act.put, List.setIfInBounds_toArray, List.set_cons_zero, List.set_cons_succ]
      refine LooseD.reads (.pointer (some ⟨b, k * 3, none⟩)) rfl rfl ?_ ?_
      · intro w hw
        obtain ⟨y1, y2, y3, y4⟩ := HCE.out w hw
        clear hw
        go_simp
      try simp only [Act.put, List.setIfInBounds_toArray, List.set_cons_zero, List.set_cons_succ]
      refine LooseD.reads (.pointer (some ⟨b, k * 3, none⟩)) rfl rfl ?_ ?_
      · intro w hw
        obtain ⟨y1, y2, y3, y4⟩ := HCE.out w hw
        clear hw
        go_simp
      try simp only [Act.put, List.setIfInBounds_toArray, List.set_cons_zero, List.set_cons_succ]
      refine LooseD.reads (.string nm) rfl rfl ?_ ?_
      · intro w hw
        obtain ⟨y1, y2, y3, y4⟩ := HCE.out w hw
        clear hw
        go_simp
      try simp only [Act.put, List.setIfInBounds_toArray, List.set_cons_zero, List.set_cons_succ]
      refine LooseD.gives (.string x1) 46 #[.string nm] rfl rfl ?_ (fun w hw hH => HC1.out w) ?_
      · intro w hw
        clear hw
        go_simp
      try simp only [Act.put, List.setIfInBounds_toArray, List.set_cons_zero, List.set_cons_succ]
      refine LooseD.reads (.pointer (some ⟨W.heap.size, 0, none⟩)) rfl rfl ?_ ?_
      · intro w hw
        obtain ⟨y1, y2, y3, y4⟩ := HCE.out w hw
        clear hw
        go_simp
      try simp only [Act.put, List.setIfInBounds_toArray, List.set_cons_zero, List.set_cons_succ]
      refine LooseD.reads (.slice (some ⟨b, 0, none⟩) n cm) rfl rfl ?_ ?_
      · intro w hw
        obtain ⟨y1, y2, y3, y4⟩ := HCE.out w hw
        clear hw
        go_simp
      try simp only [Act.put, List.setIfInBounds_toArray, List.set_cons_zero, List.set_cons_succ]
      refine LooseD.reads (.int .i64 k) rfl rfl ?_ ?_
      · intro w hw
        obtain ⟨y1, y2, y3, y4⟩ := HCE.out w hw
        clear hw
        go_simp
      try simp only [Act.put, List.setIfInBounds_toArray, List.set_cons_zero, List.set_cons_succ]
      refine LooseD.reads (.pointer (some ⟨b, k * 3, none⟩)) rfl rfl ?_ ?_
      · intro w hw
        obtain ⟨y1, y2, y3, y4⟩ := HCE.out w hw
        clear hw
        go_simp
      try simp only [Act.put, List.setIfInBounds_toArray, List.set_cons_zero, List.set_cons_succ]
      refine LooseD.reads (.pointer (some ⟨b, k * 3 + 1, none⟩)) rfl rfl ?_ ?_
      · intro w hw
        obtain ⟨y1, y2, y3, y4⟩ := HCE.out w hw
        clear hw
        go_simp
      try simp only [Act.put, List.setIfInBounds_toArray, List.set_cons_zero, List.set_cons_succ]
      refine LooseD.reads (.int .i64 ro) rfl rfl ?_ ?_
      · intro w hw
        obtain ⟨y1, y2, y3, y4⟩ := HCE.out w hw
        clear hw
        go_simp
      try simp only [Act.put, List.setIfInBounds_toArray, List.set_cons_zero, List.set_cons_succ]
      refine LooseD.gives (.string x2) 45 #[.int .i64 ro] rfl rfl ?_ (fun w hw hH => HC2.out w) ?_
      · intro w hw
        clear hw
        go_simp
      try simp only [Act.put, List.setIfInBounds_toArray, List.set_cons_zero, List.set_cons_succ]
      refine LooseD.reads (.string (x1 ++ x2)) rfl rfl ?_ ?_
      · intro w hw
        clear hw
        go_simp
      try simp only [Act.put, List.setIfInBounds_toArray, List.set_cons_zero, List.set_cons_succ]
      refine LooseD.reads (.pointer (some ⟨W.heap.size, 0, none⟩)) rfl rfl ?_ ?_
      · intro w hw
        obtain ⟨y1, y2, y3, y4⟩ := HCE.out w hw
        clear hw
        go_simp
      try simp only [Act.put, List.setIfInBounds_toArray, List.set_cons_zero, List.set_cons_succ]
      refine LooseD.reads (.slice (some ⟨b, 0, none⟩) n cm) rfl rfl ?_ ?_
      · intro w hw
        obtain ⟨y1, y2, y3, y4⟩ := HCE.out w hw
        clear hw
        go_simp
      try simp only [Act.put, List.setIfInBounds_toArray, List.set_cons_zero, List.set_cons_succ]
      refine LooseD.reads (.int .i64 k) rfl rfl ?_ ?_
      · intro w hw
        obtain ⟨y1, y2, y3, y4⟩ := HCE.out w hw
        clear hw
        go_simp
      try simp only [Act.put, List.setIfInBounds_toArray, List.set_cons_zero, List.set_cons_succ]
      refine LooseD.reads (.pointer (some ⟨b, k * 3, none⟩)) rfl rfl ?_ ?_
      · intro w hw
        obtain ⟨y1, y2, y3, y4⟩ := HCE.out w hw
        clear hw
        go_simp
      try simp only [Act.put, List.setIfInBounds_toArray, List.set_cons_zero, List.set_cons_succ]
      refine LooseD.reads (.pointer (some ⟨b, k * 3 + 2, none⟩)) rfl rfl ?_ ?_
      · intro w hw
        obtain ⟨y1, y2, y3, y4⟩ := HCE.out w hw
        clear hw
        go_simp
      try simp only [Act.put, List.setIfInBounds_toArray, List.set_cons_zero, List.set_cons_succ]
      refine LooseD.reads (.int .i64 qu) rfl rfl ?_ ?_
      · intro w hw
        obtain ⟨y1, y2, y3, y4⟩ := HCE.out w hw
        clear hw
        go_simp
      try simp only [Act.put, List.setIfInBounds_toArray, List.set_cons_zero, List.set_cons_succ]
      refine LooseD.gives (.string x3) 45 #[.int .i64 qu] rfl rfl ?_ (fun w hw hH => HC3.out w) ?_
      · intro w hw
        clear hw
        go_simp
      try simp only [Act.put, List.setIfInBounds_toArray, List.set_cons_zero, List.set_cons_succ]
      refine LooseD.reads (.string (x1 ++ x2 ++ x3)) rfl rfl ?_ ?_
      · intro w hw
        clear hw
        go_simp
      try simp only [Act.put, List.setIfInBounds_toArray, List.set_cons_zero, List.set_cons_succ]
      refine LooseD.reads (.string (acc ++ (x1 ++ x2 ++ x3))) rfl rfl ?_ ?_
      · intro w hw
        clear hw
        go_simp
      try simp only [Act.put, List.setIfInBounds_toArray, List.set_cons_zero, List.set_cons_succ]
      refine LooseD.reads (.string (acc ++ (x1 ++ x2 ++ x3))) rfl rfl ?_ ?_
      · intro w hw
        obtain ⟨y1, y2, y3, y4⟩ := HCE.out w hw
        clear hw
        go_simp
      try simp only [Act.put, List.setIfInBounds_toArray, List.set_cons_zero, List.set_cons_succ]
      refine LooseD.done ?_
      intro w8 hw8 _
      have HB8 := Lib.hid (HBK.out.trans (hw8.mono HBK.out.size))
      clear hw8
      go_wp2_with fail
      rw [HNX.out]
      go_roundw
      case rel => exact ⟨k + 1, by omega, by go_num, rfl, HB8.out⟩
      case measure => simp [intOf]; omega
    · have hlt2 : ¬ (k : Int) < (n : Int) := by omega
      have hke : k = n := by omega
      subst hke
      have HACC := Lib.hid (show acc = mkS (pb (k : Int) ++ qMems r.ms) by rw [HACC.out, HNN.out, List.take_length])
      have HP2 := Lib.hid (fun w => Oct.rput_any (m : Int) w)
      obtain ⟨x4, hx4⟩ : ∃ x, x = mkS (pb (m : Int)) := ⟨_, rfl⟩
      have HP2 := Lib.hid (show Calls Tryz.prog 45 #[.int .i64 m] wr fun e w' => e = .returned (.string x4) ∧ Below wr.heap.size wr w' by rw [hx4]; exact HP2.out wr)
      have ha4 : ¬ 9223372036854775807 < acc.size + x4.size := by
        have h1 : acc.size = (pb (k : Int)).length + (qMems r.ms).length := by rw [HACC.out, mkS_size, List.length_append]
        have h2 : x4.size = (pb (m : Int)).length := by rw [hx4, mkS_size]
        have h3 := HLEN.out
        unfold BIG at h3
        omega
      have HA4 := Lib.hid (show acc ++ x4 = mkS (pb (k : Int) ++ qMems r.ms ++ pb (m : Int)) by rw [HACC.out, hx4, mkS_add])
      clear hx4
      go_wp2_with fail
      refine HP2.out.mono ?_
      rintro e w2 ⟨rfl, hb2⟩
      have HB2 := Lib.hid (HBK.out.trans (hb2.mono HBK.out.size))
      clear hb2 r0 r1
      have r0 := cell_of_row _ _ 0 _ _ (0, 0) ((HB2.out.block _ (Gn.heap_lt HX.out)).trans HX.out)
      have r1 := cell_of_row _ _ 1 _ _ (0, 0) ((HB2.out.block _ (Gn.heap_lt HX.out)).trans HX.out)
      obtain ⟨n, hnk⟩ : ∃ n, n = k := ⟨_, rfl⟩
      rw [← hnk] at r0 HX HA4 HLEN HNN
      clear hnk
      go_upto_block 2 with fail
      go_wp2_with fail
      go_loopw [3, 5] (fun s x wr => ∃ (k : Nat), k ≤ m ∧ x = .int .i64 k ∧ s = .string (mkS (pb (n : Int) ++ qMems r.ms ++ pb (m : Int) ++ qClss (r.cs.take k))) ∧ Below V.heap.size V wr) (fun _ x _ => m - (intOf x).toNat)
      case atStart => exact ⟨0, Nat.zero_le _, rfl, by rw [HA4.out]; simp [qClss], HB2.out⟩
      case round =>
        obtain ⟨k, hk, rfl, rfl, hb⟩ := hrel
        have HBK := Lib.hid hb
        clear hb r0 r1
        obtain ⟨pre, hpre⟩ : ∃ p, p = pb (n : Int) ++ qMems r.ms ++ pb (m : Int) := ⟨_, rfl⟩
        have hpl : pre.length + (qClss r.cs).length ≤ BIG := by
          have := HLEN.out
          rw [hpre, List.length_append, List.length_append]
          exact this
        rw [← hpre]
        obtain ⟨acc, hacc⟩ : ∃ a, a = mkS (pre ++ qClss (r.cs.take k)) := ⟨_, rfl⟩
        rw [← hacc]
        have HACC := Lib.hid hacc
        have HPRE := Lib.hid hpre
        clear hacc hpre
        have r1 := cell_of_row _ _ 1 _ _ (0, 0) ((HBK.out.block _ (Gn.heap_lt HX.out)).trans HX.out)
        by_cases hlt : k < m
        · have hlt2 : (k : Int) < (m : Int) := by omega
          have hkc : k < r.cs.length := by rw [← HMM.out]; exact hlt
          have hkr : k < raws.length := by rw [HRL.out]; exact hlt
          obtain ⟨A5, c5, b, e5, hc5, _, hA5, hcell⟩ := HRO.out
          rw [HRL.out] at e5 hc5
          injection e5 with e5 _ e6
          subst e5
          subst e6
          obtain ⟨rfl, hbb, _⟩ := hA5 (by omega)
          obtain ⟨n1, n2, n3⟩ := HAL.out wr HBK.out k hkr hkc
          have hsl4 := HST.out _ (List.getElem_mem hkc)
          obtain ⟨c, hc⟩ : ∃ c, c = r.cs[k] := ⟨_, rfl⟩
          rw [← hc] at n1 n2 n3 hsl4
          have k0 := hcell k hkr 0 (.string raws[k].name) rfl
          have k1 := hcell k hkr 1 (.string raws[k].teacher) rfl
          have k2 := hcell k hkr 2 raws[k].studs rfl
          rw [n1, Nat.add_zero] at k0
          rw [n2] at k1
          obtain ⟨A6, c6, e6⟩ := n3.form
          obtain ⟨sl, hsl⟩ : ∃ sl, sl = c.studs.length := ⟨_, rfl⟩
          rw [← hsl] at e6 hsl4
          rw [e6] at k2 n3
          have hsp := split_at qCls r.cs k hkc
          rw [← hc] at hsp
          have hle := part_le qCls r.cs (k + 1)
          rw [hsp, List.length_append] at hle
          have hpl2 := hpl
          unfold qClss at hpl2
          have hq : (qCls c).length = (qText c.name).length + (qText c.teacher).length + (pb (sl : Int)).length + (qStrs c.studs).length := by unfold qCls; rw [List.length_append, List.length_append, List.length_append, hsl]
          have hBIG : BIG = 9223372036854775807 := rfl
          obtain ⟨nm, hnm⟩ : ∃ z, z = c.name := ⟨_, rfl⟩
          obtain ⟨tc, htc⟩ : ∃ z, z = c.teacher := ⟨_, rfl⟩
          rw [← hnm] at k0 hq
          rw [← htc] at k1 hq
          have HC1 := Lib.hid (fun w => rtext_any nm (by omega) w)
          have HC2 := Lib.hid (fun w => rtext_any tc (by omega) w)
          have HC3 := Lib.hid (fun w => Oct.rput_any (sl : Int) w)
          obtain ⟨x1, hx1⟩ : ∃ x, x = mkS (qText nm) := ⟨_, rfl⟩
          obtain ⟨x2, hx2⟩ : ∃ x, x = mkS (qText tc) := ⟨_, rfl⟩
          obtain ⟨x3, hx3⟩ : ∃ x, x = mkS (pb (sl : Int)) := ⟨_, rfl⟩
          have z1 : x1.size = (qText nm).length := by rw [hx1, mkS_size]
          have z2 : x2.size = (qText tc).length := by rw [hx2, mkS_size]
          have z3 : x3.size = (pb (sl : Int)).length := by rw [hx3, mkS_size]
          have z0 : acc.size = pre.length + ((r.cs.take k).map qCls).flatten.length := by rw [HACC.out, mkS_size, List.length_append]; rfl
          have ha1 : ¬ 9223372036854775807 < x1.size + x2.size := by omega
          have ha2 : ¬ 9223372036854775807 < x1.size + x2.size + x3.size := by omega
          have ha3 : ¬ 9223372036854775807 < acc.size + (x1.size + x2.size + x3.size) := by omega
          obtain ⟨pr2, hpr2⟩ : ∃ p, p = pre ++ qClss (r.cs.take k) ++ (qText nm ++ qText tc ++ pb (sl : Int)) := ⟨_, rfl⟩
          have HNX := Lib.hid (show acc ++ (x1 ++ x2 ++ x3) = mkS pr2 by
            rw [HACC.out, hx1, hx2, hx3, mkS_add, mkS_add, mkS_add, hpr2])
          have hp2 : pr2.length + (qStrs c.studs).length ≤ BIG := by
            rw [hpr2]
            simp only [List.length_append]
            unfold qClss
            omega
          have HP2L := Lib.hid hp2
          have HFINL := Lib.hid (show pr2 ++ qStrs c.studs = pre ++ qClss (r.cs.take (k + 1)) by
            rw [hpr2]
            unfold qClss
            rw [hsp]
            unfold qCls
            rw [← hnm, ← htc, ← hsl]
            simp only [List.append_assoc])
          have HC1 := Lib.hid (fun w => show Calls Tryz.prog 46 #[.string nm] w fun e w' => e = .returned (.string x1) ∧ Below w.heap.size w w' by rw [hx1]; exact HC1.out w)
          have HC2 := Lib.hid (fun w => show Calls Tryz.prog 46 #[.string tc] w fun e w' => e = .returned (.string x2) ∧ Below w.heap.size w w' by rw [hx2]; exact HC2.out w)
          have HC3 := Lib.hid (fun w => show Calls Tryz.prog 45 #[.int .i64 sl] w fun e w' => e = .returned (.string x3) ∧ Below w.heap.size w w' by rw [hx3]; exact HC3.out w)
          obtain ⟨w6, hw6⟩ : ∃ w6, w6 = wr.alloc (.cells #[.string nm, .string tc, .slice A6 sl c6] 57) := ⟨_, rfl⟩
          have hb6 : Below wr.heap.size wr w6 := by rw [hw6]; exact (Below.refl _ _).alloc (Nat.le_refl _) _
          have hx6 : w6.heap[wr.heap.size]? = some (.cells #[.string nm, .string tc, .slice A6 sl c6] 57 (0, 0)) := by rw [hw6]; exact heap_alloc_new _ _
          obtain ⟨q, hq9⟩ : ∃ q, q = wr.heap.size := ⟨_, rfl⟩
          rw [← hq9] at hx6
          have HCE := Lib.hid (fun (w : World) (b9 : Below w6.heap.size w6 w) => show w.cell? ⟨q, 0, none⟩ = some (.string nm) ∧ w.cell? ⟨q, 1, none⟩ = some (.string tc) ∧ w.cell? ⟨q, 2, none⟩ = some (.slice A6 sl c6) from by
            have h1 := (b9.block _ (Gn.heap_lt hx6)).trans hx6
            exact ⟨cell_of_row _ _ 0 _ _ (0, 0) h1, cell_of_row _ _ 1 _ _ (0, 0) h1, cell_of_row _ _ 2 _ _ (0, 0) h1⟩)
          have HS6 := Lib.hid (n3.under hb6)
          have HB6 := Lib.hid (HBK.out.trans (hb6.mono HBK.out.size))
          have j0 := (HBK.out.cell (p := ⟨b, k * 3, none⟩) hbb).trans k0
          have j1 := (HBK.out.cell (p := ⟨b, k * 3 + 1, none⟩) hbb).trans k1
          have j2 := (HBK.out.cell (p := ⟨b, k * 3 + 2, none⟩) hbb).trans k2
          have HW6 := Lib.hid hw6
          have HQ9 := Lib.hid hq9
          have HSL := Lib.hid hsl
          have hw1 : IntKind.i64.wrap ((k : Int) + 1) = ((k + 1 : Nat) : Int) := IntWalk.i64_in _ (by omega)
          clear k0 k1 k2 hsp hle hpl2 hq hx1 hx2 hx3 z0 z1 z2 z3 hcell hbb n1 n2 n3 e6 hpr2 hp2 hnm htc hw6 hb6 hx6 hq9 hsl hc hkc hkr
          go_upto_region 11 with fail
          rw [← HW6.out, ← HQ9.out]
          clear r1 j0 j1 j2
          refine LooseD.region_loose (fun w => Below w6.heap.size w6 w) _ _ (by kernel_rfl) (by kernel_rfl)
            (LooseD.waits (D := [[], [], [], [], [], [], [], [], [], [], [], [], [], [], []]) (by kernel_rfl))
            (LooseD.stays (ts := [none, none, none, some (.is (.string x1)), none, none, some (.is (.string x2)), none, none, none, none, some (.is (.string x3)), none, none, none]) (fun w w' h b => h.trans (b.mono h.size)) (.none (.none (.none (.is (.none (.none (.is (.none (.none (.none (.none (.is (.none (.none (.none .nil))))))))))))))))
            (Gn.below_drew (Below.refl _ _)) ?_
          refine LooseD.reads (.string acc) rfl rfl ?_ ?_
          · intro w hw
            obtain ⟨y1, y2, y3⟩ := HCE.out w hw
            clear hw
            go_simp
          try simp only [Act.put, List.setIfInBounds_toArray, List.set_cons_zero, List.set_cons_succ]
          refine LooseD.reads (.pointer (some ⟨q, 0, none⟩)) rfl rfl ?_ ?_
          · intro w hw
            obtain ⟨y1, y2, y3⟩ := HCE.out w hw
            clear hw
            go_simp
          try simp only [Act.put, List.setIfInBounds_toArray, List.set_cons_zero, List.set_cons_succ]
          refine LooseD.reads (.string nm) rfl rfl ?_ ?_
          · intro w hw
            obtain ⟨y1, y2, y3⟩ := HCE.out w hw
            clear hw
            go_simp
          try simp only [Act.put, List.setIfInBounds_toArray, List.set_cons_zero, List.set_cons_succ]
          refine LooseD.gives (.string x1) 46 #[.string nm] rfl rfl ?_ (fun w hw hH => HC1.out w) ?_
          · intro w hw
            clear hw
            go_simp
          try simp only [Act.put, List.setIfInBounds_toArray, List.set_cons_zero, List.set_cons_succ]
          refine LooseD.reads (.pointer (some ⟨q, 1, none⟩)) rfl rfl ?_ ?_
          · intro w hw
            obtain ⟨y1, y2, y3⟩ := HCE.out w hw
            clear hw
            go_simp
          try simp only [Act.put, List.setIfInBounds_toArray, List.set_cons_zero, List.set_cons_succ]
          refine LooseD.reads (.string tc) rfl rfl ?_ ?_
          · intro w hw
            obtain ⟨y1, y2, y3⟩ := HCE.out w hw
            clear hw
            go_simp
          try simp only [Act.put, List.setIfInBounds_toArray, List.set_cons_zero, List.set_cons_succ]
          refine LooseD.gives (.string x2) 46 #[.string tc] rfl rfl ?_ (fun w hw hH => HC2.out w) ?_
          · intro w hw
            clear hw
            go_simp
          try simp only [Act.put, List.setIfInBounds_toArray, List.set_cons_zero, List.set_cons_succ]
          refine LooseD.reads (.string (x1 ++ x2)) rfl rfl ?_ ?_
          · intro w hw
            clear hw
            go_simp
          try simp only [Act.put, List.setIfInBounds_toArray, List.set_cons_zero, List.set_cons_succ]
          refine LooseD.reads (.pointer (some ⟨q, 2, none⟩)) rfl rfl ?_ ?_
          · intro w hw
            obtain ⟨y1, y2, y3⟩ := HCE.out w hw
            clear hw
            go_simp
          try simp only [Act.put, List.setIfInBounds_toArray, List.set_cons_zero, List.set_cons_succ]
          refine LooseD.reads (.slice A6 sl c6) rfl rfl ?_ ?_
          · intro w hw
            obtain ⟨y1, y2, y3⟩ := HCE.out w hw
            clear hw
            go_simp
          try simp only [Act.put, List.setIfInBounds_toArray, List.set_cons_zero, List.set_cons_succ]
          refine LooseD.reads (.int .i64 sl) rfl rfl ?_ ?_
          · intro w hw
            obtain ⟨y1, y2, y3⟩ := HCE.out w hw
            clear hw
            go_simp
          try simp only [Act.put, List.setIfInBounds_toArray, List.set_cons_zero, List.set_cons_succ]
          refine LooseD.gives (.string x3) 45 #[.int .i64 sl] rfl rfl ?_ (fun w hw hH => HC3.out w) ?_
          · intro w hw
            clear hw
            go_simp
          try simp only [Act.put, List.setIfInBounds_toArray, List.set_cons_zero, List.set_cons_succ]
          refine LooseD.reads (.string (x1 ++ x2 ++ x3)) rfl rfl ?_ ?_
          · intro w hw
            clear hw
            go_simp
          try simp only [Act.put, List.setIfInBounds_toArray, List.set_cons_zero, List.set_cons_succ]
          refine LooseD.reads (.string (acc ++ (x1 ++ x2 ++ x3))) rfl rfl ?_ ?_
          · intro w hw
            clear hw
            go_simp
          try simp only [Act.put, List.setIfInBounds_toArray, List.set_cons_zero, List.set_cons_succ]
          refine LooseD.reads (.string (acc ++ (x1 ++ x2 ++ x3))) rfl rfl ?_ ?_
          · intro w hw
            obtain ⟨y1, y2, y3⟩ := HCE.out w hw
            clear hw
            go_simp
          try simp only [Act.put, List.setIfInBounds_toArray, List.set_cons_zero, List.set_cons_succ]
          refine LooseD.done ?_
          intro w8 hw8 _
          have HB8 := Lib.hid hw8
          clear hw8
          rw [HNX.out]
          clear ha1 ha2 ha3
          go_wp2_with fail
          go_loopw [3, 7] (fun s x wr => ∃ (a : Nat), a ≤ sl ∧ x = .int .i64 a ∧ s = .string (mkS (pr2 ++ qStrs (c.studs.take a))) ∧ Below w6.heap.size w6 wr) (fun _ x _ => sl - (intOf x).toNat)
          case atStart => exact ⟨0, Nat.zero_le _, rfl, by simp [qStrs], HB8.out⟩
          case round =>
            obtain ⟨a, hasl, rfl, rfl, hba⟩ := hrel
            have HBA := Lib.hid hba
            clear hba
            obtain ⟨ac, hac⟩ : ∃ z, z = mkS (pr2 ++ qStrs (c.studs.take a)) := ⟨_, rfl⟩
            rw [← hac]
            obtain ⟨y1, y2, y3⟩ := HCE.out wr HBA.out
            by_cases hlta : a < sl
            · have hlta2 : (a : Int) < (sl : Int) := by omega
              have hal : a < c.studs.length := by rw [← HSL.out]; exact hlta
              obtain ⟨A7, c7, g6, e7, hc7, hA7, hcl⟩ := HS6.out
              rw [← HSL.out] at e7 hA7
              injection e7 with e7 _ e8
              subst e7
              subst e8
              obtain ⟨rfl, hg6, _⟩ := hA7 (by omega)
              obtain ⟨st, hst⟩ : ∃ st, st = c.studs[a] := ⟨_, rfl⟩
              have k3 := (HBA.out.cell (p := ⟨g6, a, none⟩) hg6).trans (hcl a hal)
              rw [← hst] at k3
              have hsp := split_at qText c.studs a hal
              rw [← hst] at hsp
              have hle := part_le qText c.studs (a + 1)
              rw [hsp, List.length_append] at hle
              have hpl2 := HP2L.out
              unfold qStrs at hpl2
              have hBIG : BIG = 9223372036854775807 := rfl
              have HT := Lib.hid (rtext_any st (by omega) wr)
              obtain ⟨x5, hx5⟩ : ∃ x, x = mkS (qText st) := ⟨_, rfl⟩
              have z5 : x5.size = (qText st).length := by rw [hx5, mkS_size]
              have z6 : ac.size = pr2.length + ((c.studs.take a).map qText).flatten.length := by rw [hac, mkS_size, List.length_append]; rfl
              have ha5 : ¬ 9223372036854775807 < ac.size + x5.size := by omega
              have HN5 := Lib.hid (show ac ++ x5 = mkS (pr2 ++ qStrs (c.studs.take (a + 1))) by
                rw [hac, hx5, mkS_add]
                unfold qStrs
                rw [hsp, List.append_assoc])
              have HT := Lib.hid (show Calls Tryz.prog 46 #[.string st] wr fun e w' => e = .returned (.string x5) ∧ Below wr.heap.size wr w' by rw [hx5]; exact HT.out)
              have hw3 : IntKind.i64.wrap ((a : Int) + 1) = ((a + 1 : Nat) : Int) := IntWalk.i64_in _ (by omega)
              clear hac hx5 z5 z6 hsp hle hpl2 hst hcl hg6 hal
              go_wp2_with fail
              refine HT.out.mono ?_
              rintro e w9 ⟨rfl, hb9⟩
              have HB9 := Lib.hid (HBA.out.trans (hb9.mono HBA.out.size))
              clear hb9 y1 y2 y3 k3
              go_wp2_with fail
              rw [HN5.out]
              go_roundw
              case rel => exact ⟨a + 1, by omega, by go_num, rfl, HB9.out⟩
              case measure => simp [intOf]; omega
            · have hlta2 : ¬ (a : Int) < (sl : Int) := by omega
              have hae : a = sl := by omega
              have HFA := Lib.hid (show ac = mkS (pre ++ qClss (r.cs.take (k + 1))) by rw [hac, hae, HSL.out, List.take_length, HFINL.out])
              clear hac hae
              have HBB := Lib.hid (HB6.out.trans (HBA.out.mono HB6.out.size))
              go_wp2_with fail
              rw [HFA.out]
              go_roundw
              case rel => exact ⟨k + 1, by omega, by go_num, rfl, HBB.out⟩
              case measure => simp [intOf]; omega
        · have hlt2 : ¬ (k : Int) < (m : Int) := by omega
          have hke : k = m := by omega
          have HFA := Lib.hid (show acc = mkS (qPut r) by
            have e : r.cs.take m = r.cs := by rw [HMM.out, List.take_length]
            rw [HACC.out, HPRE.out, hke, e]
            unfold qPut
            rw [← HNN.out, ← HMM.out])
          have HBB := Lib.hid (HB.out.trans (HBK.out.mono HB.out.size))
          clear hke
          go_wp2_with fail
          go_ret
          exact ⟨by rw [← HFA.out]; rfl, HBB.out⟩
end Go.Proofs.YtnmhgjoofgmcgaaGreat.Rl
