/-
  Layer 18: the document's Right.
-/
import Derived.Test.YtnmhgjoofgmcgaaRlRFd
import Derived.Test.YtnmhgjoofgmcgaaLooseD
import Derived.Deep.DeepCutAuto
import Derived.Deep.RegionHeld3
namespace Go.Proofs.Ytnmhgjoofgmcgaa.Rl
open Go.RowKit
open Fx (StrsAt)
open Lx (bs)
set_option maxRecDepth 100000
set_option linter.unusedSimpArgs false
set_option linter.unusedVariables false
def rmB (l : List Mem) (i : Nat) : Bool := Lx.goodB (bs (l.getD i nilM).name) && decide (1 ≤ (l.getD i nilM).role ∧ (l.getD i nilM).role ≤ 2) && decide (0 ≤ (l.getD i nilM).quota ∧ (l.getD i nilM).quota ≤ 65536) && (decide (i = 0) || decide (cmpN (l.getD (i - 1) nilM).name (l.getD i nilM).name < 0))
def roleL (l : List Mem) (nm : ByteArray) : Int := ((findL l nm).getD nilM).role
def rsB (l : List Mem) (s : List ByteArray) (k : Nat) : Bool := decide (roleL l (s.getD k ⟨#[]⟩) = 1) && (decide (k = 0) || decide (cmpN (s.getD (k - 1) ⟨#[]⟩) (s.getD k ⟨#[]⟩) < 0))
def rcB (l : List Mem) (cs : List Cls) (i : Nat) : Bool := Lx.goodB (bs (cs.getD i nilC).name) && decide (roleL l (cs.getD i nilC).teacher = 2) && (decide (i = 0) || decide (cmpN (cs.getD (i - 1) nilC).name (cs.getD i nilC).name < 0)) && (List.range (cs.getD i nilC).studs.length).all (rsB l (cs.getD i nilC).studs)
def rightB (r : Rol) : Bool := (List.range r.ms.length).all (rmB r.ms) && (List.range r.cs.length).all (rcB r.ms r.cs)
theorem right_m {r : Rol} {k : Nat} (hk : k < r.ms.length) (h : rmB r.ms k = false) : rightB r = false := by
  unfold rightB
  rw [Bool.and_eq_false_iff]
  refine .inl (Bool.eq_false_iff.2 fun h2 => ?_)
  have := List.all_eq_true.1 h2 k (List.mem_range.2 hk)
  rw [h] at this; cases this
theorem right_c {r : Rol} {k : Nat} (hk : k < r.cs.length) (h : rcB r.ms r.cs k = false) : rightB r = false := by
  unfold rightB
  rw [Bool.and_eq_false_iff]
  refine .inr (Bool.eq_false_iff.2 fun h2 => ?_)
  have := List.all_eq_true.1 h2 k (List.mem_range.2 hk)
  rw [h] at this; cases this
theorem right_ok {r : Rol} (h1 : ∀ k, k < r.ms.length → rmB r.ms k = true) (h2 : ∀ k, k < r.cs.length → rcB r.ms r.cs k = true) : rightB r = true := by
  unfold rightB
  rw [Bool.and_eq_true]
  exact ⟨List.all_eq_true.2 fun k hk => h1 k (List.mem_range.1 hk), List.all_eq_true.2 fun k hk => h2 k (List.mem_range.1 hk)⟩
/-- A member in a new box. -/
def NewBoxD (w wx : World) (q : Nat) (x : Mem) : Prop := Below w.heap.size w wx ∧ wx.heap[q]? = some (.cells #[.string x.name, .int .i64 x.role, .int .i64 x.quota] 72 (0, 0))
theorem NewBoxD.late {w w3 : World} (x : Mem) (hb : Below w.heap.size w w3) : NewBoxD w (w3.alloc (.cells #[.string x.name, .int .i64 x.role, .int .i64 x.quota] 72)) w3.heap.size x :=
  ⟨hb.trans (((Below.refl _ _).alloc (Nat.le_refl _) _).mono hb.size), heap_alloc_new _ _⟩
theorem NewBoxD.early {w w3 : World} (x : Mem) {o : Obj} (hb : Below (w.alloc o).heap.size (w.alloc o) w3) {z1 z2 z3 : Value} (hx : w3.heap[w.heap.size]? = some (.cells #[z1, z2, z3] 72 (0, 0))) : NewBoxD w (((w3.setCell ⟨w.heap.size, 0, none⟩ (.string x.name)).setCell ⟨w.heap.size, 1, none⟩ (.int .i64 x.role)).setCell ⟨w.heap.size, 2, none⟩ (.int .i64 x.quota)) w.heap.size x := by
  have b0 : Below w.heap.size w (w.alloc o) := (Below.refl _ _).alloc (Nat.le_refl _) _
  exact ⟨(((b0.trans (hb.mono b0.size)).setCell (Nat.le_refl _) _).setCell (Nat.le_refl _) _).setCell (Nat.le_refl _) _, Gn.heap_set (Gn.heap_set (Gn.heap_set hx 0 _) 1 _) 2 _⟩
theorem NewBoxD.drew {w wx : World} {q : Nat} {x : Mem} (h : NewBoxD w.drew wx q x) : NewBoxD w wx q x := ⟨(Gn.below_drew (Below.refl _ _)).trans (h.1.mono (Nat.le_refl _)), h.2⟩
set_option maxHeartbeats 16000000 in
theorem right_any (r : Rol) (hn : r.ms.length ≤ 4096) (hm : r.cs.length ≤ 4096) (hst : ∀ c ∈ r.cs, c.studs.length ≤ 4096) (hz : ∀ m ∈ r.ms, m.name.size ≤ 9223372036854775807) (hzc : ∀ c ∈ r.cs, c.name.size ≤ 9223372036854775807) (P : Nat → Prop) (W : World) (v : Value) (h : RlAt P W r v) :
    Calls Try.prog 29 #[v] W fun e w' => e = .returned (.bool (rightB r)) ∧ Below W.heap.size W w' := by
  obtain ⟨Am, cm, Ac, cc, rfl, hms, hcs⟩ := h.form
  obtain ⟨raws, hrow, hall⟩ := hcs
  have hrl : raws.length = r.cs.length := hall.1
  obtain ⟨n, hnn⟩ : ∃ n, n = r.ms.length := ⟨_, rfl⟩
  obtain ⟨m, hmm⟩ : ∃ m, m = r.cs.length := ⟨_, rfl⟩
  obtain ⟨B, hB⟩ : ∃ B, B = rightB r := ⟨_, rfl⟩
  rw [← hB]
  have hBm : ∀ k, k < n → rmB r.ms k = false → B = false := fun k hk h => by rw [hB]; exact right_m (by omega) h
  have hBc : ∀ k, k < m → rcB r.ms r.cs k = false → B = false := fun k hk h => by rw [hB]; exact right_c (by omega) h
  have hBo : (∀ k, k < n → rmB r.ms k = true) → (∀ k, k < m → rcB r.ms r.cs k = true) → B = true := fun h1 h2 => by rw [hB]; exact right_ok (fun k hk => h1 k (by omega)) (fun k hk => h2 k (by omega))
  have HFD := Lib.hid (fun (nm : ByteArray) (w : World) (b : Below W.heap.size W w) => rfind_any r nm P w _ (h.under b) hn)
  rw [← hnn] at hms hn HFD ⊢
  rw [← hmm] at hrow hm hrl HFD ⊢
  obtain ⟨V, hV⟩ : ∃ V, V = W.alloc (.cells #[.slice Am n cm, .slice Ac m cc] 33) := ⟨_, rfl⟩
  have hb : Below W.heap.size W V := by rw [hV]; exact (Below.refl _ W).alloc (Nat.le_refl _) _
  have hx : V.heap[W.heap.size]? = some (.cells #[.slice Am n cm, .slice Ac m cc] 33 (0, 0)) := by rw [hV]; exact heap_alloc_new W _
  have HMS := Lib.hid (RowAt.under hms hb)
  have HRO := Lib.hid (RowAt.under hrow hb)
  have HAL := Lib.hid (fun (w : World) (b : Below V.heap.size V w) (i : Nat) (h1 : i < raws.length) (h2 : i < r.cs.length) => (⟨(hall.2 i h1 h2).1, (hall.2 i h1 h2).2.1, ((hall.2 i h1 h2).2.2.under hb).under b⟩ : raws[i].name = r.cs[i].name ∧ raws[i].teacher = r.cs[i].teacher ∧ StrsAt P w r.cs[i].studs raws[i].studs))
  have HX := Lib.hid hx
  have HV := Lib.hid hV
  have HB := Lib.hid hb
  have HNN := Lib.hid hnn
  have HMM := Lib.hid hmm
  have HRL := Lib.hid hrl
  have HST := Lib.hid hst
  have HZ := Lib.hid hz
  have HZC := Lib.hid hzc
  have HBM := Lib.hid hBm
  have HBC := Lib.hid hBc
  have HBO := Lib.hid hBo
  have hzV : V.heap.size = W.heap.size + 1 := by rw [hV]; simp
  have HZV := Lib.hid hzV
  clear hst hz hzc h hms hrow hall hrl hb hx hV hnn hmm hB hBm hBc hBo hzV
  go_enter Try.func29, Try.ntmps29
  go_upto_region 1 with fail
  rw [← HV.out]
  go_upto_block 0 with fail
  go_wp2_with fail
  go_loopw [3] (fun x wr => ∃ (k : Nat), k ≤ n ∧ x = .int .i64 k ∧ Below V.heap.size V wr ∧ ∀ j, j < k → rmB r.ms j = true) (fun x _ => n - (intOf x).toNat)
  case atStart => exact ⟨0, Nat.zero_le _, rfl, Below.refl _ _, fun j h => absurd h (by omega)⟩
  case round =>
    obtain ⟨k, hk, rfl, hb, hall⟩ := hrel
    have HBK := Lib.hid hb
    have HALL := Lib.hid hall
    clear hall
    have hxk := (hb.block _ (by rw [HZV.out]; omega)).trans HX.out
    have x0 := cell_of_row _ _ 0 _ _ (0, 0) hxk
    have x1 := cell_of_row _ _ 1 _ _ (0, 0) hxk
    by_cases hkn : k < n
    · have hkn2 : (k : Int) < (n : Int) := by omega
      have hkl : k < r.ms.length := by rw [← HNN.out]; exact hkn
      obtain ⟨A5, c5, b5, h5, _, _, h5c, h5d⟩ := HMS.out.under hb
      rw [← HNN.out] at h5 h5c
      injection h5 with h5 _ h5k
      subst h5
      subst h5k
      obtain ⟨rfl, hb5, _⟩ := h5c (by omega)
      obtain ⟨x, hx⟩ : ∃ x, x = r.ms[k] := ⟨_, rfl⟩
      have k0 := h5d k hkl 0 _ rfl
      have k1 := h5d k hkl 1 _ rfl
      have k2 := h5d k hkl 2 _ rfl
      rw [← hx] at k0 k1 k2
      rw [Nat.add_zero] at k0
      go_wp2_with fail
      rw [← hx]
      obtain ⟨nm, ro, qu⟩ := x
      dsimp only at k0 k1 k2 ⊢
      obtain ⟨U, hU⟩ : ∃ U, U = wr.alloc (.cells #[.string nm, .int .i64 ro, .int .i64 qu] 72) := ⟨_, rfl⟩
      have hbU : Below wr.heap.size wr U := by rw [hU]; exact (Below.refl _ _).alloc (Nat.le_refl _) _
      have hm0 : U.heap[wr.heap.size]? = some (.cells #[.string nm, .int .i64 ro, .int .i64 qu] 72 (0, 0)) := by rw [hU]; exact heap_alloc_new _ _
      have HU := Lib.hid hU
      have m0 := cell_of_row _ _ 0 _ _ (0, 0) hm0
      have m1 := cell_of_row _ _ 1 _ _ (0, 0) hm0
      have m2 := cell_of_row _ _ 2 _ _ (0, 0) hm0
      have hBV := HB.out.trans ((hb.trans (hbU.mono hb.size)).mono HB.out.size)
      have HBU := Lib.hid hBV
      have HBN := Lib.hid (hb.trans (hbU.mono hb.size))
      have hxU := (hbU.block _ (Gn.heap_lt hxk)).trans hxk
      have x0 := cell_of_row _ _ 0 _ _ (0, 0) hxU
      have x1 := cell_of_row _ _ 1 _ _ (0, 0) hxU
      have hgd : r.ms.getD k nilM = ⟨nm, ro, qu⟩ := by rw [List.getD_eq_getElem?_getD, List.getElem?_eq_getElem hkl, ← hx]; rfl
      obtain ⟨g1, hg1⟩ : ∃ g1, g1 = Lx.goodB (bs nm) := ⟨_, rfl⟩
      have HG := Lib.hid (fun w => Lx.rgood_any nm w (by have := HZ.out _ (List.getElem_mem hkl); rw [← hx] at this; exact this))
      rw [← hg1] at HG
      obtain ⟨pv, hpv⟩ : ∃ pv, pv = (r.ms.getD (k - 1) nilM).name := ⟨_, rfl⟩
      have hrm : rmB r.ms k = (g1 && decide (1 ≤ ro ∧ ro ≤ 2) && decide (0 ≤ qu ∧ qu ≤ 65536) && (decide (k = 0) || decide (cmpN pv nm < 0))) := by unfold rmB; rw [hgd, hg1, hpv]
      have HBAD := Lib.hid (fun (h : (g1 && decide (1 ≤ ro ∧ ro ≤ 2) && decide (0 ≤ qu ∧ qu ≤ 65536) && (decide (k = 0) || decide (cmpN pv nm < 0))) = false) => HBM.out k hkn (hrm.trans h))
      have HNEXT := Lib.hid (fun (h : (g1 && decide (1 ≤ ro ∧ ro ≤ 2) && decide (0 ≤ qu ∧ qu ≤ 65536) && (decide (k = 0) || decide (cmpN pv nm < 0))) = true) => show ∀ j, j < k + 1 → rmB r.ms j = true from fun j hj => by
        by_cases hjk : j = k
        · rw [hjk]; exact hrm.trans h
        · exact HALL.out j (by omega))
      have HPC := Lib.hid (fun h0 : 0 < k => show U.cell? ⟨b5, (k - 1) * 3, none⟩ = some (.string pv) from by
        have hk1 : k - 1 < r.ms.length := by omega
        have := h5d (k - 1) hk1 0 _ rfl
        rw [Nat.add_zero] at this
        rw [hpv, List.getD_eq_getElem?_getD, List.getElem?_eq_getElem hk1]
        exact (hbU.cell (p := ⟨b5, (k - 1) * 3, none⟩) hb5).trans this)
      have hw1 : IntKind.i64.wrap ((k : Int) + 1) = ((k + 1 : Nat) : Int) := by exact IntWalk.i64_in _ (by omega)
      have q0 := (hbU.cell (p := ⟨b5, k * 3, none⟩) hb5).trans k0
      have q1 := (hbU.cell (p := ⟨b5, k * 3 + 1, none⟩) hb5).trans k1
      have q2 := (hbU.cell (p := ⟨b5, k * 3 + 2, none⟩) hb5).trans k2
      rw [← HU.out]
      have HB5 := Lib.hid (show b5 < U.heap.size from Nat.lt_of_lt_of_le hb5 hbU.size)
      have HCE := Lib.hid (fun (w : World) (b : Below U.heap.size U w) => (⟨cell_of_row _ _ 0 _ _ (0, 0) ((b.block _ (Gn.heap_lt hm0)).trans hm0), cell_of_row _ _ 1 _ _ (0, 0) ((b.block _ (Gn.heap_lt hm0)).trans hm0), cell_of_row _ _ 2 _ _ (0, 0) ((b.block _ (Gn.heap_lt hm0)).trans hm0), cell_of_row _ _ 0 _ _ (0, 0) ((b.block _ (Gn.heap_lt hxU)).trans hxU), cell_of_row _ _ 1 _ _ (0, 0) ((b.block _ (Gn.heap_lt hxU)).trans hxU)⟩ : w.cell? ⟨wr.heap.size, 0, none⟩ = some (.string nm) ∧ w.cell? ⟨wr.heap.size, 1, none⟩ = some (.int .i64 ro) ∧ w.cell? ⟨wr.heap.size, 2, none⟩ = some (.int .i64 qu) ∧ w.cell? ⟨W.heap.size, 0, none⟩ = some (.slice (some ⟨b5, 0, none⟩) n cm) ∧ w.cell? ⟨W.heap.size, 1, none⟩ = some (.slice Ac m cc)))
      clear k0 k1 k2 hU hbU hm0 hBV hxU hxk hgd hg1 hpv hrm hx hkl h5c h5d hb hb5
      cases g1 with
      | false =>
        have HF := Lib.hid (HBAD.out (by simp))
        go_upto_region 5 with fail
        refine LooseD.region_loose (fun w => Below U.heap.size U w) _ _ (by kernel_rfl) (by kernel_rfl)
          (LooseD.waits (D := [[], [], [], [], [], [], [], [], [], [], [], [], [], [], [], [], [], [], [], [], [], [], [], [], [], [], [], [], [], [], [], [], [], [], [], [], [], [], [], []]) (by kernel_rfl))
          (LooseD.stays (ts := [none, none, some (.is (.bool false)), none, none, none, none, none, none, none, none, none, none, none, none, none, none, none, none, none, none, none, none, none, none, none, none, none, none, none, none, none, none, none, none, none, none, none, none, none]) (fun w w' h b => h.trans (b.mono h.size)) (.none (.none (.is (.none (.none (.none (.none (.none (.none (.none (.none (.none (.none (.none (.none (.none (.none (.none (.none (.none (.none (.none (.none (.none (.none (.none (.none (.none (.none (.none (.none (.none (.none (.none (.none (.none (.none (.none (.none (.none .nil)))))))))))))))))))))))))))))))))))))))))
          (Gn.below_drew (Below.refl _ _)) ?_
        refine LooseD.reads (.pointer (some ⟨wr.heap.size, 0, none⟩)) rfl rfl ?_ ?_
        · intro w hw
          obtain ⟨y0, y1, y2, y3, y4⟩ := HCE.out w hw
          clear hw
          go_simp
        try simp only [Act.put, List.setIfInBounds_toArray, List.set_cons_zero, List.set_cons_succ]
        refine LooseD.reads (.string nm) rfl rfl ?_ ?_
        · intro w hw
          obtain ⟨y0, y1, y2, y3, y4⟩ := HCE.out w hw
          clear hw
          go_simp
        try simp only [Act.put, List.setIfInBounds_toArray, List.set_cons_zero, List.set_cons_succ]
        refine LooseD.gives (.bool false) 67 #[.string nm] rfl rfl ?_ (fun w hw hH => (HG.out w).mono fun e w1 h => ⟨h.1, by rw [h.2]; exact Below.refl _ _⟩) ?_
        · intro w hw
          clear hw
          go_simp
        try simp only [Act.put, List.setIfInBounds_toArray, List.set_cons_zero, List.set_cons_succ]
        refine LooseD.reads (.bool true) rfl rfl ?_ ?_
        · intro w hw
          obtain ⟨y0, y1, y2, y3, y4⟩ := HCE.out w hw
          clear hw
          go_simp
        try simp only [Act.put, List.setIfInBounds_toArray, List.set_cons_zero, List.set_cons_succ]
        refine LooseD.reads (.bool true) rfl rfl ?_ ?_
        · intro w hw
          obtain ⟨y0, y1, y2, y3, y4⟩ := HCE.out w hw
          clear hw
          go_simp
        try simp only [Act.put, List.setIfInBounds_toArray, List.set_cons_zero, List.set_cons_succ]
        refine LooseD.unwanted rfl ?_
        try simp only [Act.put, List.setIfInBounds_toArray, List.set_cons_zero, List.set_cons_succ]
        refine LooseD.unwanted rfl ?_
        try simp only [Act.put, List.setIfInBounds_toArray, List.set_cons_zero, List.set_cons_succ]
        refine LooseD.unwanted rfl ?_
        try simp only [Act.put, List.setIfInBounds_toArray, List.set_cons_zero, List.set_cons_succ]
        refine LooseD.reads (.bool true) rfl rfl ?_ ?_
        · intro w hw
          obtain ⟨y0, y1, y2, y3, y4⟩ := HCE.out w hw
          clear hw
          go_simp
        try simp only [Act.put, List.setIfInBounds_toArray, List.set_cons_zero, List.set_cons_succ]
        refine LooseD.reads (.bool true) rfl rfl ?_ ?_
        · intro w hw
          obtain ⟨y0, y1, y2, y3, y4⟩ := HCE.out w hw
          clear hw
          go_simp
        try simp only [Act.put, List.setIfInBounds_toArray, List.set_cons_zero, List.set_cons_succ]
        refine LooseD.unwanted rfl ?_
        try simp only [Act.put, List.setIfInBounds_toArray, List.set_cons_zero, List.set_cons_succ]
        refine LooseD.unwanted rfl ?_
        try simp only [Act.put, List.setIfInBounds_toArray, List.set_cons_zero, List.set_cons_succ]
        refine LooseD.unwanted rfl ?_
        try simp only [Act.put, List.setIfInBounds_toArray, List.set_cons_zero, List.set_cons_succ]
        refine LooseD.reads (.bool true) rfl rfl ?_ ?_
        · intro w hw
          obtain ⟨y0, y1, y2, y3, y4⟩ := HCE.out w hw
          clear hw
          go_simp
        try simp only [Act.put, List.setIfInBounds_toArray, List.set_cons_zero, List.set_cons_succ]
        refine LooseD.reads (.bool true) rfl rfl ?_ ?_
        · intro w hw
          obtain ⟨y0, y1, y2, y3, y4⟩ := HCE.out w hw
          clear hw
          go_simp
        try simp only [Act.put, List.setIfInBounds_toArray, List.set_cons_zero, List.set_cons_succ]
        refine LooseD.unwanted rfl ?_
        try simp only [Act.put, List.setIfInBounds_toArray, List.set_cons_zero, List.set_cons_succ]
        refine LooseD.unwanted rfl ?_
        try simp only [Act.put, List.setIfInBounds_toArray, List.set_cons_zero, List.set_cons_succ]
        refine LooseD.unwanted rfl ?_
        try simp only [Act.put, List.setIfInBounds_toArray, List.set_cons_zero, List.set_cons_succ]
        refine LooseD.reads (.bool true) rfl rfl ?_ ?_
        · intro w hw
          obtain ⟨y0, y1, y2, y3, y4⟩ := HCE.out w hw
          clear hw
          go_simp
        try simp only [Act.put, List.setIfInBounds_toArray, List.set_cons_zero, List.set_cons_succ]
        refine LooseD.reads (.bool true) rfl rfl ?_ ?_
        · intro w hw
          obtain ⟨y0, y1, y2, y3, y4⟩ := HCE.out w hw
          clear hw
          go_simp
        try simp only [Act.put, List.setIfInBounds_toArray, List.set_cons_zero, List.set_cons_succ]
        refine LooseD.unwanted rfl ?_
        try simp only [Act.put, List.setIfInBounds_toArray, List.set_cons_zero, List.set_cons_succ]
        refine LooseD.unwanted rfl ?_
        try simp only [Act.put, List.setIfInBounds_toArray, List.set_cons_zero, List.set_cons_succ]
        refine LooseD.unwanted rfl ?_
        try simp only [Act.put, List.setIfInBounds_toArray, List.set_cons_zero, List.set_cons_succ]
        refine LooseD.reads (.bool true) rfl rfl ?_ ?_
        · intro w hw
          obtain ⟨y0, y1, y2, y3, y4⟩ := HCE.out w hw
          clear hw
          go_simp
        try simp only [Act.put, List.setIfInBounds_toArray, List.set_cons_zero, List.set_cons_succ]
        refine LooseD.reads (.bool true) rfl rfl ?_ ?_
        · intro w hw
          obtain ⟨y0, y1, y2, y3, y4⟩ := HCE.out w hw
          clear hw
          go_simp
        try simp only [Act.put, List.setIfInBounds_toArray, List.set_cons_zero, List.set_cons_succ]
        refine LooseD.unwanted rfl ?_
        try simp only [Act.put, List.setIfInBounds_toArray, List.set_cons_zero, List.set_cons_succ]
        refine LooseD.unwanted rfl ?_
        try simp only [Act.put, List.setIfInBounds_toArray, List.set_cons_zero, List.set_cons_succ]
        refine LooseD.unwanted rfl ?_
        try simp only [Act.put, List.setIfInBounds_toArray, List.set_cons_zero, List.set_cons_succ]
        refine LooseD.unwanted rfl ?_
        try simp only [Act.put, List.setIfInBounds_toArray, List.set_cons_zero, List.set_cons_succ]
        refine LooseD.unwanted rfl ?_
        try simp only [Act.put, List.setIfInBounds_toArray, List.set_cons_zero, List.set_cons_succ]
        refine LooseD.unwanted rfl ?_
        try simp only [Act.put, List.setIfInBounds_toArray, List.set_cons_zero, List.set_cons_succ]
        refine LooseD.unwanted rfl ?_
        try simp only [Act.put, List.setIfInBounds_toArray, List.set_cons_zero, List.set_cons_succ]
        refine LooseD.unwanted rfl ?_
        try simp only [Act.put, List.setIfInBounds_toArray, List.set_cons_zero, List.set_cons_succ]
        refine LooseD.unwanted rfl ?_
        try simp only [Act.put, List.setIfInBounds_toArray, List.set_cons_zero, List.set_cons_succ]
        refine LooseD.unwanted rfl ?_
        try simp only [Act.put, List.setIfInBounds_toArray, List.set_cons_zero, List.set_cons_succ]
        refine LooseD.unwanted rfl ?_
        try simp only [Act.put, List.setIfInBounds_toArray, List.set_cons_zero, List.set_cons_succ]
        refine LooseD.unwanted rfl ?_
        try simp only [Act.put, List.setIfInBounds_toArray, List.set_cons_zero, List.set_cons_succ]
        refine LooseD.unwanted rfl ?_
        try simp only [Act.put, List.setIfInBounds_toArray, List.set_cons_zero, List.set_cons_succ]
        refine LooseD.unwanted rfl ?_
        try simp only [Act.put, List.setIfInBounds_toArray, List.set_cons_zero, List.set_cons_succ]
        refine LooseD.reads (.bool true) rfl rfl ?_ ?_
        · intro w hw
          obtain ⟨y0, y1, y2, y3, y4⟩ := HCE.out w hw
          clear hw
          go_simp
        try simp only [Act.put, List.setIfInBounds_toArray, List.set_cons_zero, List.set_cons_succ]
        refine LooseD.done fun w' hw' _ => ?_
        have HW := Lib.hid hw'
        clear hw'
        go_wp2_with fail
        go_ret
        exact ⟨by rw [HF.out]; rfl, HBU.out.trans (HW.out.mono HBU.out.size)⟩
      | true =>
        by_cases c1 : ro < 1
        · have HF := Lib.hid (HBAD.out (by rw [decide_eq_false (show ¬ (1 ≤ ro ∧ ro ≤ 2) by omega)]; simp))
          go_upto_region 5 with fail
          refine LooseD.region_loose (fun w => Below U.heap.size U w) _ _ (by kernel_rfl) (by kernel_rfl)
            (LooseD.waits (D := [[], [], [], [], [], [], [], [], [], [], [], [], [], [], [], [], [], [], [], [], [], [], [], [], [], [], [], [], [], [], [], [], [], [], [], [], [], [], [], []]) (by kernel_rfl))
            (LooseD.stays (ts := [none, none, some (.is (.bool true)), none, none, none, none, none, none, none, none, none, none, none, none, none, none, none, none, none, none, none, none, none, none, none, none, none, none, none, none, none, none, none, none, none, none, none, none, none]) (fun w w' h b => h.trans (b.mono h.size)) (.none (.none (.is (.none (.none (.none (.none (.none (.none (.none (.none (.none (.none (.none (.none (.none (.none (.none (.none (.none (.none (.none (.none (.none (.none (.none (.none (.none (.none (.none (.none (.none (.none (.none (.none (.none (.none (.none (.none (.none .nil)))))))))))))))))))))))))))))))))))))))))
            (Gn.below_drew (Below.refl _ _)) ?_
          refine LooseD.reads (.pointer (some ⟨wr.heap.size, 0, none⟩)) rfl rfl ?_ ?_
          · intro w hw
            obtain ⟨y0, y1, y2, y3, y4⟩ := HCE.out w hw
            clear hw
            go_simp
          try simp only [Act.put, List.setIfInBounds_toArray, List.set_cons_zero, List.set_cons_succ]
          refine LooseD.reads (.string nm) rfl rfl ?_ ?_
          · intro w hw
            obtain ⟨y0, y1, y2, y3, y4⟩ := HCE.out w hw
            clear hw
            go_simp
          try simp only [Act.put, List.setIfInBounds_toArray, List.set_cons_zero, List.set_cons_succ]
          refine LooseD.gives (.bool true) 67 #[.string nm] rfl rfl ?_ (fun w hw hH => (HG.out w).mono fun e w1 h => ⟨h.1, by rw [h.2]; exact Below.refl _ _⟩) ?_
          · intro w hw
            clear hw
            go_simp
          try simp only [Act.put, List.setIfInBounds_toArray, List.set_cons_zero, List.set_cons_succ]
          refine LooseD.reads (.bool false) rfl rfl ?_ ?_
          · intro w hw
            obtain ⟨y0, y1, y2, y3, y4⟩ := HCE.out w hw
            clear hw
            go_simp
          try simp only [Act.put, List.setIfInBounds_toArray, List.set_cons_zero, List.set_cons_succ]
          refine LooseD.reads (.bool false) rfl rfl ?_ ?_
          · intro w hw
            obtain ⟨y0, y1, y2, y3, y4⟩ := HCE.out w hw
            clear hw
            go_simp
          try simp only [Act.put, List.setIfInBounds_toArray, List.set_cons_zero, List.set_cons_succ]
          refine LooseD.reads (.pointer (some ⟨wr.heap.size, 1, none⟩)) rfl rfl ?_ ?_
          · intro w hw
            obtain ⟨y0, y1, y2, y3, y4⟩ := HCE.out w hw
            clear hw
            go_simp
          try simp only [Act.put, List.setIfInBounds_toArray, List.set_cons_zero, List.set_cons_succ]
          refine LooseD.reads (.int .i64 ro) rfl rfl ?_ ?_
          · intro w hw
            obtain ⟨y0, y1, y2, y3, y4⟩ := HCE.out w hw
            clear hw
            go_simp
          try simp only [Act.put, List.setIfInBounds_toArray, List.set_cons_zero, List.set_cons_succ]
          refine LooseD.reads (.bool true) rfl rfl ?_ ?_
          · intro w hw
            obtain ⟨y0, y1, y2, y3, y4⟩ := HCE.out w hw
            clear hw
            go_simp
          try simp only [Act.put, List.setIfInBounds_toArray, List.set_cons_zero, List.set_cons_succ]
          refine LooseD.reads (.bool true) rfl rfl ?_ ?_
          · intro w hw
            obtain ⟨y0, y1, y2, y3, y4⟩ := HCE.out w hw
            clear hw
            go_simp
          try simp only [Act.put, List.setIfInBounds_toArray, List.set_cons_zero, List.set_cons_succ]
          refine LooseD.reads (.bool true) rfl rfl ?_ ?_
          · intro w hw
            obtain ⟨y0, y1, y2, y3, y4⟩ := HCE.out w hw
            clear hw
            go_simp
          try simp only [Act.put, List.setIfInBounds_toArray, List.set_cons_zero, List.set_cons_succ]
          refine LooseD.unwanted rfl ?_
          try simp only [Act.put, List.setIfInBounds_toArray, List.set_cons_zero, List.set_cons_succ]
          refine LooseD.unwanted rfl ?_
          try simp only [Act.put, List.setIfInBounds_toArray, List.set_cons_zero, List.set_cons_succ]
          refine LooseD.unwanted rfl ?_
          try simp only [Act.put, List.setIfInBounds_toArray, List.set_cons_zero, List.set_cons_succ]
          refine LooseD.reads (.bool true) rfl rfl ?_ ?_
          · intro w hw
            obtain ⟨y0, y1, y2, y3, y4⟩ := HCE.out w hw
            clear hw
            go_simp
          try simp only [Act.put, List.setIfInBounds_toArray, List.set_cons_zero, List.set_cons_succ]
          refine LooseD.reads (.bool true) rfl rfl ?_ ?_
          · intro w hw
            obtain ⟨y0, y1, y2, y3, y4⟩ := HCE.out w hw
            clear hw
            go_simp
          try simp only [Act.put, List.setIfInBounds_toArray, List.set_cons_zero, List.set_cons_succ]
          refine LooseD.unwanted rfl ?_
          try simp only [Act.put, List.setIfInBounds_toArray, List.set_cons_zero, List.set_cons_succ]
          refine LooseD.unwanted rfl ?_
          try simp only [Act.put, List.setIfInBounds_toArray, List.set_cons_zero, List.set_cons_succ]
          refine LooseD.unwanted rfl ?_
          try simp only [Act.put, List.setIfInBounds_toArray, List.set_cons_zero, List.set_cons_succ]
          refine LooseD.reads (.bool true) rfl rfl ?_ ?_
          · intro w hw
            obtain ⟨y0, y1, y2, y3, y4⟩ := HCE.out w hw
            clear hw
            go_simp
          try simp only [Act.put, List.setIfInBounds_toArray, List.set_cons_zero, List.set_cons_succ]
          refine LooseD.reads (.bool true) rfl rfl ?_ ?_
          · intro w hw
            obtain ⟨y0, y1, y2, y3, y4⟩ := HCE.out w hw
            clear hw
            go_simp
          try simp only [Act.put, List.setIfInBounds_toArray, List.set_cons_zero, List.set_cons_succ]
          refine LooseD.unwanted rfl ?_
          try simp only [Act.put, List.setIfInBounds_toArray, List.set_cons_zero, List.set_cons_succ]
          refine LooseD.unwanted rfl ?_
          try simp only [Act.put, List.setIfInBounds_toArray, List.set_cons_zero, List.set_cons_succ]
          refine LooseD.unwanted rfl ?_
          try simp only [Act.put, List.setIfInBounds_toArray, List.set_cons_zero, List.set_cons_succ]
          refine LooseD.reads (.bool true) rfl rfl ?_ ?_
          · intro w hw
            obtain ⟨y0, y1, y2, y3, y4⟩ := HCE.out w hw
            clear hw
            go_simp
          try simp only [Act.put, List.setIfInBounds_toArray, List.set_cons_zero, List.set_cons_succ]
          refine LooseD.reads (.bool true) rfl rfl ?_ ?_
          · intro w hw
            obtain ⟨y0, y1, y2, y3, y4⟩ := HCE.out w hw
            clear hw
            go_simp
          try simp only [Act.put, List.setIfInBounds_toArray, List.set_cons_zero, List.set_cons_succ]
          refine LooseD.unwanted rfl ?_
          try simp only [Act.put, List.setIfInBounds_toArray, List.set_cons_zero, List.set_cons_succ]
          refine LooseD.unwanted rfl ?_
          try simp only [Act.put, List.setIfInBounds_toArray, List.set_cons_zero, List.set_cons_succ]
          refine LooseD.unwanted rfl ?_
          try simp only [Act.put, List.setIfInBounds_toArray, List.set_cons_zero, List.set_cons_succ]
          refine LooseD.unwanted rfl ?_
          try simp only [Act.put, List.setIfInBounds_toArray, List.set_cons_zero, List.set_cons_succ]
          refine LooseD.unwanted rfl ?_
          try simp only [Act.put, List.setIfInBounds_toArray, List.set_cons_zero, List.set_cons_succ]
          refine LooseD.unwanted rfl ?_
          try simp only [Act.put, List.setIfInBounds_toArray, List.set_cons_zero, List.set_cons_succ]
          refine LooseD.unwanted rfl ?_
          try simp only [Act.put, List.setIfInBounds_toArray, List.set_cons_zero, List.set_cons_succ]
          refine LooseD.unwanted rfl ?_
          try simp only [Act.put, List.setIfInBounds_toArray, List.set_cons_zero, List.set_cons_succ]
          refine LooseD.unwanted rfl ?_
          try simp only [Act.put, List.setIfInBounds_toArray, List.set_cons_zero, List.set_cons_succ]
          refine LooseD.unwanted rfl ?_
          try simp only [Act.put, List.setIfInBounds_toArray, List.set_cons_zero, List.set_cons_succ]
          refine LooseD.unwanted rfl ?_
          try simp only [Act.put, List.setIfInBounds_toArray, List.set_cons_zero, List.set_cons_succ]
          refine LooseD.unwanted rfl ?_
          try simp only [Act.put, List.setIfInBounds_toArray, List.set_cons_zero, List.set_cons_succ]
          refine LooseD.unwanted rfl ?_
          try simp only [Act.put, List.setIfInBounds_toArray, List.set_cons_zero, List.set_cons_succ]
          refine LooseD.unwanted rfl ?_
          try simp only [Act.put, List.setIfInBounds_toArray, List.set_cons_zero, List.set_cons_succ]
          refine LooseD.reads (.bool true) rfl rfl ?_ ?_
          · intro w hw
            obtain ⟨y0, y1, y2, y3, y4⟩ := HCE.out w hw
            clear hw
            go_simp
          try simp only [Act.put, List.setIfInBounds_toArray, List.set_cons_zero, List.set_cons_succ]
          refine LooseD.done fun w' hw' _ => ?_
          have HW := Lib.hid hw'
          clear hw'
          go_wp2_with fail
          go_ret
          exact ⟨by rw [HF.out]; rfl, HBU.out.trans (HW.out.mono HBU.out.size)⟩
        by_cases c2 : 2 < ro
        · have HF := Lib.hid (HBAD.out (by rw [decide_eq_false (show ¬ (1 ≤ ro ∧ ro ≤ 2) by omega)]; simp))
          go_upto_region 5 with fail
          refine LooseD.region_loose (fun w => Below U.heap.size U w) _ _ (by kernel_rfl) (by kernel_rfl)
            (LooseD.waits (D := [[], [], [], [], [], [], [], [], [], [], [], [], [], [], [], [], [], [], [], [], [], [], [], [], [], [], [], [], [], [], [], [], [], [], [], [], [], [], [], []]) (by kernel_rfl))
            (LooseD.stays (ts := [none, none, some (.is (.bool true)), none, none, none, none, none, none, none, none, none, none, none, none, none, none, none, none, none, none, none, none, none, none, none, none, none, none, none, none, none, none, none, none, none, none, none, none, none]) (fun w w' h b => h.trans (b.mono h.size)) (.none (.none (.is (.none (.none (.none (.none (.none (.none (.none (.none (.none (.none (.none (.none (.none (.none (.none (.none (.none (.none (.none (.none (.none (.none (.none (.none (.none (.none (.none (.none (.none (.none (.none (.none (.none (.none (.none (.none (.none .nil)))))))))))))))))))))))))))))))))))))))))
            (Gn.below_drew (Below.refl _ _)) ?_
          refine LooseD.reads (.pointer (some ⟨wr.heap.size, 0, none⟩)) rfl rfl ?_ ?_
          · intro w hw
            obtain ⟨y0, y1, y2, y3, y4⟩ := HCE.out w hw
            clear hw
            go_simp
          try simp only [Act.put, List.setIfInBounds_toArray, List.set_cons_zero, List.set_cons_succ]
          refine LooseD.reads (.string nm) rfl rfl ?_ ?_
          · intro w hw
            obtain ⟨y0, y1, y2, y3, y4⟩ := HCE.out w hw
            clear hw
            go_simp
          try simp only [Act.put, List.setIfInBounds_toArray, List.set_cons_zero, List.set_cons_succ]
          refine LooseD.gives (.bool true) 67 #[.string nm] rfl rfl ?_ (fun w hw hH => (HG.out w).mono fun e w1 h => ⟨h.1, by rw [h.2]; exact Below.refl _ _⟩) ?_
          · intro w hw
            clear hw
            go_simp
          try simp only [Act.put, List.setIfInBounds_toArray, List.set_cons_zero, List.set_cons_succ]
          refine LooseD.reads (.bool false) rfl rfl ?_ ?_
          · intro w hw
            obtain ⟨y0, y1, y2, y3, y4⟩ := HCE.out w hw
            clear hw
            go_simp
          try simp only [Act.put, List.setIfInBounds_toArray, List.set_cons_zero, List.set_cons_succ]
          refine LooseD.reads (.bool false) rfl rfl ?_ ?_
          · intro w hw
            obtain ⟨y0, y1, y2, y3, y4⟩ := HCE.out w hw
            clear hw
            go_simp
          try simp only [Act.put, List.setIfInBounds_toArray, List.set_cons_zero, List.set_cons_succ]
          refine LooseD.reads (.pointer (some ⟨wr.heap.size, 1, none⟩)) rfl rfl ?_ ?_
          · intro w hw
            obtain ⟨y0, y1, y2, y3, y4⟩ := HCE.out w hw
            clear hw
            go_simp
          try simp only [Act.put, List.setIfInBounds_toArray, List.set_cons_zero, List.set_cons_succ]
          refine LooseD.reads (.int .i64 ro) rfl rfl ?_ ?_
          · intro w hw
            obtain ⟨y0, y1, y2, y3, y4⟩ := HCE.out w hw
            clear hw
            go_simp
          try simp only [Act.put, List.setIfInBounds_toArray, List.set_cons_zero, List.set_cons_succ]
          refine LooseD.reads (.bool false) rfl rfl ?_ ?_
          · intro w hw
            obtain ⟨y0, y1, y2, y3, y4⟩ := HCE.out w hw
            clear hw
            go_simp
          try simp only [Act.put, List.setIfInBounds_toArray, List.set_cons_zero, List.set_cons_succ]
          refine LooseD.reads (.bool false) rfl rfl ?_ ?_
          · intro w hw
            obtain ⟨y0, y1, y2, y3, y4⟩ := HCE.out w hw
            clear hw
            go_simp
          try simp only [Act.put, List.setIfInBounds_toArray, List.set_cons_zero, List.set_cons_succ]
          refine LooseD.reads (.bool false) rfl rfl ?_ ?_
          · intro w hw
            obtain ⟨y0, y1, y2, y3, y4⟩ := HCE.out w hw
            clear hw
            go_simp
          try simp only [Act.put, List.setIfInBounds_toArray, List.set_cons_zero, List.set_cons_succ]
          refine LooseD.reads (.pointer (some ⟨wr.heap.size, 1, none⟩)) rfl rfl ?_ ?_
          · intro w hw
            obtain ⟨y0, y1, y2, y3, y4⟩ := HCE.out w hw
            clear hw
            go_simp
          try simp only [Act.put, List.setIfInBounds_toArray, List.set_cons_zero, List.set_cons_succ]
          refine LooseD.reads (.int .i64 ro) rfl rfl ?_ ?_
          · intro w hw
            obtain ⟨y0, y1, y2, y3, y4⟩ := HCE.out w hw
            clear hw
            go_simp
          try simp only [Act.put, List.setIfInBounds_toArray, List.set_cons_zero, List.set_cons_succ]
          refine LooseD.reads (.bool true) rfl rfl ?_ ?_
          · intro w hw
            obtain ⟨y0, y1, y2, y3, y4⟩ := HCE.out w hw
            clear hw
            go_simp
          try simp only [Act.put, List.setIfInBounds_toArray, List.set_cons_zero, List.set_cons_succ]
          refine LooseD.reads (.bool true) rfl rfl ?_ ?_
          · intro w hw
            obtain ⟨y0, y1, y2, y3, y4⟩ := HCE.out w hw
            clear hw
            go_simp
          try simp only [Act.put, List.setIfInBounds_toArray, List.set_cons_zero, List.set_cons_succ]
          refine LooseD.reads (.bool true) rfl rfl ?_ ?_
          · intro w hw
            obtain ⟨y0, y1, y2, y3, y4⟩ := HCE.out w hw
            clear hw
            go_simp
          try simp only [Act.put, List.setIfInBounds_toArray, List.set_cons_zero, List.set_cons_succ]
          refine LooseD.unwanted rfl ?_
          try simp only [Act.put, List.setIfInBounds_toArray, List.set_cons_zero, List.set_cons_succ]
          refine LooseD.unwanted rfl ?_
          try simp only [Act.put, List.setIfInBounds_toArray, List.set_cons_zero, List.set_cons_succ]
          refine LooseD.unwanted rfl ?_
          try simp only [Act.put, List.setIfInBounds_toArray, List.set_cons_zero, List.set_cons_succ]
          refine LooseD.reads (.bool true) rfl rfl ?_ ?_
          · intro w hw
            obtain ⟨y0, y1, y2, y3, y4⟩ := HCE.out w hw
            clear hw
            go_simp
          try simp only [Act.put, List.setIfInBounds_toArray, List.set_cons_zero, List.set_cons_succ]
          refine LooseD.reads (.bool true) rfl rfl ?_ ?_
          · intro w hw
            obtain ⟨y0, y1, y2, y3, y4⟩ := HCE.out w hw
            clear hw
            go_simp
          try simp only [Act.put, List.setIfInBounds_toArray, List.set_cons_zero, List.set_cons_succ]
          refine LooseD.unwanted rfl ?_
          try simp only [Act.put, List.setIfInBounds_toArray, List.set_cons_zero, List.set_cons_succ]
          refine LooseD.unwanted rfl ?_
          try simp only [Act.put, List.setIfInBounds_toArray, List.set_cons_zero, List.set_cons_succ]
          refine LooseD.unwanted rfl ?_
          try simp only [Act.put, List.setIfInBounds_toArray, List.set_cons_zero, List.set_cons_succ]
          refine LooseD.reads (.bool true) rfl rfl ?_ ?_
          · intro w hw
            obtain ⟨y0, y1, y2, y3, y4⟩ := HCE.out w hw
            clear hw
            go_simp
          try simp only [Act.put, List.setIfInBounds_toArray, List.set_cons_zero, List.set_cons_succ]
          refine LooseD.reads (.bool true) rfl rfl ?_ ?_
          · intro w hw
            obtain ⟨y0, y1, y2, y3, y4⟩ := HCE.out w hw
            clear hw
            go_simp
          try simp only [Act.put, List.setIfInBounds_toArray, List.set_cons_zero, List.set_cons_succ]
          refine LooseD.unwanted rfl ?_
          try simp only [Act.put, List.setIfInBounds_toArray, List.set_cons_zero, List.set_cons_succ]
          refine LooseD.unwanted rfl ?_
          try simp only [Act.put, List.setIfInBounds_toArray, List.set_cons_zero, List.set_cons_succ]
          refine LooseD.unwanted rfl ?_
          try simp only [Act.put, List.setIfInBounds_toArray, List.set_cons_zero, List.set_cons_succ]
          refine LooseD.unwanted rfl ?_
          try simp only [Act.put, List.setIfInBounds_toArray, List.set_cons_zero, List.set_cons_succ]
          refine LooseD.unwanted rfl ?_
          try simp only [Act.put, List.setIfInBounds_toArray, List.set_cons_zero, List.set_cons_succ]
          refine LooseD.unwanted rfl ?_
          try simp only [Act.put, List.setIfInBounds_toArray, List.set_cons_zero, List.set_cons_succ]
          refine LooseD.unwanted rfl ?_
          try simp only [Act.put, List.setIfInBounds_toArray, List.set_cons_zero, List.set_cons_succ]
          refine LooseD.unwanted rfl ?_
          try simp only [Act.put, List.setIfInBounds_toArray, List.set_cons_zero, List.set_cons_succ]
          refine LooseD.unwanted rfl ?_
          try simp only [Act.put, List.setIfInBounds_toArray, List.set_cons_zero, List.set_cons_succ]
          refine LooseD.unwanted rfl ?_
          try simp only [Act.put, List.setIfInBounds_toArray, List.set_cons_zero, List.set_cons_succ]
          refine LooseD.unwanted rfl ?_
          try simp only [Act.put, List.setIfInBounds_toArray, List.set_cons_zero, List.set_cons_succ]
          refine LooseD.unwanted rfl ?_
          try simp only [Act.put, List.setIfInBounds_toArray, List.set_cons_zero, List.set_cons_succ]
          refine LooseD.unwanted rfl ?_
          try simp only [Act.put, List.setIfInBounds_toArray, List.set_cons_zero, List.set_cons_succ]
          refine LooseD.unwanted rfl ?_
          try simp only [Act.put, List.setIfInBounds_toArray, List.set_cons_zero, List.set_cons_succ]
          refine LooseD.reads (.bool true) rfl rfl ?_ ?_
          · intro w hw
            obtain ⟨y0, y1, y2, y3, y4⟩ := HCE.out w hw
            clear hw
            go_simp
          try simp only [Act.put, List.setIfInBounds_toArray, List.set_cons_zero, List.set_cons_succ]
          refine LooseD.done fun w' hw' _ => ?_
          have HW := Lib.hid hw'
          clear hw'
          go_wp2_with fail
          go_ret
          exact ⟨by rw [HF.out]; rfl, HBU.out.trans (HW.out.mono HBU.out.size)⟩
        have e1 := decide_eq_true (show (1 ≤ ro ∧ ro ≤ 2) by omega)
        by_cases c3 : qu < 0
        · have HF := Lib.hid (HBAD.out (by rw [decide_eq_false (show ¬ (0 ≤ qu ∧ qu ≤ 65536) by omega)]; simp))
          go_upto_region 5 with fail
          refine LooseD.region_loose (fun w => Below U.heap.size U w) _ _ (by kernel_rfl) (by kernel_rfl)
            (LooseD.waits (D := [[], [], [], [], [], [], [], [], [], [], [], [], [], [], [], [], [], [], [], [], [], [], [], [], [], [], [], [], [], [], [], [], [], [], [], [], [], [], [], []]) (by kernel_rfl))
            (LooseD.stays (ts := [none, none, some (.is (.bool true)), none, none, none, none, none, none, none, none, none, none, none, none, none, none, none, none, none, none, none, none, none, none, none, none, none, none, none, none, none, none, none, none, none, none, none, none, none]) (fun w w' h b => h.trans (b.mono h.size)) (.none (.none (.is (.none (.none (.none (.none (.none (.none (.none (.none (.none (.none (.none (.none (.none (.none (.none (.none (.none (.none (.none (.none (.none (.none (.none (.none (.none (.none (.none (.none (.none (.none (.none (.none (.none (.none (.none (.none (.none .nil)))))))))))))))))))))))))))))))))))))))))
            (Gn.below_drew (Below.refl _ _)) ?_
          refine LooseD.reads (.pointer (some ⟨wr.heap.size, 0, none⟩)) rfl rfl ?_ ?_
          · intro w hw
            obtain ⟨y0, y1, y2, y3, y4⟩ := HCE.out w hw
            clear hw
            go_simp
          try simp only [Act.put, List.setIfInBounds_toArray, List.set_cons_zero, List.set_cons_succ]
          refine LooseD.reads (.string nm) rfl rfl ?_ ?_
          · intro w hw
            obtain ⟨y0, y1, y2, y3, y4⟩ := HCE.out w hw
            clear hw
            go_simp
          try simp only [Act.put, List.setIfInBounds_toArray, List.set_cons_zero, List.set_cons_succ]
          refine LooseD.gives (.bool true) 67 #[.string nm] rfl rfl ?_ (fun w hw hH => (HG.out w).mono fun e w1 h => ⟨h.1, by rw [h.2]; exact Below.refl _ _⟩) ?_
          · intro w hw
            clear hw
            go_simp
          try simp only [Act.put, List.setIfInBounds_toArray, List.set_cons_zero, List.set_cons_succ]
          refine LooseD.reads (.bool false) rfl rfl ?_ ?_
          · intro w hw
            obtain ⟨y0, y1, y2, y3, y4⟩ := HCE.out w hw
            clear hw
            go_simp
          try simp only [Act.put, List.setIfInBounds_toArray, List.set_cons_zero, List.set_cons_succ]
          refine LooseD.reads (.bool false) rfl rfl ?_ ?_
          · intro w hw
            obtain ⟨y0, y1, y2, y3, y4⟩ := HCE.out w hw
            clear hw
            go_simp
          try simp only [Act.put, List.setIfInBounds_toArray, List.set_cons_zero, List.set_cons_succ]
          refine LooseD.reads (.pointer (some ⟨wr.heap.size, 1, none⟩)) rfl rfl ?_ ?_
          · intro w hw
            obtain ⟨y0, y1, y2, y3, y4⟩ := HCE.out w hw
            clear hw
            go_simp
          try simp only [Act.put, List.setIfInBounds_toArray, List.set_cons_zero, List.set_cons_succ]
          refine LooseD.reads (.int .i64 ro) rfl rfl ?_ ?_
          · intro w hw
            obtain ⟨y0, y1, y2, y3, y4⟩ := HCE.out w hw
            clear hw
            go_simp
          try simp only [Act.put, List.setIfInBounds_toArray, List.set_cons_zero, List.set_cons_succ]
          refine LooseD.reads (.bool false) rfl rfl ?_ ?_
          · intro w hw
            obtain ⟨y0, y1, y2, y3, y4⟩ := HCE.out w hw
            clear hw
            go_simp
          try simp only [Act.put, List.setIfInBounds_toArray, List.set_cons_zero, List.set_cons_succ]
          refine LooseD.reads (.bool false) rfl rfl ?_ ?_
          · intro w hw
            obtain ⟨y0, y1, y2, y3, y4⟩ := HCE.out w hw
            clear hw
            go_simp
          try simp only [Act.put, List.setIfInBounds_toArray, List.set_cons_zero, List.set_cons_succ]
          refine LooseD.reads (.bool false) rfl rfl ?_ ?_
          · intro w hw
            obtain ⟨y0, y1, y2, y3, y4⟩ := HCE.out w hw
            clear hw
            go_simp
          try simp only [Act.put, List.setIfInBounds_toArray, List.set_cons_zero, List.set_cons_succ]
          refine LooseD.reads (.pointer (some ⟨wr.heap.size, 1, none⟩)) rfl rfl ?_ ?_
          · intro w hw
            obtain ⟨y0, y1, y2, y3, y4⟩ := HCE.out w hw
            clear hw
            go_simp
          try simp only [Act.put, List.setIfInBounds_toArray, List.set_cons_zero, List.set_cons_succ]
          refine LooseD.reads (.int .i64 ro) rfl rfl ?_ ?_
          · intro w hw
            obtain ⟨y0, y1, y2, y3, y4⟩ := HCE.out w hw
            clear hw
            go_simp
          try simp only [Act.put, List.setIfInBounds_toArray, List.set_cons_zero, List.set_cons_succ]
          refine LooseD.reads (.bool false) rfl rfl ?_ ?_
          · intro w hw
            obtain ⟨y0, y1, y2, y3, y4⟩ := HCE.out w hw
            clear hw
            go_simp
          try simp only [Act.put, List.setIfInBounds_toArray, List.set_cons_zero, List.set_cons_succ]
          refine LooseD.reads (.bool false) rfl rfl ?_ ?_
          · intro w hw
            obtain ⟨y0, y1, y2, y3, y4⟩ := HCE.out w hw
            clear hw
            go_simp
          try simp only [Act.put, List.setIfInBounds_toArray, List.set_cons_zero, List.set_cons_succ]
          refine LooseD.reads (.bool false) rfl rfl ?_ ?_
          · intro w hw
            obtain ⟨y0, y1, y2, y3, y4⟩ := HCE.out w hw
            clear hw
            go_simp
          try simp only [Act.put, List.setIfInBounds_toArray, List.set_cons_zero, List.set_cons_succ]
          refine LooseD.reads (.pointer (some ⟨wr.heap.size, 2, none⟩)) rfl rfl ?_ ?_
          · intro w hw
            obtain ⟨y0, y1, y2, y3, y4⟩ := HCE.out w hw
            clear hw
            go_simp
          try simp only [Act.put, List.setIfInBounds_toArray, List.set_cons_zero, List.set_cons_succ]
          refine LooseD.reads (.int .i64 qu) rfl rfl ?_ ?_
          · intro w hw
            obtain ⟨y0, y1, y2, y3, y4⟩ := HCE.out w hw
            clear hw
            go_simp
          try simp only [Act.put, List.setIfInBounds_toArray, List.set_cons_zero, List.set_cons_succ]
          refine LooseD.reads (.bool true) rfl rfl ?_ ?_
          · intro w hw
            obtain ⟨y0, y1, y2, y3, y4⟩ := HCE.out w hw
            clear hw
            go_simp
          try simp only [Act.put, List.setIfInBounds_toArray, List.set_cons_zero, List.set_cons_succ]
          refine LooseD.reads (.bool true) rfl rfl ?_ ?_
          · intro w hw
            obtain ⟨y0, y1, y2, y3, y4⟩ := HCE.out w hw
            clear hw
            go_simp
          try simp only [Act.put, List.setIfInBounds_toArray, List.set_cons_zero, List.set_cons_succ]
          refine LooseD.reads (.bool true) rfl rfl ?_ ?_
          · intro w hw
            obtain ⟨y0, y1, y2, y3, y4⟩ := HCE.out w hw
            clear hw
            go_simp
          try simp only [Act.put, List.setIfInBounds_toArray, List.set_cons_zero, List.set_cons_succ]
          refine LooseD.unwanted rfl ?_
          try simp only [Act.put, List.setIfInBounds_toArray, List.set_cons_zero, List.set_cons_succ]
          refine LooseD.unwanted rfl ?_
          try simp only [Act.put, List.setIfInBounds_toArray, List.set_cons_zero, List.set_cons_succ]
          refine LooseD.unwanted rfl ?_
          try simp only [Act.put, List.setIfInBounds_toArray, List.set_cons_zero, List.set_cons_succ]
          refine LooseD.reads (.bool true) rfl rfl ?_ ?_
          · intro w hw
            obtain ⟨y0, y1, y2, y3, y4⟩ := HCE.out w hw
            clear hw
            go_simp
          try simp only [Act.put, List.setIfInBounds_toArray, List.set_cons_zero, List.set_cons_succ]
          refine LooseD.reads (.bool true) rfl rfl ?_ ?_
          · intro w hw
            obtain ⟨y0, y1, y2, y3, y4⟩ := HCE.out w hw
            clear hw
            go_simp
          try simp only [Act.put, List.setIfInBounds_toArray, List.set_cons_zero, List.set_cons_succ]
          refine LooseD.unwanted rfl ?_
          try simp only [Act.put, List.setIfInBounds_toArray, List.set_cons_zero, List.set_cons_succ]
          refine LooseD.unwanted rfl ?_
          try simp only [Act.put, List.setIfInBounds_toArray, List.set_cons_zero, List.set_cons_succ]
          refine LooseD.unwanted rfl ?_
          try simp only [Act.put, List.setIfInBounds_toArray, List.set_cons_zero, List.set_cons_succ]
          refine LooseD.unwanted rfl ?_
          try simp only [Act.put, List.setIfInBounds_toArray, List.set_cons_zero, List.set_cons_succ]
          refine LooseD.unwanted rfl ?_
          try simp only [Act.put, List.setIfInBounds_toArray, List.set_cons_zero, List.set_cons_succ]
          refine LooseD.unwanted rfl ?_
          try simp only [Act.put, List.setIfInBounds_toArray, List.set_cons_zero, List.set_cons_succ]
          refine LooseD.unwanted rfl ?_
          try simp only [Act.put, List.setIfInBounds_toArray, List.set_cons_zero, List.set_cons_succ]
          refine LooseD.unwanted rfl ?_
          try simp only [Act.put, List.setIfInBounds_toArray, List.set_cons_zero, List.set_cons_succ]
          refine LooseD.unwanted rfl ?_
          try simp only [Act.put, List.setIfInBounds_toArray, List.set_cons_zero, List.set_cons_succ]
          refine LooseD.unwanted rfl ?_
          try simp only [Act.put, List.setIfInBounds_toArray, List.set_cons_zero, List.set_cons_succ]
          refine LooseD.unwanted rfl ?_
          try simp only [Act.put, List.setIfInBounds_toArray, List.set_cons_zero, List.set_cons_succ]
          refine LooseD.unwanted rfl ?_
          try simp only [Act.put, List.setIfInBounds_toArray, List.set_cons_zero, List.set_cons_succ]
          refine LooseD.unwanted rfl ?_
          try simp only [Act.put, List.setIfInBounds_toArray, List.set_cons_zero, List.set_cons_succ]
          refine LooseD.unwanted rfl ?_
          try simp only [Act.put, List.setIfInBounds_toArray, List.set_cons_zero, List.set_cons_succ]
          refine LooseD.reads (.bool true) rfl rfl ?_ ?_
          · intro w hw
            obtain ⟨y0, y1, y2, y3, y4⟩ := HCE.out w hw
            clear hw
            go_simp
          try simp only [Act.put, List.setIfInBounds_toArray, List.set_cons_zero, List.set_cons_succ]
          refine LooseD.done fun w' hw' _ => ?_
          have HW := Lib.hid hw'
          clear hw'
          go_wp2_with fail
          go_ret
          exact ⟨by rw [HF.out]; rfl, HBU.out.trans (HW.out.mono HBU.out.size)⟩
        by_cases c4 : 65536 < qu
        · have HF := Lib.hid (HBAD.out (by rw [decide_eq_false (show ¬ (0 ≤ qu ∧ qu ≤ 65536) by omega)]; simp))
          go_upto_region 5 with fail
          refine LooseD.region_loose (fun w => Below U.heap.size U w) _ _ (by kernel_rfl) (by kernel_rfl)
            (LooseD.waits (D := [[], [], [], [], [], [], [], [], [], [], [], [], [], [], [], [], [], [], [], [], [], [], [], [], [], [], [], [], [], [], [], [], [], [], [], [], [], [], [], []]) (by kernel_rfl))
            (LooseD.stays (ts := [none, none, some (.is (.bool true)), none, none, none, none, none, none, none, none, none, none, none, none, none, none, none, none, none, none, none, none, none, none, none, none, none, none, none, none, none, none, none, none, none, none, none, none, none]) (fun w w' h b => h.trans (b.mono h.size)) (.none (.none (.is (.none (.none (.none (.none (.none (.none (.none (.none (.none (.none (.none (.none (.none (.none (.none (.none (.none (.none (.none (.none (.none (.none (.none (.none (.none (.none (.none (.none (.none (.none (.none (.none (.none (.none (.none (.none (.none .nil)))))))))))))))))))))))))))))))))))))))))
            (Gn.below_drew (Below.refl _ _)) ?_
          refine LooseD.reads (.pointer (some ⟨wr.heap.size, 0, none⟩)) rfl rfl ?_ ?_
          · intro w hw
            obtain ⟨y0, y1, y2, y3, y4⟩ := HCE.out w hw
            clear hw
            go_simp
          try simp only [Act.put, List.setIfInBounds_toArray, List.set_cons_zero, List.set_cons_succ]
          refine LooseD.reads (.string nm) rfl rfl ?_ ?_
          · intro w hw
            obtain ⟨y0, y1, y2, y3, y4⟩ := HCE.out w hw
            clear hw
            go_simp
          try simp only [Act.put, List.setIfInBounds_toArray, List.set_cons_zero, List.set_cons_succ]
          refine LooseD.gives (.bool true) 67 #[.string nm] rfl rfl ?_ (fun w hw hH => (HG.out w).mono fun e w1 h => ⟨h.1, by rw [h.2]; exact Below.refl _ _⟩) ?_
          · intro w hw
            clear hw
            go_simp
          try simp only [Act.put, List.setIfInBounds_toArray, List.set_cons_zero, List.set_cons_succ]
          refine LooseD.reads (.bool false) rfl rfl ?_ ?_
          · intro w hw
            obtain ⟨y0, y1, y2, y3, y4⟩ := HCE.out w hw
            clear hw
            go_simp
          try simp only [Act.put, List.setIfInBounds_toArray, List.set_cons_zero, List.set_cons_succ]
          refine LooseD.reads (.bool false) rfl rfl ?_ ?_
          · intro w hw
            obtain ⟨y0, y1, y2, y3, y4⟩ := HCE.out w hw
            clear hw
            go_simp
          try simp only [Act.put, List.setIfInBounds_toArray, List.set_cons_zero, List.set_cons_succ]
          refine LooseD.reads (.pointer (some ⟨wr.heap.size, 1, none⟩)) rfl rfl ?_ ?_
          · intro w hw
            obtain ⟨y0, y1, y2, y3, y4⟩ := HCE.out w hw
            clear hw
            go_simp
          try simp only [Act.put, List.setIfInBounds_toArray, List.set_cons_zero, List.set_cons_succ]
          refine LooseD.reads (.int .i64 ro) rfl rfl ?_ ?_
          · intro w hw
            obtain ⟨y0, y1, y2, y3, y4⟩ := HCE.out w hw
            clear hw
            go_simp
          try simp only [Act.put, List.setIfInBounds_toArray, List.set_cons_zero, List.set_cons_succ]
          refine LooseD.reads (.bool false) rfl rfl ?_ ?_
          · intro w hw
            obtain ⟨y0, y1, y2, y3, y4⟩ := HCE.out w hw
            clear hw
            go_simp
          try simp only [Act.put, List.setIfInBounds_toArray, List.set_cons_zero, List.set_cons_succ]
          refine LooseD.reads (.bool false) rfl rfl ?_ ?_
          · intro w hw
            obtain ⟨y0, y1, y2, y3, y4⟩ := HCE.out w hw
            clear hw
            go_simp
          try simp only [Act.put, List.setIfInBounds_toArray, List.set_cons_zero, List.set_cons_succ]
          refine LooseD.reads (.bool false) rfl rfl ?_ ?_
          · intro w hw
            obtain ⟨y0, y1, y2, y3, y4⟩ := HCE.out w hw
            clear hw
            go_simp
          try simp only [Act.put, List.setIfInBounds_toArray, List.set_cons_zero, List.set_cons_succ]
          refine LooseD.reads (.pointer (some ⟨wr.heap.size, 1, none⟩)) rfl rfl ?_ ?_
          · intro w hw
            obtain ⟨y0, y1, y2, y3, y4⟩ := HCE.out w hw
            clear hw
            go_simp
          try simp only [Act.put, List.setIfInBounds_toArray, List.set_cons_zero, List.set_cons_succ]
          refine LooseD.reads (.int .i64 ro) rfl rfl ?_ ?_
          · intro w hw
            obtain ⟨y0, y1, y2, y3, y4⟩ := HCE.out w hw
            clear hw
            go_simp
          try simp only [Act.put, List.setIfInBounds_toArray, List.set_cons_zero, List.set_cons_succ]
          refine LooseD.reads (.bool false) rfl rfl ?_ ?_
          · intro w hw
            obtain ⟨y0, y1, y2, y3, y4⟩ := HCE.out w hw
            clear hw
            go_simp
          try simp only [Act.put, List.setIfInBounds_toArray, List.set_cons_zero, List.set_cons_succ]
          refine LooseD.reads (.bool false) rfl rfl ?_ ?_
          · intro w hw
            obtain ⟨y0, y1, y2, y3, y4⟩ := HCE.out w hw
            clear hw
            go_simp
          try simp only [Act.put, List.setIfInBounds_toArray, List.set_cons_zero, List.set_cons_succ]
          refine LooseD.reads (.bool false) rfl rfl ?_ ?_
          · intro w hw
            obtain ⟨y0, y1, y2, y3, y4⟩ := HCE.out w hw
            clear hw
            go_simp
          try simp only [Act.put, List.setIfInBounds_toArray, List.set_cons_zero, List.set_cons_succ]
          refine LooseD.reads (.pointer (some ⟨wr.heap.size, 2, none⟩)) rfl rfl ?_ ?_
          · intro w hw
            obtain ⟨y0, y1, y2, y3, y4⟩ := HCE.out w hw
            clear hw
            go_simp
          try simp only [Act.put, List.setIfInBounds_toArray, List.set_cons_zero, List.set_cons_succ]
          refine LooseD.reads (.int .i64 qu) rfl rfl ?_ ?_
          · intro w hw
            obtain ⟨y0, y1, y2, y3, y4⟩ := HCE.out w hw
            clear hw
            go_simp
          try simp only [Act.put, List.setIfInBounds_toArray, List.set_cons_zero, List.set_cons_succ]
          refine LooseD.reads (.bool false) rfl rfl ?_ ?_
          · intro w hw
            obtain ⟨y0, y1, y2, y3, y4⟩ := HCE.out w hw
            clear hw
            go_simp
          try simp only [Act.put, List.setIfInBounds_toArray, List.set_cons_zero, List.set_cons_succ]
          refine LooseD.reads (.bool false) rfl rfl ?_ ?_
          · intro w hw
            obtain ⟨y0, y1, y2, y3, y4⟩ := HCE.out w hw
            clear hw
            go_simp
          try simp only [Act.put, List.setIfInBounds_toArray, List.set_cons_zero, List.set_cons_succ]
          refine LooseD.reads (.bool false) rfl rfl ?_ ?_
          · intro w hw
            obtain ⟨y0, y1, y2, y3, y4⟩ := HCE.out w hw
            clear hw
            go_simp
          try simp only [Act.put, List.setIfInBounds_toArray, List.set_cons_zero, List.set_cons_succ]
          refine LooseD.reads (.pointer (some ⟨wr.heap.size, 2, none⟩)) rfl rfl ?_ ?_
          · intro w hw
            obtain ⟨y0, y1, y2, y3, y4⟩ := HCE.out w hw
            clear hw
            go_simp
          try simp only [Act.put, List.setIfInBounds_toArray, List.set_cons_zero, List.set_cons_succ]
          refine LooseD.reads (.int .i64 qu) rfl rfl ?_ ?_
          · intro w hw
            obtain ⟨y0, y1, y2, y3, y4⟩ := HCE.out w hw
            clear hw
            go_simp
          try simp only [Act.put, List.setIfInBounds_toArray, List.set_cons_zero, List.set_cons_succ]
          refine LooseD.reads (.bool true) rfl rfl ?_ ?_
          · intro w hw
            obtain ⟨y0, y1, y2, y3, y4⟩ := HCE.out w hw
            clear hw
            go_simp
          try simp only [Act.put, List.setIfInBounds_toArray, List.set_cons_zero, List.set_cons_succ]
          refine LooseD.reads (.bool true) rfl rfl ?_ ?_
          · intro w hw
            obtain ⟨y0, y1, y2, y3, y4⟩ := HCE.out w hw
            clear hw
            go_simp
          try simp only [Act.put, List.setIfInBounds_toArray, List.set_cons_zero, List.set_cons_succ]
          refine LooseD.reads (.bool true) rfl rfl ?_ ?_
          · intro w hw
            obtain ⟨y0, y1, y2, y3, y4⟩ := HCE.out w hw
            clear hw
            go_simp
          try simp only [Act.put, List.setIfInBounds_toArray, List.set_cons_zero, List.set_cons_succ]
          refine LooseD.unwanted rfl ?_
          try simp only [Act.put, List.setIfInBounds_toArray, List.set_cons_zero, List.set_cons_succ]
          refine LooseD.unwanted rfl ?_
          try simp only [Act.put, List.setIfInBounds_toArray, List.set_cons_zero, List.set_cons_succ]
          refine LooseD.unwanted rfl ?_
          try simp only [Act.put, List.setIfInBounds_toArray, List.set_cons_zero, List.set_cons_succ]
          refine LooseD.unwanted rfl ?_
          try simp only [Act.put, List.setIfInBounds_toArray, List.set_cons_zero, List.set_cons_succ]
          refine LooseD.unwanted rfl ?_
          try simp only [Act.put, List.setIfInBounds_toArray, List.set_cons_zero, List.set_cons_succ]
          refine LooseD.unwanted rfl ?_
          try simp only [Act.put, List.setIfInBounds_toArray, List.set_cons_zero, List.set_cons_succ]
          refine LooseD.unwanted rfl ?_
          try simp only [Act.put, List.setIfInBounds_toArray, List.set_cons_zero, List.set_cons_succ]
          refine LooseD.unwanted rfl ?_
          try simp only [Act.put, List.setIfInBounds_toArray, List.set_cons_zero, List.set_cons_succ]
          refine LooseD.unwanted rfl ?_
          try simp only [Act.put, List.setIfInBounds_toArray, List.set_cons_zero, List.set_cons_succ]
          refine LooseD.unwanted rfl ?_
          try simp only [Act.put, List.setIfInBounds_toArray, List.set_cons_zero, List.set_cons_succ]
          refine LooseD.unwanted rfl ?_
          try simp only [Act.put, List.setIfInBounds_toArray, List.set_cons_zero, List.set_cons_succ]
          refine LooseD.unwanted rfl ?_
          try simp only [Act.put, List.setIfInBounds_toArray, List.set_cons_zero, List.set_cons_succ]
          refine LooseD.unwanted rfl ?_
          try simp only [Act.put, List.setIfInBounds_toArray, List.set_cons_zero, List.set_cons_succ]
          refine LooseD.unwanted rfl ?_
          try simp only [Act.put, List.setIfInBounds_toArray, List.set_cons_zero, List.set_cons_succ]
          refine LooseD.reads (.bool true) rfl rfl ?_ ?_
          · intro w hw
            obtain ⟨y0, y1, y2, y3, y4⟩ := HCE.out w hw
            clear hw
            go_simp
          try simp only [Act.put, List.setIfInBounds_toArray, List.set_cons_zero, List.set_cons_succ]
          refine LooseD.done fun w' hw' _ => ?_
          have HW := Lib.hid hw'
          clear hw'
          go_wp2_with fail
          go_ret
          exact ⟨by rw [HF.out]; rfl, HBU.out.trans (HW.out.mono HBU.out.size)⟩
        have e2 := decide_eq_true (show (0 ≤ qu ∧ qu ≤ 65536) by omega)
        by_cases h0 : k = 0
        · have HN := Lib.hid (HNEXT.out (by rw [e1, e2, decide_eq_true h0]; rfl))
          have h0' : ¬ (0 : Int) < (k : Int) := by omega
          clear e1 e2
          go_upto_region 5 with fail
          refine LooseD.region_loose (fun w => Below U.heap.size U w) _ _ (by kernel_rfl) (by kernel_rfl)
            (LooseD.waits (D := [[], [], [], [], [], [], [], [], [], [], [], [], [], [], [], [], [], [], [], [], [], [], [], [], [], [], [], [], [], [], [], [], [], [], [], [], [], [], [], []]) (by kernel_rfl))
            (LooseD.stays (ts := [none, none, some (.is (.bool true)), none, none, none, none, none, none, none, none, none, none, none, none, none, none, none, none, none, none, none, none, none, none, none, none, none, none, none, none, none, none, none, none, none, none, none, none, none]) (fun w w' h b => h.trans (b.mono h.size)) (.none (.none (.is (.none (.none (.none (.none (.none (.none (.none (.none (.none (.none (.none (.none (.none (.none (.none (.none (.none (.none (.none (.none (.none (.none (.none (.none (.none (.none (.none (.none (.none (.none (.none (.none (.none (.none (.none (.none (.none .nil)))))))))))))))))))))))))))))))))))))))))
            (Gn.below_drew (Below.refl _ _)) ?_
          refine LooseD.reads (.pointer (some ⟨wr.heap.size, 0, none⟩)) rfl rfl ?_ ?_
          · intro w hw
            obtain ⟨y0, y1, y2, y3, y4⟩ := HCE.out w hw
            clear hw
            go_simp
          try simp only [Act.put, List.setIfInBounds_toArray, List.set_cons_zero, List.set_cons_succ]
          refine LooseD.reads (.string nm) rfl rfl ?_ ?_
          · intro w hw
            obtain ⟨y0, y1, y2, y3, y4⟩ := HCE.out w hw
            clear hw
            go_simp
          try simp only [Act.put, List.setIfInBounds_toArray, List.set_cons_zero, List.set_cons_succ]
          refine LooseD.gives (.bool true) 67 #[.string nm] rfl rfl ?_ (fun w hw hH => (HG.out w).mono fun e w1 h => ⟨h.1, by rw [h.2]; exact Below.refl _ _⟩) ?_
          · intro w hw
            clear hw
            go_simp
          try simp only [Act.put, List.setIfInBounds_toArray, List.set_cons_zero, List.set_cons_succ]
          refine LooseD.reads (.bool false) rfl rfl ?_ ?_
          · intro w hw
            obtain ⟨y0, y1, y2, y3, y4⟩ := HCE.out w hw
            clear hw
            go_simp
          try simp only [Act.put, List.setIfInBounds_toArray, List.set_cons_zero, List.set_cons_succ]
          refine LooseD.reads (.bool false) rfl rfl ?_ ?_
          · intro w hw
            obtain ⟨y0, y1, y2, y3, y4⟩ := HCE.out w hw
            clear hw
            go_simp
          try simp only [Act.put, List.setIfInBounds_toArray, List.set_cons_zero, List.set_cons_succ]
          refine LooseD.reads (.pointer (some ⟨wr.heap.size, 1, none⟩)) rfl rfl ?_ ?_
          · intro w hw
            obtain ⟨y0, y1, y2, y3, y4⟩ := HCE.out w hw
            clear hw
            go_simp
          try simp only [Act.put, List.setIfInBounds_toArray, List.set_cons_zero, List.set_cons_succ]
          refine LooseD.reads (.int .i64 ro) rfl rfl ?_ ?_
          · intro w hw
            obtain ⟨y0, y1, y2, y3, y4⟩ := HCE.out w hw
            clear hw
            go_simp
          try simp only [Act.put, List.setIfInBounds_toArray, List.set_cons_zero, List.set_cons_succ]
          refine LooseD.reads (.bool false) rfl rfl ?_ ?_
          · intro w hw
            obtain ⟨y0, y1, y2, y3, y4⟩ := HCE.out w hw
            clear hw
            go_simp
          try simp only [Act.put, List.setIfInBounds_toArray, List.set_cons_zero, List.set_cons_succ]
          refine LooseD.reads (.bool false) rfl rfl ?_ ?_
          · intro w hw
            obtain ⟨y0, y1, y2, y3, y4⟩ := HCE.out w hw
            clear hw
            go_simp
          try simp only [Act.put, List.setIfInBounds_toArray, List.set_cons_zero, List.set_cons_succ]
          refine LooseD.reads (.bool false) rfl rfl ?_ ?_
          · intro w hw
            obtain ⟨y0, y1, y2, y3, y4⟩ := HCE.out w hw
            clear hw
            go_simp
          try simp only [Act.put, List.setIfInBounds_toArray, List.set_cons_zero, List.set_cons_succ]
          refine LooseD.reads (.pointer (some ⟨wr.heap.size, 1, none⟩)) rfl rfl ?_ ?_
          · intro w hw
            obtain ⟨y0, y1, y2, y3, y4⟩ := HCE.out w hw
            clear hw
            go_simp
          try simp only [Act.put, List.setIfInBounds_toArray, List.set_cons_zero, List.set_cons_succ]
          refine LooseD.reads (.int .i64 ro) rfl rfl ?_ ?_
          · intro w hw
            obtain ⟨y0, y1, y2, y3, y4⟩ := HCE.out w hw
            clear hw
            go_simp
          try simp only [Act.put, List.setIfInBounds_toArray, List.set_cons_zero, List.set_cons_succ]
          refine LooseD.reads (.bool false) rfl rfl ?_ ?_
          · intro w hw
            obtain ⟨y0, y1, y2, y3, y4⟩ := HCE.out w hw
            clear hw
            go_simp
          try simp only [Act.put, List.setIfInBounds_toArray, List.set_cons_zero, List.set_cons_succ]
          refine LooseD.reads (.bool false) rfl rfl ?_ ?_
          · intro w hw
            obtain ⟨y0, y1, y2, y3, y4⟩ := HCE.out w hw
            clear hw
            go_simp
          try simp only [Act.put, List.setIfInBounds_toArray, List.set_cons_zero, List.set_cons_succ]
          refine LooseD.reads (.bool false) rfl rfl ?_ ?_
          · intro w hw
            obtain ⟨y0, y1, y2, y3, y4⟩ := HCE.out w hw
            clear hw
            go_simp
          try simp only [Act.put, List.setIfInBounds_toArray, List.set_cons_zero, List.set_cons_succ]
          refine LooseD.reads (.pointer (some ⟨wr.heap.size, 2, none⟩)) rfl rfl ?_ ?_
          · intro w hw
            obtain ⟨y0, y1, y2, y3, y4⟩ := HCE.out w hw
            clear hw
            go_simp
          try simp only [Act.put, List.setIfInBounds_toArray, List.set_cons_zero, List.set_cons_succ]
          refine LooseD.reads (.int .i64 qu) rfl rfl ?_ ?_
          · intro w hw
            obtain ⟨y0, y1, y2, y3, y4⟩ := HCE.out w hw
            clear hw
            go_simp
          try simp only [Act.put, List.setIfInBounds_toArray, List.set_cons_zero, List.set_cons_succ]
          refine LooseD.reads (.bool false) rfl rfl ?_ ?_
          · intro w hw
            obtain ⟨y0, y1, y2, y3, y4⟩ := HCE.out w hw
            clear hw
            go_simp
          try simp only [Act.put, List.setIfInBounds_toArray, List.set_cons_zero, List.set_cons_succ]
          refine LooseD.reads (.bool false) rfl rfl ?_ ?_
          · intro w hw
            obtain ⟨y0, y1, y2, y3, y4⟩ := HCE.out w hw
            clear hw
            go_simp
          try simp only [Act.put, List.setIfInBounds_toArray, List.set_cons_zero, List.set_cons_succ]
          refine LooseD.reads (.bool false) rfl rfl ?_ ?_
          · intro w hw
            obtain ⟨y0, y1, y2, y3, y4⟩ := HCE.out w hw
            clear hw
            go_simp
          try simp only [Act.put, List.setIfInBounds_toArray, List.set_cons_zero, List.set_cons_succ]
          refine LooseD.reads (.pointer (some ⟨wr.heap.size, 2, none⟩)) rfl rfl ?_ ?_
          · intro w hw
            obtain ⟨y0, y1, y2, y3, y4⟩ := HCE.out w hw
            clear hw
            go_simp
          try simp only [Act.put, List.setIfInBounds_toArray, List.set_cons_zero, List.set_cons_succ]
          refine LooseD.reads (.int .i64 qu) rfl rfl ?_ ?_
          · intro w hw
            obtain ⟨y0, y1, y2, y3, y4⟩ := HCE.out w hw
            clear hw
            go_simp
          try simp only [Act.put, List.setIfInBounds_toArray, List.set_cons_zero, List.set_cons_succ]
          refine LooseD.reads (.bool false) rfl rfl ?_ ?_
          · intro w hw
            obtain ⟨y0, y1, y2, y3, y4⟩ := HCE.out w hw
            clear hw
            go_simp
          try simp only [Act.put, List.setIfInBounds_toArray, List.set_cons_zero, List.set_cons_succ]
          refine LooseD.reads (.bool false) rfl rfl ?_ ?_
          · intro w hw
            obtain ⟨y0, y1, y2, y3, y4⟩ := HCE.out w hw
            clear hw
            go_simp
          try simp only [Act.put, List.setIfInBounds_toArray, List.set_cons_zero, List.set_cons_succ]
          refine LooseD.reads (.bool false) rfl rfl ?_ ?_
          · intro w hw
            obtain ⟨y0, y1, y2, y3, y4⟩ := HCE.out w hw
            clear hw
            go_simp
          try simp only [Act.put, List.setIfInBounds_toArray, List.set_cons_zero, List.set_cons_succ]
          refine LooseD.reads (.int .i64 k) rfl rfl ?_ ?_
          · intro w hw
            obtain ⟨y0, y1, y2, y3, y4⟩ := HCE.out w hw
            clear hw
            go_simp
          try simp only [Act.put, List.setIfInBounds_toArray, List.set_cons_zero, List.set_cons_succ]
          refine LooseD.reads (.bool false) rfl rfl ?_ ?_
          · intro w hw
            obtain ⟨y0, y1, y2, y3, y4⟩ := HCE.out w hw
            clear hw
            go_simp
          try simp only [Act.put, List.setIfInBounds_toArray, List.set_cons_zero, List.set_cons_succ]
          refine LooseD.reads (.bool false) rfl rfl ?_ ?_
          · intro w hw
            obtain ⟨y0, y1, y2, y3, y4⟩ := HCE.out w hw
            clear hw
            go_simp
          try simp only [Act.put, List.setIfInBounds_toArray, List.set_cons_zero, List.set_cons_succ]
          refine LooseD.unwanted rfl ?_
          try simp only [Act.put, List.setIfInBounds_toArray, List.set_cons_zero, List.set_cons_succ]
          refine LooseD.unwanted rfl ?_
          try simp only [Act.put, List.setIfInBounds_toArray, List.set_cons_zero, List.set_cons_succ]
          refine LooseD.unwanted rfl ?_
          try simp only [Act.put, List.setIfInBounds_toArray, List.set_cons_zero, List.set_cons_succ]
          refine LooseD.unwanted rfl ?_
          try simp only [Act.put, List.setIfInBounds_toArray, List.set_cons_zero, List.set_cons_succ]
          refine LooseD.unwanted rfl ?_
          try simp only [Act.put, List.setIfInBounds_toArray, List.set_cons_zero, List.set_cons_succ]
          refine LooseD.unwanted rfl ?_
          try simp only [Act.put, List.setIfInBounds_toArray, List.set_cons_zero, List.set_cons_succ]
          refine LooseD.unwanted rfl ?_
          try simp only [Act.put, List.setIfInBounds_toArray, List.set_cons_zero, List.set_cons_succ]
          refine LooseD.unwanted rfl ?_
          try simp only [Act.put, List.setIfInBounds_toArray, List.set_cons_zero, List.set_cons_succ]
          refine LooseD.unwanted rfl ?_
          try simp only [Act.put, List.setIfInBounds_toArray, List.set_cons_zero, List.set_cons_succ]
          refine LooseD.unwanted rfl ?_
          try simp only [Act.put, List.setIfInBounds_toArray, List.set_cons_zero, List.set_cons_succ]
          refine LooseD.reads (.bool false) rfl rfl ?_ ?_
          · intro w hw
            obtain ⟨y0, y1, y2, y3, y4⟩ := HCE.out w hw
            clear hw
            go_simp
          try simp only [Act.put, List.setIfInBounds_toArray, List.set_cons_zero, List.set_cons_succ]
          refine LooseD.reads (.bool false) rfl rfl ?_ ?_
          · intro w hw
            obtain ⟨y0, y1, y2, y3, y4⟩ := HCE.out w hw
            clear hw
            go_simp
          try simp only [Act.put, List.setIfInBounds_toArray, List.set_cons_zero, List.set_cons_succ]
          refine LooseD.done fun w' hw' _ => ?_
          have HW := Lib.hid hw'
          clear hw'
          go_wp2_with fail
          go_roundw
          case rel => exact ⟨k + 1, by omega, by go_num, HBN.out.trans (HW.out.mono HBN.out.size), HN.out⟩
          case measure => simp [intOf]; omega
        · have h0' : (0 : Int) < (k : Int) := by omega
          have h0n : 0 < k := by omega
          have HPW := Lib.hid (fun (w : World) (b : Below U.heap.size U w) => (b.cell (p := ⟨b5, (k - 1) * 3, none⟩) HB5.out).trans (HPC.out (by omega)))
          have hw2 : IntKind.i64.wrap ((k : Int) - 1) = ((k - 1 : Nat) : Int) := by
            rw [show (k : Int) - 1 = ((k - 1 : Nat) : Int) by omega]; exact IntWalk.i64_in _ (by omega)
          have hw3 : ((k - 1 : Nat) : Int) < (n : Int) := by omega
          have hl := (show Op.bytesLess pv.toList nm.toList = decide (cmpN pv nm < 0) by rw [less_cmp, Lib.toList_data, Lib.toList_data]; rfl)
          have hq : ∀ w, (binOp .geq 9 (.string pv) (.string nm)).run Try.prog w = .ok (.bool (!Op.bytesLess pv.toList nm.toList)) w := fun w => by first | rfl | kernel_rfl
          simp only [hl] at hq
          by_cases c5 : cmpN pv nm < 0
          · have HN := Lib.hid (HNEXT.out (by rw [e1, e2, decide_eq_true c5]; simp))
            simp only [decide_eq_true c5] at hq
            have HQ := Lib.hid (show ∀ w, (binOp .geq 9 (.string pv) (.string nm)).run Try.prog w = .ok (.bool false) w from hq)
            clear e1 e2 hl c5 hq
            go_upto_region 5 with fail
            refine LooseD.region_loose (fun w => Below U.heap.size U w) _ _ (by kernel_rfl) (by kernel_rfl)
              (LooseD.waits (D := [[], [], [], [], [], [], [], [], [], [], [], [], [], [], [], [], [], [], [], [], [], [], [], [], [], [], [], [], [], [], [], [], [], [], [], [], [], [], [], []]) (by kernel_rfl))
              (LooseD.stays (ts := [none, none, some (.is (.bool true)), none, none, none, none, none, none, none, none, none, none, none, none, none, none, none, none, none, none, none, none, none, none, none, none, none, none, none, none, none, none, none, none, none, none, none, none, none]) (fun w w' h b => h.trans (b.mono h.size)) (.none (.none (.is (.none (.none (.none (.none (.none (.none (.none (.none (.none (.none (.none (.none (.none (.none (.none (.none (.none (.none (.none (.none (.none (.none (.none (.none (.none (.none (.none (.none (.none (.none (.none (.none (.none (.none (.none (.none (.none .nil)))))))))))))))))))))))))))))))))))))))))
              (Gn.below_drew (Below.refl _ _)) ?_
            refine LooseD.reads (.pointer (some ⟨wr.heap.size, 0, none⟩)) rfl rfl ?_ ?_
            · intro w hw
              obtain ⟨y0, y1, y2, y3, y4⟩ := HCE.out w hw
              clear hw
              go_simp
            try simp only [Act.put, List.setIfInBounds_toArray, List.set_cons_zero, List.set_cons_succ]
            refine LooseD.reads (.string nm) rfl rfl ?_ ?_
            · intro w hw
              obtain ⟨y0, y1, y2, y3, y4⟩ := HCE.out w hw
              clear hw
              go_simp
            try simp only [Act.put, List.setIfInBounds_toArray, List.set_cons_zero, List.set_cons_succ]
            refine LooseD.gives (.bool true) 67 #[.string nm] rfl rfl ?_ (fun w hw hH => (HG.out w).mono fun e w1 h => ⟨h.1, by rw [h.2]; exact Below.refl _ _⟩) ?_
            · intro w hw
              clear hw
              go_simp
            try simp only [Act.put, List.setIfInBounds_toArray, List.set_cons_zero, List.set_cons_succ]
            refine LooseD.reads (.bool false) rfl rfl ?_ ?_
            · intro w hw
              obtain ⟨y0, y1, y2, y3, y4⟩ := HCE.out w hw
              clear hw
              go_simp
            try simp only [Act.put, List.setIfInBounds_toArray, List.set_cons_zero, List.set_cons_succ]
            refine LooseD.reads (.bool false) rfl rfl ?_ ?_
            · intro w hw
              obtain ⟨y0, y1, y2, y3, y4⟩ := HCE.out w hw
              clear hw
              go_simp
            try simp only [Act.put, List.setIfInBounds_toArray, List.set_cons_zero, List.set_cons_succ]
            refine LooseD.reads (.pointer (some ⟨wr.heap.size, 1, none⟩)) rfl rfl ?_ ?_
            · intro w hw
              obtain ⟨y0, y1, y2, y3, y4⟩ := HCE.out w hw
              clear hw
              go_simp
            try simp only [Act.put, List.setIfInBounds_toArray, List.set_cons_zero, List.set_cons_succ]
            refine LooseD.reads (.int .i64 ro) rfl rfl ?_ ?_
            · intro w hw
              obtain ⟨y0, y1, y2, y3, y4⟩ := HCE.out w hw
              clear hw
              go_simp
            try simp only [Act.put, List.setIfInBounds_toArray, List.set_cons_zero, List.set_cons_succ]
            refine LooseD.reads (.bool false) rfl rfl ?_ ?_
            · intro w hw
              obtain ⟨y0, y1, y2, y3, y4⟩ := HCE.out w hw
              clear hw
              go_simp
            try simp only [Act.put, List.setIfInBounds_toArray, List.set_cons_zero, List.set_cons_succ]
            refine LooseD.reads (.bool false) rfl rfl ?_ ?_
            · intro w hw
              obtain ⟨y0, y1, y2, y3, y4⟩ := HCE.out w hw
              clear hw
              go_simp
            try simp only [Act.put, List.setIfInBounds_toArray, List.set_cons_zero, List.set_cons_succ]
            refine LooseD.reads (.bool false) rfl rfl ?_ ?_
            · intro w hw
              obtain ⟨y0, y1, y2, y3, y4⟩ := HCE.out w hw
              clear hw
              go_simp
            try simp only [Act.put, List.setIfInBounds_toArray, List.set_cons_zero, List.set_cons_succ]
            refine LooseD.reads (.pointer (some ⟨wr.heap.size, 1, none⟩)) rfl rfl ?_ ?_
            · intro w hw
              obtain ⟨y0, y1, y2, y3, y4⟩ := HCE.out w hw
              clear hw
              go_simp
            try simp only [Act.put, List.setIfInBounds_toArray, List.set_cons_zero, List.set_cons_succ]
            refine LooseD.reads (.int .i64 ro) rfl rfl ?_ ?_
            · intro w hw
              obtain ⟨y0, y1, y2, y3, y4⟩ := HCE.out w hw
              clear hw
              go_simp
            try simp only [Act.put, List.setIfInBounds_toArray, List.set_cons_zero, List.set_cons_succ]
            refine LooseD.reads (.bool false) rfl rfl ?_ ?_
            · intro w hw
              obtain ⟨y0, y1, y2, y3, y4⟩ := HCE.out w hw
              clear hw
              go_simp
            try simp only [Act.put, List.setIfInBounds_toArray, List.set_cons_zero, List.set_cons_succ]
            refine LooseD.reads (.bool false) rfl rfl ?_ ?_
            · intro w hw
              obtain ⟨y0, y1, y2, y3, y4⟩ := HCE.out w hw
              clear hw
              go_simp
            try simp only [Act.put, List.setIfInBounds_toArray, List.set_cons_zero, List.set_cons_succ]
            refine LooseD.reads (.bool false) rfl rfl ?_ ?_
            · intro w hw
              obtain ⟨y0, y1, y2, y3, y4⟩ := HCE.out w hw
              clear hw
              go_simp
            try simp only [Act.put, List.setIfInBounds_toArray, List.set_cons_zero, List.set_cons_succ]
            refine LooseD.reads (.pointer (some ⟨wr.heap.size, 2, none⟩)) rfl rfl ?_ ?_
            · intro w hw
              obtain ⟨y0, y1, y2, y3, y4⟩ := HCE.out w hw
              clear hw
              go_simp
            try simp only [Act.put, List.setIfInBounds_toArray, List.set_cons_zero, List.set_cons_succ]
            refine LooseD.reads (.int .i64 qu) rfl rfl ?_ ?_
            · intro w hw
              obtain ⟨y0, y1, y2, y3, y4⟩ := HCE.out w hw
              clear hw
              go_simp
            try simp only [Act.put, List.setIfInBounds_toArray, List.set_cons_zero, List.set_cons_succ]
            refine LooseD.reads (.bool false) rfl rfl ?_ ?_
            · intro w hw
              obtain ⟨y0, y1, y2, y3, y4⟩ := HCE.out w hw
              clear hw
              go_simp
            try simp only [Act.put, List.setIfInBounds_toArray, List.set_cons_zero, List.set_cons_succ]
            refine LooseD.reads (.bool false) rfl rfl ?_ ?_
            · intro w hw
              obtain ⟨y0, y1, y2, y3, y4⟩ := HCE.out w hw
              clear hw
              go_simp
            try simp only [Act.put, List.setIfInBounds_toArray, List.set_cons_zero, List.set_cons_succ]
            refine LooseD.reads (.bool false) rfl rfl ?_ ?_
            · intro w hw
              obtain ⟨y0, y1, y2, y3, y4⟩ := HCE.out w hw
              clear hw
              go_simp
            try simp only [Act.put, List.setIfInBounds_toArray, List.set_cons_zero, List.set_cons_succ]
            refine LooseD.reads (.pointer (some ⟨wr.heap.size, 2, none⟩)) rfl rfl ?_ ?_
            · intro w hw
              obtain ⟨y0, y1, y2, y3, y4⟩ := HCE.out w hw
              clear hw
              go_simp
            try simp only [Act.put, List.setIfInBounds_toArray, List.set_cons_zero, List.set_cons_succ]
            refine LooseD.reads (.int .i64 qu) rfl rfl ?_ ?_
            · intro w hw
              obtain ⟨y0, y1, y2, y3, y4⟩ := HCE.out w hw
              clear hw
              go_simp
            try simp only [Act.put, List.setIfInBounds_toArray, List.set_cons_zero, List.set_cons_succ]
            refine LooseD.reads (.bool false) rfl rfl ?_ ?_
            · intro w hw
              obtain ⟨y0, y1, y2, y3, y4⟩ := HCE.out w hw
              clear hw
              go_simp
            try simp only [Act.put, List.setIfInBounds_toArray, List.set_cons_zero, List.set_cons_succ]
            refine LooseD.reads (.bool false) rfl rfl ?_ ?_
            · intro w hw
              obtain ⟨y0, y1, y2, y3, y4⟩ := HCE.out w hw
              clear hw
              go_simp
            try simp only [Act.put, List.setIfInBounds_toArray, List.set_cons_zero, List.set_cons_succ]
            refine LooseD.reads (.bool false) rfl rfl ?_ ?_
            · intro w hw
              obtain ⟨y0, y1, y2, y3, y4⟩ := HCE.out w hw
              clear hw
              go_simp
            try simp only [Act.put, List.setIfInBounds_toArray, List.set_cons_zero, List.set_cons_succ]
            refine LooseD.reads (.int .i64 k) rfl rfl ?_ ?_
            · intro w hw
              obtain ⟨y0, y1, y2, y3, y4⟩ := HCE.out w hw
              clear hw
              go_simp
            try simp only [Act.put, List.setIfInBounds_toArray, List.set_cons_zero, List.set_cons_succ]
            refine LooseD.reads (.bool true) rfl rfl ?_ ?_
            · intro w hw
              obtain ⟨y0, y1, y2, y3, y4⟩ := HCE.out w hw
              clear hw
              go_simp
            try simp only [Act.put, List.setIfInBounds_toArray, List.set_cons_zero, List.set_cons_succ]
            refine LooseD.reads (.bool true) rfl rfl ?_ ?_
            · intro w hw
              obtain ⟨y0, y1, y2, y3, y4⟩ := HCE.out w hw
              clear hw
              go_simp
            try simp only [Act.put, List.setIfInBounds_toArray, List.set_cons_zero, List.set_cons_succ]
            refine LooseD.reads (.pointer (some ⟨W.heap.size, 0, none⟩)) rfl rfl ?_ ?_
            · intro w hw
              obtain ⟨y0, y1, y2, y3, y4⟩ := HCE.out w hw
              clear hw
              go_simp
            try simp only [Act.put, List.setIfInBounds_toArray, List.set_cons_zero, List.set_cons_succ]
            refine LooseD.reads (.slice (some ⟨b5, 0, none⟩) n cm) rfl rfl ?_ ?_
            · intro w hw
              obtain ⟨y0, y1, y2, y3, y4⟩ := HCE.out w hw
              clear hw
              go_simp
            try simp only [Act.put, List.setIfInBounds_toArray, List.set_cons_zero, List.set_cons_succ]
            refine LooseD.reads (.int .i64 k) rfl rfl ?_ ?_
            · intro w hw
              obtain ⟨y0, y1, y2, y3, y4⟩ := HCE.out w hw
              clear hw
              go_simp
            try simp only [Act.put, List.setIfInBounds_toArray, List.set_cons_zero, List.set_cons_succ]
            refine LooseD.reads (.int .i64 (k - 1 : Nat)) rfl rfl ?_ ?_
            · intro w hw
              obtain ⟨y0, y1, y2, y3, y4⟩ := HCE.out w hw
              clear hw
              go_simp
            try simp only [Act.put, List.setIfInBounds_toArray, List.set_cons_zero, List.set_cons_succ]
            refine LooseD.reads (.pointer (some ⟨b5, (k - 1) * 3, none⟩)) rfl rfl ?_ ?_
            · intro w hw
              obtain ⟨y0, y1, y2, y3, y4⟩ := HCE.out w hw
              clear hw
              go_simp
            try simp only [Act.put, List.setIfInBounds_toArray, List.set_cons_zero, List.set_cons_succ]
            refine LooseD.reads (.pointer (some ⟨b5, (k - 1) * 3, none⟩)) rfl rfl ?_ ?_
            · intro w hw
              obtain ⟨y0, y1, y2, y3, y4⟩ := HCE.out w hw
              clear hw
              go_simp
            try simp only [Act.put, List.setIfInBounds_toArray, List.set_cons_zero, List.set_cons_succ]
            refine LooseD.reads (.string pv) rfl rfl ?_ ?_
            · intro w hw
              obtain ⟨y0, y1, y2, y3, y4⟩ := HCE.out w hw
              have z1 := HPW.out w hw
              clear hw
              go_simp
            try simp only [Act.put, List.setIfInBounds_toArray, List.set_cons_zero, List.set_cons_succ]
            refine LooseD.reads (.pointer (some ⟨wr.heap.size, 0, none⟩)) rfl rfl ?_ ?_
            · intro w hw
              obtain ⟨y0, y1, y2, y3, y4⟩ := HCE.out w hw
              clear hw
              go_simp
            try simp only [Act.put, List.setIfInBounds_toArray, List.set_cons_zero, List.set_cons_succ]
            refine LooseD.reads (.string nm) rfl rfl ?_ ?_
            · intro w hw
              obtain ⟨y0, y1, y2, y3, y4⟩ := HCE.out w hw
              clear hw
              go_simp
            try simp only [Act.put, List.setIfInBounds_toArray, List.set_cons_zero, List.set_cons_succ]
            refine LooseD.reads (.bool false) rfl rfl ?_ ?_
            · intro w hw
              obtain ⟨y0, y1, y2, y3, y4⟩ := HCE.out w hw
              have z1 := HQ.out w
              clear hw
              go_simp
            try simp only [Act.put, List.setIfInBounds_toArray, List.set_cons_zero, List.set_cons_succ]
            refine LooseD.reads (.bool false) rfl rfl ?_ ?_
            · intro w hw
              obtain ⟨y0, y1, y2, y3, y4⟩ := HCE.out w hw
              clear hw
              go_simp
            try simp only [Act.put, List.setIfInBounds_toArray, List.set_cons_zero, List.set_cons_succ]
            refine LooseD.reads (.bool false) rfl rfl ?_ ?_
            · intro w hw
              obtain ⟨y0, y1, y2, y3, y4⟩ := HCE.out w hw
              clear hw
              go_simp
            try simp only [Act.put, List.setIfInBounds_toArray, List.set_cons_zero, List.set_cons_succ]
            refine LooseD.done fun w' hw' _ => ?_
            have HW := Lib.hid hw'
            clear hw'
            go_wp2_with fail
            go_roundw
            case rel => exact ⟨k + 1, by omega, by go_num, HBN.out.trans (HW.out.mono HBN.out.size), HN.out⟩
            case measure => simp [intOf]; omega
          · have HF := Lib.hid (HBAD.out (by rw [decide_eq_false h0, decide_eq_false c5]; simp))
            simp only [decide_eq_false c5] at hq
            have HQ := Lib.hid (show ∀ w, (binOp .geq 9 (.string pv) (.string nm)).run Try.prog w = .ok (.bool true) w from hq)
            clear e1 e2 hl c5 hq
            go_upto_region 5 with fail
            refine LooseD.region_loose (fun w => Below U.heap.size U w) _ _ (by kernel_rfl) (by kernel_rfl)
              (LooseD.waits (D := [[], [], [], [], [], [], [], [], [], [], [], [], [], [], [], [], [], [], [], [], [], [], [], [], [], [], [], [], [], [], [], [], [], [], [], [], [], [], [], []]) (by kernel_rfl))
              (LooseD.stays (ts := [none, none, some (.is (.bool true)), none, none, none, none, none, none, none, none, none, none, none, none, none, none, none, none, none, none, none, none, none, none, none, none, none, none, none, none, none, none, none, none, none, none, none, none, none]) (fun w w' h b => h.trans (b.mono h.size)) (.none (.none (.is (.none (.none (.none (.none (.none (.none (.none (.none (.none (.none (.none (.none (.none (.none (.none (.none (.none (.none (.none (.none (.none (.none (.none (.none (.none (.none (.none (.none (.none (.none (.none (.none (.none (.none (.none (.none (.none .nil)))))))))))))))))))))))))))))))))))))))))
              (Gn.below_drew (Below.refl _ _)) ?_
            refine LooseD.reads (.pointer (some ⟨wr.heap.size, 0, none⟩)) rfl rfl ?_ ?_
            · intro w hw
              obtain ⟨y0, y1, y2, y3, y4⟩ := HCE.out w hw
              clear hw
              go_simp
            try simp only [Act.put, List.setIfInBounds_toArray, List.set_cons_zero, List.set_cons_succ]
            refine LooseD.reads (.string nm) rfl rfl ?_ ?_
            · intro w hw
              obtain ⟨y0, y1, y2, y3, y4⟩ := HCE.out w hw
              clear hw
              go_simp
            try simp only [Act.put, List.setIfInBounds_toArray, List.set_cons_zero, List.set_cons_succ]
            refine LooseD.gives (.bool true) 67 #[.string nm] rfl rfl ?_ (fun w hw hH => (HG.out w).mono fun e w1 h => ⟨h.1, by rw [h.2]; exact Below.refl _ _⟩) ?_
            · intro w hw
              clear hw
              go_simp
            try simp only [Act.put, List.setIfInBounds_toArray, List.set_cons_zero, List.set_cons_succ]
            refine LooseD.reads (.bool false) rfl rfl ?_ ?_
            · intro w hw
              obtain ⟨y0, y1, y2, y3, y4⟩ := HCE.out w hw
              clear hw
              go_simp
            try simp only [Act.put, List.setIfInBounds_toArray, List.set_cons_zero, List.set_cons_succ]
            refine LooseD.reads (.bool false) rfl rfl ?_ ?_
            · intro w hw
              obtain ⟨y0, y1, y2, y3, y4⟩ := HCE.out w hw
              clear hw
              go_simp
            try simp only [Act.put, List.setIfInBounds_toArray, List.set_cons_zero, List.set_cons_succ]
            refine LooseD.reads (.pointer (some ⟨wr.heap.size, 1, none⟩)) rfl rfl ?_ ?_
            · intro w hw
              obtain ⟨y0, y1, y2, y3, y4⟩ := HCE.out w hw
              clear hw
              go_simp
            try simp only [Act.put, List.setIfInBounds_toArray, List.set_cons_zero, List.set_cons_succ]
            refine LooseD.reads (.int .i64 ro) rfl rfl ?_ ?_
            · intro w hw
              obtain ⟨y0, y1, y2, y3, y4⟩ := HCE.out w hw
              clear hw
              go_simp
            try simp only [Act.put, List.setIfInBounds_toArray, List.set_cons_zero, List.set_cons_succ]
            refine LooseD.reads (.bool false) rfl rfl ?_ ?_
            · intro w hw
              obtain ⟨y0, y1, y2, y3, y4⟩ := HCE.out w hw
              clear hw
              go_simp
            try simp only [Act.put, List.setIfInBounds_toArray, List.set_cons_zero, List.set_cons_succ]
            refine LooseD.reads (.bool false) rfl rfl ?_ ?_
            · intro w hw
              obtain ⟨y0, y1, y2, y3, y4⟩ := HCE.out w hw
              clear hw
              go_simp
            try simp only [Act.put, List.setIfInBounds_toArray, List.set_cons_zero, List.set_cons_succ]
            refine LooseD.reads (.bool false) rfl rfl ?_ ?_
            · intro w hw
              obtain ⟨y0, y1, y2, y3, y4⟩ := HCE.out w hw
              clear hw
              go_simp
            try simp only [Act.put, List.setIfInBounds_toArray, List.set_cons_zero, List.set_cons_succ]
            refine LooseD.reads (.pointer (some ⟨wr.heap.size, 1, none⟩)) rfl rfl ?_ ?_
            · intro w hw
              obtain ⟨y0, y1, y2, y3, y4⟩ := HCE.out w hw
              clear hw
              go_simp
            try simp only [Act.put, List.setIfInBounds_toArray, List.set_cons_zero, List.set_cons_succ]
            refine LooseD.reads (.int .i64 ro) rfl rfl ?_ ?_
            · intro w hw
              obtain ⟨y0, y1, y2, y3, y4⟩ := HCE.out w hw
              clear hw
              go_simp
            try simp only [Act.put, List.setIfInBounds_toArray, List.set_cons_zero, List.set_cons_succ]
            refine LooseD.reads (.bool false) rfl rfl ?_ ?_
            · intro w hw
              obtain ⟨y0, y1, y2, y3, y4⟩ := HCE.out w hw
              clear hw
              go_simp
            try simp only [Act.put, List.setIfInBounds_toArray, List.set_cons_zero, List.set_cons_succ]
            refine LooseD.reads (.bool false) rfl rfl ?_ ?_
            · intro w hw
              obtain ⟨y0, y1, y2, y3, y4⟩ := HCE.out w hw
              clear hw
              go_simp
            try simp only [Act.put, List.setIfInBounds_toArray, List.set_cons_zero, List.set_cons_succ]
            refine LooseD.reads (.bool false) rfl rfl ?_ ?_
            · intro w hw
              obtain ⟨y0, y1, y2, y3, y4⟩ := HCE.out w hw
              clear hw
              go_simp
            try simp only [Act.put, List.setIfInBounds_toArray, List.set_cons_zero, List.set_cons_succ]
            refine LooseD.reads (.pointer (some ⟨wr.heap.size, 2, none⟩)) rfl rfl ?_ ?_
            · intro w hw
              obtain ⟨y0, y1, y2, y3, y4⟩ := HCE.out w hw
              clear hw
              go_simp
            try simp only [Act.put, List.setIfInBounds_toArray, List.set_cons_zero, List.set_cons_succ]
            refine LooseD.reads (.int .i64 qu) rfl rfl ?_ ?_
            · intro w hw
              obtain ⟨y0, y1, y2, y3, y4⟩ := HCE.out w hw
              clear hw
              go_simp
            try simp only [Act.put, List.setIfInBounds_toArray, List.set_cons_zero, List.set_cons_succ]
            refine LooseD.reads (.bool false) rfl rfl ?_ ?_
            · intro w hw
              obtain ⟨y0, y1, y2, y3, y4⟩ := HCE.out w hw
              clear hw
              go_simp
            try simp only [Act.put, List.setIfInBounds_toArray, List.set_cons_zero, List.set_cons_succ]
            refine LooseD.reads (.bool false) rfl rfl ?_ ?_
            · intro w hw
              obtain ⟨y0, y1, y2, y3, y4⟩ := HCE.out w hw
              clear hw
              go_simp
            try simp only [Act.put, List.setIfInBounds_toArray, List.set_cons_zero, List.set_cons_succ]
            refine LooseD.reads (.bool false) rfl rfl ?_ ?_
            · intro w hw
              obtain ⟨y0, y1, y2, y3, y4⟩ := HCE.out w hw
              clear hw
              go_simp
            try simp only [Act.put, List.setIfInBounds_toArray, List.set_cons_zero, List.set_cons_succ]
            refine LooseD.reads (.pointer (some ⟨wr.heap.size, 2, none⟩)) rfl rfl ?_ ?_
            · intro w hw
              obtain ⟨y0, y1, y2, y3, y4⟩ := HCE.out w hw
              clear hw
              go_simp
            try simp only [Act.put, List.setIfInBounds_toArray, List.set_cons_zero, List.set_cons_succ]
            refine LooseD.reads (.int .i64 qu) rfl rfl ?_ ?_
            · intro w hw
              obtain ⟨y0, y1, y2, y3, y4⟩ := HCE.out w hw
              clear hw
              go_simp
            try simp only [Act.put, List.setIfInBounds_toArray, List.set_cons_zero, List.set_cons_succ]
            refine LooseD.reads (.bool false) rfl rfl ?_ ?_
            · intro w hw
              obtain ⟨y0, y1, y2, y3, y4⟩ := HCE.out w hw
              clear hw
              go_simp
            try simp only [Act.put, List.setIfInBounds_toArray, List.set_cons_zero, List.set_cons_succ]
            refine LooseD.reads (.bool false) rfl rfl ?_ ?_
            · intro w hw
              obtain ⟨y0, y1, y2, y3, y4⟩ := HCE.out w hw
              clear hw
              go_simp
            try simp only [Act.put, List.setIfInBounds_toArray, List.set_cons_zero, List.set_cons_succ]
            refine LooseD.reads (.bool false) rfl rfl ?_ ?_
            · intro w hw
              obtain ⟨y0, y1, y2, y3, y4⟩ := HCE.out w hw
              clear hw
              go_simp
            try simp only [Act.put, List.setIfInBounds_toArray, List.set_cons_zero, List.set_cons_succ]
            refine LooseD.reads (.int .i64 k) rfl rfl ?_ ?_
            · intro w hw
              obtain ⟨y0, y1, y2, y3, y4⟩ := HCE.out w hw
              clear hw
              go_simp
            try simp only [Act.put, List.setIfInBounds_toArray, List.set_cons_zero, List.set_cons_succ]
            refine LooseD.reads (.bool true) rfl rfl ?_ ?_
            · intro w hw
              obtain ⟨y0, y1, y2, y3, y4⟩ := HCE.out w hw
              clear hw
              go_simp
            try simp only [Act.put, List.setIfInBounds_toArray, List.set_cons_zero, List.set_cons_succ]
            refine LooseD.reads (.bool true) rfl rfl ?_ ?_
            · intro w hw
              obtain ⟨y0, y1, y2, y3, y4⟩ := HCE.out w hw
              clear hw
              go_simp
            try simp only [Act.put, List.setIfInBounds_toArray, List.set_cons_zero, List.set_cons_succ]
            refine LooseD.reads (.pointer (some ⟨W.heap.size, 0, none⟩)) rfl rfl ?_ ?_
            · intro w hw
              obtain ⟨y0, y1, y2, y3, y4⟩ := HCE.out w hw
              clear hw
              go_simp
            try simp only [Act.put, List.setIfInBounds_toArray, List.set_cons_zero, List.set_cons_succ]
            refine LooseD.reads (.slice (some ⟨b5, 0, none⟩) n cm) rfl rfl ?_ ?_
            · intro w hw
              obtain ⟨y0, y1, y2, y3, y4⟩ := HCE.out w hw
              clear hw
              go_simp
            try simp only [Act.put, List.setIfInBounds_toArray, List.set_cons_zero, List.set_cons_succ]
            refine LooseD.reads (.int .i64 k) rfl rfl ?_ ?_
            · intro w hw
              obtain ⟨y0, y1, y2, y3, y4⟩ := HCE.out w hw
              clear hw
              go_simp
            try simp only [Act.put, List.setIfInBounds_toArray, List.set_cons_zero, List.set_cons_succ]
            refine LooseD.reads (.int .i64 (k - 1 : Nat)) rfl rfl ?_ ?_
            · intro w hw
              obtain ⟨y0, y1, y2, y3, y4⟩ := HCE.out w hw
              clear hw
              go_simp
            try simp only [Act.put, List.setIfInBounds_toArray, List.set_cons_zero, List.set_cons_succ]
            refine LooseD.reads (.pointer (some ⟨b5, (k - 1) * 3, none⟩)) rfl rfl ?_ ?_
            · intro w hw
              obtain ⟨y0, y1, y2, y3, y4⟩ := HCE.out w hw
              clear hw
              go_simp
            try simp only [Act.put, List.setIfInBounds_toArray, List.set_cons_zero, List.set_cons_succ]
            refine LooseD.reads (.pointer (some ⟨b5, (k - 1) * 3, none⟩)) rfl rfl ?_ ?_
            · intro w hw
              obtain ⟨y0, y1, y2, y3, y4⟩ := HCE.out w hw
              clear hw
              go_simp
            try simp only [Act.put, List.setIfInBounds_toArray, List.set_cons_zero, List.set_cons_succ]
            refine LooseD.reads (.string pv) rfl rfl ?_ ?_
            · intro w hw
              obtain ⟨y0, y1, y2, y3, y4⟩ := HCE.out w hw
              have z1 := HPW.out w hw
              clear hw
              go_simp
            try simp only [Act.put, List.setIfInBounds_toArray, List.set_cons_zero, List.set_cons_succ]
            refine LooseD.reads (.pointer (some ⟨wr.heap.size, 0, none⟩)) rfl rfl ?_ ?_
            · intro w hw
              obtain ⟨y0, y1, y2, y3, y4⟩ := HCE.out w hw
              clear hw
              go_simp
            try simp only [Act.put, List.setIfInBounds_toArray, List.set_cons_zero, List.set_cons_succ]
            refine LooseD.reads (.string nm) rfl rfl ?_ ?_
            · intro w hw
              obtain ⟨y0, y1, y2, y3, y4⟩ := HCE.out w hw
              clear hw
              go_simp
            try simp only [Act.put, List.setIfInBounds_toArray, List.set_cons_zero, List.set_cons_succ]
            refine LooseD.reads (.bool true) rfl rfl ?_ ?_
            · intro w hw
              obtain ⟨y0, y1, y2, y3, y4⟩ := HCE.out w hw
              have z1 := HQ.out w
              clear hw
              go_simp
            try simp only [Act.put, List.setIfInBounds_toArray, List.set_cons_zero, List.set_cons_succ]
            refine LooseD.reads (.bool true) rfl rfl ?_ ?_
            · intro w hw
              obtain ⟨y0, y1, y2, y3, y4⟩ := HCE.out w hw
              clear hw
              go_simp
            try simp only [Act.put, List.setIfInBounds_toArray, List.set_cons_zero, List.set_cons_succ]
            refine LooseD.reads (.bool true) rfl rfl ?_ ?_
            · intro w hw
              obtain ⟨y0, y1, y2, y3, y4⟩ := HCE.out w hw
              clear hw
              go_simp
            try simp only [Act.put, List.setIfInBounds_toArray, List.set_cons_zero, List.set_cons_succ]
            refine LooseD.done fun w' hw' _ => ?_
            have HW := Lib.hid hw'
            clear hw'
            go_wp2_with fail
            go_ret
            exact ⟨by rw [HF.out]; rfl, HBU.out.trans (HW.out.mono HBU.out.size)⟩
    · have hkn2 : ¬ (k : Int) < (n : Int) := by omega
      have HALLM := Lib.hid (show ∀ j, j < n → rmB r.ms j = true from fun j hj => HALL.out j (by omega))
      clear HALL hb
      go_upto_block 2 with fail
      clear x0 x1 hxk
      go_wp2_with fail
      go_loopw [5] (fun x wq => ∃ (k : Nat), k ≤ m ∧ x = .int .i64 k ∧ Below V.heap.size V wq ∧ ∀ j, j < k → rcB r.ms r.cs j = true) (fun x _ => m - (intOf x).toNat)
      case atStart => exact ⟨0, Nat.zero_le _, rfl, HBK.out, fun j h => absurd h (by omega)⟩
      case round =>
        obtain ⟨i, hi, rfl, hb, hall⟩ := hrel
        have HBI := Lib.hid hb
        have HALL := Lib.hid hall
        clear hall
        have hxk := (hb.block _ (by rw [HZV.out]; omega)).trans HX.out
        have x0 := cell_of_row _ _ 0 _ _ (0, 0) hxk
        have x1 := cell_of_row _ _ 1 _ _ (0, 0) hxk
        by_cases him : i < m
        · have him2 : (i : Int) < (m : Int) := by omega
          have hil : i < raws.length := by rw [HRL.out]; exact him
          have hic : i < r.cs.length := by rw [← HMM.out]; exact him
          obtain ⟨A6, c6, b6, h6, _, _, h6c, h6d⟩ := HRO.out.under hb
          rw [HRL.out] at h6 h6c
          injection h6 with h6 _ h6k
          subst h6
          subst h6k
          obtain ⟨rfl, hb6, _⟩ := h6c (by omega)
          have HGC := Lib.hid (fun w => Lx.rgood_any r.cs[i].name w (HZC.out _ (List.getElem_mem hic)))
          have hcd : r.cs.getD i nilC = r.cs[i] := by rw [List.getD_eq_getElem?_getD, List.getElem?_eq_getElem hic]; rfl
          have hstl := HST.out _ (List.getElem_mem hic)
          obtain ⟨e1, e2, hss⟩ := HAL.out wr hb i hil hic
          obtain ⟨A7, c7, h7, hss7⟩ : ∃ A7 c7, raws[i].studs = .slice A7 r.cs[i].studs.length c7 ∧ StrsAt P wr r.cs[i].studs (.slice A7 r.cs[i].studs.length c7) := by
            obtain ⟨A7, c7, b7, h7, hh⟩ := hss
            exact ⟨A7, c7, h7, A7, c7, b7, rfl, hh⟩
          obtain ⟨c, hc⟩ : ∃ c, c = r.cs[i] := ⟨_, rfl⟩
          have k0 := h6d i hil 0 _ rfl
          have k1 := h6d i hil 1 _ rfl
          have k2 := h6d i hil 2 _ rfl
          rw [e1, ← hc] at k0
          rw [e2, ← hc] at k1
          rw [h7, ← hc] at k2
          rw [← hc] at hss7 HGC hcd hstl
          rw [Nat.add_zero] at k0
          go_upto_region 11 with fail
          rw [← hc]
          obtain ⟨cn, ct, cs⟩ := c
          dsimp only at k0 k1 k2 hss7 HGC hstl ⊢
          obtain ⟨sl, hsl⟩ : ∃ sl, sl = cs.length := ⟨_, rfl⟩
          rw [← hsl] at k2 hss7 ⊢
          obtain ⟨U, hU⟩ : ∃ U, U = wr.alloc (.cells #[.string cn, .string ct, .slice A7 sl c7] 73) := ⟨_, rfl⟩
          have hbU : Below wr.heap.size wr U := by rw [hU]; exact (Below.refl _ _).alloc (Nat.le_refl _) _
          have hm0 : U.heap[wr.heap.size]? = some (.cells #[.string cn, .string ct, .slice A7 sl c7] 73 (0, 0)) := by rw [hU]; exact heap_alloc_new _ _
          have HU := Lib.hid hU
          have m1 := cell_of_row _ _ 1 _ _ (0, 0) hm0
          have hxU := (hbU.block _ (Gn.heap_lt hxk)).trans hxk
          have x0 := cell_of_row _ _ 0 _ _ (0, 0) hxU
          have x1 := cell_of_row _ _ 1 _ _ (0, 0) hxU
          have HFU := Lib.hid (HFD.out ct U (HB.out.trans ((hb.trans (hbU.mono hb.size)).mono HB.out.size)))
          obtain ⟨g1, hg1⟩ : ∃ g1, g1 = Lx.goodB (bs cn) := ⟨_, rfl⟩
          rw [← hg1] at HGC
          obtain ⟨pv, hpv⟩ : ∃ pv, pv = (r.cs.getD (i - 1) nilC).name := ⟨_, rfl⟩
          have hrc : rcB r.ms r.cs i = (g1 && decide (roleL r.ms ct = 2) && (decide (i = 0) || decide (cmpN pv cn < 0)) && (List.range cs.length).all (rsB r.ms cs)) := by unfold rcB; rw [hcd, hg1, hpv]
          rw [← hsl] at hrc hstl
          have HRC := Lib.hid hrc
          have hcbad : (g1 && decide (roleL r.ms ct = 2) && (decide (i = 0) || decide (cmpN pv cn < 0)) && (List.range sl).all (rsB r.ms cs)) = false → B = false := fun h => HBC.out i him (hrc.trans h)
          have hcgood : (g1 && decide (roleL r.ms ct = 2) && (decide (i = 0) || decide (cmpN pv cn < 0)) && (List.range sl).all (rsB r.ms cs)) = true → ∀ j, j < i + 1 → rcB r.ms r.cs j = true := fun h j hj => by
            by_cases hji : j = i
            · rw [hji]; exact hrc.trans h
            · exact HALL.out j (by omega)
          have HSL := Lib.hid hsl
          have HC := Lib.hid hc
          have HM0 := Lib.hid hm0
          have HXU := Lib.hid hxU
          have HBU := Lib.hid (hb.trans (hbU.mono hb.size))
          have HSS := Lib.hid (hss7.under (hbU.mono (Nat.le_refl _)))
          have HCP := Lib.hid (fun h0 : 0 < i => show U.cell? ⟨b6, (i - 1) * 3, none⟩ = some (.string pv) from by
            rw [hpv]
            have hk1 : i - 1 < raws.length := by omega
            have hk2 : i - 1 < r.cs.length := by omega
            have := h6d (i - 1) hk1 0 _ rfl
            rw [Nat.add_zero, (HAL.out wr hb (i - 1) hk1 hk2).1] at this
            rw [List.getD_eq_getElem?_getD, List.getElem?_eq_getElem hk2]
            exact (hbU.cell (p := ⟨b6, (i - 1) * 3, none⟩) hb6).trans this)
          have HB6 := Lib.hid (show b6 < U.heap.size from Nat.lt_of_lt_of_le hb6 hbU.size)
          have HUS := Lib.hid hbU.size
          rw [← HU.out]
          clear hU hbU hm0 hxU hsl hxk hb hc e1 e2 hss h7 hg1 hpv hrc hcd k0 k1 k2 h6c h6d hss7
          obtain ⟨t, ht⟩ : ∃ t, t = (findL r.ms ct).getD nilM := ⟨_, rfl⟩
          obtain ⟨fd, hfd⟩ : ∃ fd, fd = (findL r.ms ct).isSome := ⟨_, rfl⟩
          rw [← ht, ← hfd] at HFU
          have hrl : roleL r.ms ct = t.role := by rw [ht]; rfl
          have HRO2 := Lib.hid hrl
          obtain ⟨tn, tr, tq⟩ := t
          dsimp only at HFU HRO2
          rw [HRO2.out] at hcbad hcgood
          have HCBAD := Lib.hid hcbad
          have HCGOOD := Lib.hid hcgood
          clear hcbad hcgood
          clear ht hfd hrl
          go_wp2_with fail
          refine HFU.out.mono ?_
          rintro e w2 ⟨rfl, hb2⟩
          have HB2 := Lib.hid hb2
          clear x0 x1 m1 hb2
          go_upto_region 12 with fail
          obtain ⟨T, hT⟩ : ∃ T, T = w2.alloc (.cells #[.string tn, .int .i64 tr, .int .i64 tq] 72) := ⟨_, rfl⟩
          have hbT : Below w2.heap.size w2 T := by rw [hT]; exact (Below.refl _ _).alloc (Nat.le_refl _) _
          have hq0 : T.heap[w2.heap.size]? = some (.cells #[.string tn, .int .i64 tr, .int .i64 tq] 72 (0, 0)) := by rw [hT]; exact heap_alloc_new _ _
          have hUT : Below U.heap.size U T := HB2.out.trans (hbT.mono HB2.out.size)
          have HM0T := Lib.hid ((hUT.block _ (Gn.heap_lt HM0.out)).trans HM0.out)
          have HXUT := Lib.hid ((hUT.block _ (Gn.heap_lt HXU.out)).trans HXU.out)
          have HST2 := Lib.hid (HSS.out.under hUT)
          have HTV := Lib.hid (HBU.out.trans (hUT.mono HBU.out.size))
          have HTW := Lib.hid (HB.out.trans (HTV.out.mono HB.out.size))
          have HT := Lib.hid hT
          have HC2 := Lib.hid (fun (w : World) (b : Below T.heap.size T w) => (⟨cell_of_row _ _ 0 _ _ (0, 0) ((b.block _ (Gn.heap_lt HM0T.out)).trans HM0T.out), cell_of_row _ _ 1 _ _ (0, 0) ((b.block _ (Gn.heap_lt hq0)).trans hq0), cell_of_row _ _ 1 _ _ (0, 0) ((b.block _ (Gn.heap_lt HXUT.out)).trans HXUT.out)⟩ : w.cell? ⟨wr.heap.size, 0, none⟩ = some (.string cn) ∧ w.cell? ⟨w2.heap.size, 1, none⟩ = some (.int .i64 tr) ∧ w.cell? ⟨W.heap.size, 1, none⟩ = some (.slice (some ⟨b6, 0, none⟩) m cc)))
          have HPT := Lib.hid (fun (h0 : 0 < i) (w : World) (b : Below T.heap.size T w) => ((hUT.trans (b.mono hUT.size)).cell (p := ⟨b6, (i - 1) * 3, none⟩) HB6.out).trans (HCP.out h0))
          rw [← HT.out]
          clear hT hbT hq0 hUT
          go_cut [107] from 76 to 106 (fun s wx => ∃ b : Bool, s = .bool b ∧ Below T.heap.size T wx ∧ (b = true → B = false) ∧ (b = false → (g1 && decide (tr = 2) && (decide (i = 0) || decide (cmpN pv cn < 0))) = true))
          case first =>
            cases g1 with
            | false =>
              have HF := Lib.hid (HCBAD.out (by simp))
              refine LooseD.region_loose (fun w => Below T.heap.size T w) _ _ (by kernel_rfl) (by kernel_rfl)
                (LooseD.waits (D := [[], [], [], [], [], [], [], [], [], [], [], [], [], [], [], [], [], [], [], [], [], [], [], [], []]) (by kernel_rfl))
                (LooseD.stays (ts := [none, none, some (.is (.bool false)), none, none, none, none, none, none, none, none, none, none, none, none, none, none, none, none, none, none, none, none, none, none]) (fun w w' h b => h.trans (b.mono h.size)) (.none (.none (.is (.none (.none (.none (.none (.none (.none (.none (.none (.none (.none (.none (.none (.none (.none (.none (.none (.none (.none (.none (.none (.none (.none .nil))))))))))))))))))))))))))
                (Gn.below_drew (Below.refl _ _)) ?_
              refine LooseD.reads (.pointer (some ⟨wr.heap.size, 0, none⟩)) rfl rfl ?_ ?_
              · intro w hw
                obtain ⟨y0, y1, y2⟩ := HC2.out w hw
                clear hw
                go_simp
              try simp only [Act.put, List.setIfInBounds_toArray, List.set_cons_zero, List.set_cons_succ]
              refine LooseD.reads (.string cn) rfl rfl ?_ ?_
              · intro w hw
                obtain ⟨y0, y1, y2⟩ := HC2.out w hw
                clear hw
                go_simp
              try simp only [Act.put, List.setIfInBounds_toArray, List.set_cons_zero, List.set_cons_succ]
              refine LooseD.gives (.bool false) 67 #[.string cn] rfl rfl ?_ (fun w hw hH => (HGC.out w).mono fun e w1 h => ⟨h.1, by rw [h.2]; exact Below.refl _ _⟩) ?_
              · intro w hw
                clear hw
                go_simp
              try simp only [Act.put, List.setIfInBounds_toArray, List.set_cons_zero, List.set_cons_succ]
              refine LooseD.reads (.bool true) rfl rfl ?_ ?_
              · intro w hw
                obtain ⟨y0, y1, y2⟩ := HC2.out w hw
                clear hw
                go_simp
              try simp only [Act.put, List.setIfInBounds_toArray, List.set_cons_zero, List.set_cons_succ]
              refine LooseD.reads (.bool true) rfl rfl ?_ ?_
              · intro w hw
                obtain ⟨y0, y1, y2⟩ := HC2.out w hw
                clear hw
                go_simp
              try simp only [Act.put, List.setIfInBounds_toArray, List.set_cons_zero, List.set_cons_succ]
              refine LooseD.unwanted rfl ?_
              try simp only [Act.put, List.setIfInBounds_toArray, List.set_cons_zero, List.set_cons_succ]
              refine LooseD.unwanted rfl ?_
              try simp only [Act.put, List.setIfInBounds_toArray, List.set_cons_zero, List.set_cons_succ]
              refine LooseD.unwanted rfl ?_
              try simp only [Act.put, List.setIfInBounds_toArray, List.set_cons_zero, List.set_cons_succ]
              refine LooseD.reads (.bool true) rfl rfl ?_ ?_
              · intro w hw
                obtain ⟨y0, y1, y2⟩ := HC2.out w hw
                clear hw
                go_simp
              try simp only [Act.put, List.setIfInBounds_toArray, List.set_cons_zero, List.set_cons_succ]
              refine LooseD.reads (.bool true) rfl rfl ?_ ?_
              · intro w hw
                obtain ⟨y0, y1, y2⟩ := HC2.out w hw
                clear hw
                go_simp
              try simp only [Act.put, List.setIfInBounds_toArray, List.set_cons_zero, List.set_cons_succ]
              refine LooseD.unwanted rfl ?_
              try simp only [Act.put, List.setIfInBounds_toArray, List.set_cons_zero, List.set_cons_succ]
              refine LooseD.unwanted rfl ?_
              try simp only [Act.put, List.setIfInBounds_toArray, List.set_cons_zero, List.set_cons_succ]
              refine LooseD.unwanted rfl ?_
              try simp only [Act.put, List.setIfInBounds_toArray, List.set_cons_zero, List.set_cons_succ]
              refine LooseD.unwanted rfl ?_
              try simp only [Act.put, List.setIfInBounds_toArray, List.set_cons_zero, List.set_cons_succ]
              refine LooseD.unwanted rfl ?_
              try simp only [Act.put, List.setIfInBounds_toArray, List.set_cons_zero, List.set_cons_succ]
              refine LooseD.unwanted rfl ?_
              try simp only [Act.put, List.setIfInBounds_toArray, List.set_cons_zero, List.set_cons_succ]
              refine LooseD.unwanted rfl ?_
              try simp only [Act.put, List.setIfInBounds_toArray, List.set_cons_zero, List.set_cons_succ]
              refine LooseD.unwanted rfl ?_
              try simp only [Act.put, List.setIfInBounds_toArray, List.set_cons_zero, List.set_cons_succ]
              refine LooseD.unwanted rfl ?_
              try simp only [Act.put, List.setIfInBounds_toArray, List.set_cons_zero, List.set_cons_succ]
              refine LooseD.unwanted rfl ?_
              try simp only [Act.put, List.setIfInBounds_toArray, List.set_cons_zero, List.set_cons_succ]
              refine LooseD.unwanted rfl ?_
              try simp only [Act.put, List.setIfInBounds_toArray, List.set_cons_zero, List.set_cons_succ]
              refine LooseD.unwanted rfl ?_
              try simp only [Act.put, List.setIfInBounds_toArray, List.set_cons_zero, List.set_cons_succ]
              refine LooseD.unwanted rfl ?_
              try simp only [Act.put, List.setIfInBounds_toArray, List.set_cons_zero, List.set_cons_succ]
              refine LooseD.unwanted rfl ?_
              try simp only [Act.put, List.setIfInBounds_toArray, List.set_cons_zero, List.set_cons_succ]
              refine LooseD.reads (.bool true) rfl rfl ?_ ?_
              · intro w hw
                obtain ⟨y0, y1, y2⟩ := HC2.out w hw
                clear hw
                go_simp
              try simp only [Act.put, List.setIfInBounds_toArray, List.set_cons_zero, List.set_cons_succ]
              refine LooseD.done fun w' hw' _ => ?_
              have HW := Lib.hid hw'
              clear hw'
              go_wp2_with fail
              go_meet
              case rel => exact ⟨_, rfl, HW.out, fun _ => HF.out, fun h => by cases h⟩
            | true =>
              by_cases c1 : tr = 2
              · have e1 := decide_eq_true c1
                by_cases h0 : i = 0
                · have e2 : (decide (i = 0) || decide (cmpN pv cn < 0)) = true := by rw [decide_eq_true h0]; rfl
                  have HPRE := Lib.hid (show (true && decide (tr = 2) && (decide (i = 0) || decide (cmpN pv cn < 0))) = true by rw [e1, e2]; rfl)
                  have h0' : ¬ (0 : Int) < (i : Int) := by omega
                  have h0n : ¬ 0 < i := by omega
                  have H0 := Lib.hid h0
                  clear e1 e2 h0
                  refine LooseD.region_loose (fun w => Below T.heap.size T w) _ _ (by kernel_rfl) (by kernel_rfl)
                    (LooseD.waits (D := [[], [], [], [], [], [], [], [], [], [], [], [], [], [], [], [], [], [], [], [], [], [], [], [], []]) (by kernel_rfl))
                    (LooseD.stays (ts := [none, none, some (.is (.bool true)), none, none, none, none, none, none, none, none, none, none, none, none, none, none, none, none, none, none, none, none, none, none]) (fun w w' h b => h.trans (b.mono h.size)) (.none (.none (.is (.none (.none (.none (.none (.none (.none (.none (.none (.none (.none (.none (.none (.none (.none (.none (.none (.none (.none (.none (.none (.none (.none .nil))))))))))))))))))))))))))
                    (Gn.below_drew (Below.refl _ _)) ?_
                  refine LooseD.reads (.pointer (some ⟨wr.heap.size, 0, none⟩)) rfl rfl ?_ ?_
                  · intro w hw
                    obtain ⟨y0, y1, y2⟩ := HC2.out w hw
                    clear hw
                    go_simp
                  try simp only [Act.put, List.setIfInBounds_toArray, List.set_cons_zero, List.set_cons_succ]
                  refine LooseD.reads (.string cn) rfl rfl ?_ ?_
                  · intro w hw
                    obtain ⟨y0, y1, y2⟩ := HC2.out w hw
                    clear hw
                    go_simp
                  try simp only [Act.put, List.setIfInBounds_toArray, List.set_cons_zero, List.set_cons_succ]
                  refine LooseD.gives (.bool true) 67 #[.string cn] rfl rfl ?_ (fun w hw hH => (HGC.out w).mono fun e w1 h => ⟨h.1, by rw [h.2]; exact Below.refl _ _⟩) ?_
                  · intro w hw
                    clear hw
                    go_simp
                  try simp only [Act.put, List.setIfInBounds_toArray, List.set_cons_zero, List.set_cons_succ]
                  refine LooseD.reads (.bool false) rfl rfl ?_ ?_
                  · intro w hw
                    obtain ⟨y0, y1, y2⟩ := HC2.out w hw
                    clear hw
                    go_simp
                  try simp only [Act.put, List.setIfInBounds_toArray, List.set_cons_zero, List.set_cons_succ]
                  refine LooseD.reads (.bool false) rfl rfl ?_ ?_
                  · intro w hw
                    obtain ⟨y0, y1, y2⟩ := HC2.out w hw
                    clear hw
                    go_simp
                  try simp only [Act.put, List.setIfInBounds_toArray, List.set_cons_zero, List.set_cons_succ]
                  refine LooseD.reads (.pointer (some ⟨w2.heap.size, 1, none⟩)) rfl rfl ?_ ?_
                  · intro w hw
                    obtain ⟨y0, y1, y2⟩ := HC2.out w hw
                    clear hw
                    go_simp
                  try simp only [Act.put, List.setIfInBounds_toArray, List.set_cons_zero, List.set_cons_succ]
                  refine LooseD.reads (.int .i64 tr) rfl rfl ?_ ?_
                  · intro w hw
                    obtain ⟨y0, y1, y2⟩ := HC2.out w hw
                    clear hw
                    go_simp
                  try simp only [Act.put, List.setIfInBounds_toArray, List.set_cons_zero, List.set_cons_succ]
                  refine LooseD.reads (.bool false) rfl rfl ?_ ?_
                  · intro w hw
                    obtain ⟨y0, y1, y2⟩ := HC2.out w hw
                    clear hw
                    go_simp
                  try simp only [Act.put, List.setIfInBounds_toArray, List.set_cons_zero, List.set_cons_succ]
                  refine LooseD.reads (.bool false) rfl rfl ?_ ?_
                  · intro w hw
                    obtain ⟨y0, y1, y2⟩ := HC2.out w hw
                    clear hw
                    go_simp
                  try simp only [Act.put, List.setIfInBounds_toArray, List.set_cons_zero, List.set_cons_succ]
                  refine LooseD.reads (.bool false) rfl rfl ?_ ?_
                  · intro w hw
                    obtain ⟨y0, y1, y2⟩ := HC2.out w hw
                    clear hw
                    go_simp
                  try simp only [Act.put, List.setIfInBounds_toArray, List.set_cons_zero, List.set_cons_succ]
                  refine LooseD.reads (.int .i64 i) rfl rfl ?_ ?_
                  · intro w hw
                    obtain ⟨y0, y1, y2⟩ := HC2.out w hw
                    clear hw
                    go_simp
                  try simp only [Act.put, List.setIfInBounds_toArray, List.set_cons_zero, List.set_cons_succ]
                  refine LooseD.reads (.bool false) rfl rfl ?_ ?_
                  · intro w hw
                    obtain ⟨y0, y1, y2⟩ := HC2.out w hw
                    clear hw
                    go_simp
                  try simp only [Act.put, List.setIfInBounds_toArray, List.set_cons_zero, List.set_cons_succ]
                  refine LooseD.reads (.bool false) rfl rfl ?_ ?_
                  · intro w hw
                    obtain ⟨y0, y1, y2⟩ := HC2.out w hw
                    clear hw
                    go_simp
                  try simp only [Act.put, List.setIfInBounds_toArray, List.set_cons_zero, List.set_cons_succ]
                  refine LooseD.unwanted rfl ?_
                  try simp only [Act.put, List.setIfInBounds_toArray, List.set_cons_zero, List.set_cons_succ]
                  refine LooseD.unwanted rfl ?_
                  try simp only [Act.put, List.setIfInBounds_toArray, List.set_cons_zero, List.set_cons_succ]
                  refine LooseD.unwanted rfl ?_
                  try simp only [Act.put, List.setIfInBounds_toArray, List.set_cons_zero, List.set_cons_succ]
                  refine LooseD.unwanted rfl ?_
                  try simp only [Act.put, List.setIfInBounds_toArray, List.set_cons_zero, List.set_cons_succ]
                  refine LooseD.unwanted rfl ?_
                  try simp only [Act.put, List.setIfInBounds_toArray, List.set_cons_zero, List.set_cons_succ]
                  refine LooseD.unwanted rfl ?_
                  try simp only [Act.put, List.setIfInBounds_toArray, List.set_cons_zero, List.set_cons_succ]
                  refine LooseD.unwanted rfl ?_
                  try simp only [Act.put, List.setIfInBounds_toArray, List.set_cons_zero, List.set_cons_succ]
                  refine LooseD.unwanted rfl ?_
                  try simp only [Act.put, List.setIfInBounds_toArray, List.set_cons_zero, List.set_cons_succ]
                  refine LooseD.unwanted rfl ?_
                  try simp only [Act.put, List.setIfInBounds_toArray, List.set_cons_zero, List.set_cons_succ]
                  refine LooseD.unwanted rfl ?_
                  try simp only [Act.put, List.setIfInBounds_toArray, List.set_cons_zero, List.set_cons_succ]
                  refine LooseD.reads (.bool false) rfl rfl ?_ ?_
                  · intro w hw
                    obtain ⟨y0, y1, y2⟩ := HC2.out w hw
                    clear hw
                    go_simp
                  try simp only [Act.put, List.setIfInBounds_toArray, List.set_cons_zero, List.set_cons_succ]
                  refine LooseD.reads (.bool false) rfl rfl ?_ ?_
                  · intro w hw
                    obtain ⟨y0, y1, y2⟩ := HC2.out w hw
                    clear hw
                    go_simp
                  try simp only [Act.put, List.setIfInBounds_toArray, List.set_cons_zero, List.set_cons_succ]
                  refine LooseD.done fun w' hw' _ => ?_
                  have HW := Lib.hid hw'
                  clear hw'
                  go_wp2_with fail
                  go_meet
                  case rel => exact ⟨_, rfl, HW.out, (fun h => by cases h), fun _ => HPRE.out⟩
                · have h0' : (0 : Int) < (i : Int) := by omega
                  have h0n : 0 < i := by omega
                  have HCW := Lib.hid (HPT.out h0n)
                  obtain ⟨i1, hi1⟩ : ∃ i1, i1 = i - 1 := ⟨_, rfl⟩
                  rw [← hi1] at HCW
                  have hw2 : IntKind.i64.wrap ((i : Int) - 1) = (i1 : Int) := by
                    rw [show (i : Int) - 1 = (i1 : Int) by omega]; exact IntWalk.i64_in _ (by omega)
                  have hw3 : (i1 : Int) < (m : Int) := by omega
                  clear hi1
                  have hl := (show Op.bytesLess pv.toList cn.toList = decide (cmpN pv cn < 0) by rw [less_cmp, Lib.toList_data, Lib.toList_data]; rfl)
                  have hq : ∀ w, (binOp .geq 9 (.string pv) (.string cn)).run Try.prog w = .ok (.bool (!Op.bytesLess pv.toList cn.toList)) w := fun w => by first | rfl | kernel_rfl
                  simp only [hl] at hq
                  by_cases c5 : cmpN pv cn < 0
                  · have e2 : (decide (i = 0) || decide (cmpN pv cn < 0)) = true := by rw [decide_eq_true c5]; simp
                    have HPRE := Lib.hid (show (true && decide (tr = 2) && (decide (i = 0) || decide (cmpN pv cn < 0))) = true by rw [e1, e2]; rfl)
                    simp only [decide_eq_true c5] at hq
                    have HQ := Lib.hid (show ∀ w, (binOp .geq 9 (.string pv) (.string cn)).run Try.prog w = .ok (.bool false) w from hq)
                    clear e1 e2 hl c5 hq
                    refine LooseD.region_loose (fun w => Below T.heap.size T w) _ _ (by kernel_rfl) (by kernel_rfl)
                      (LooseD.waits (D := [[], [], [], [], [], [], [], [], [], [], [], [], [], [], [], [], [], [], [], [], [], [], [], [], []]) (by kernel_rfl))
                      (LooseD.stays (ts := [none, none, some (.is (.bool true)), none, none, none, none, none, none, none, none, none, none, none, none, none, none, none, none, none, none, none, none, none, none]) (fun w w' h b => h.trans (b.mono h.size)) (.none (.none (.is (.none (.none (.none (.none (.none (.none (.none (.none (.none (.none (.none (.none (.none (.none (.none (.none (.none (.none (.none (.none (.none (.none .nil))))))))))))))))))))))))))
                      (Gn.below_drew (Below.refl _ _)) ?_
                    refine LooseD.reads (.pointer (some ⟨wr.heap.size, 0, none⟩)) rfl rfl ?_ ?_
                    · intro w hw
                      obtain ⟨y0, y1, y2⟩ := HC2.out w hw
                      clear hw
                      go_simp
                    try simp only [Act.put, List.setIfInBounds_toArray, List.set_cons_zero, List.set_cons_succ]
                    refine LooseD.reads (.string cn) rfl rfl ?_ ?_
                    · intro w hw
                      obtain ⟨y0, y1, y2⟩ := HC2.out w hw
                      clear hw
                      go_simp
                    try simp only [Act.put, List.setIfInBounds_toArray, List.set_cons_zero, List.set_cons_succ]
                    refine LooseD.gives (.bool true) 67 #[.string cn] rfl rfl ?_ (fun w hw hH => (HGC.out w).mono fun e w1 h => ⟨h.1, by rw [h.2]; exact Below.refl _ _⟩) ?_
                    · intro w hw
                      clear hw
                      go_simp
                    try simp only [Act.put, List.setIfInBounds_toArray, List.set_cons_zero, List.set_cons_succ]
                    refine LooseD.reads (.bool false) rfl rfl ?_ ?_
                    · intro w hw
                      obtain ⟨y0, y1, y2⟩ := HC2.out w hw
                      clear hw
                      go_simp
                    try simp only [Act.put, List.setIfInBounds_toArray, List.set_cons_zero, List.set_cons_succ]
                    refine LooseD.reads (.bool false) rfl rfl ?_ ?_
                    · intro w hw
                      obtain ⟨y0, y1, y2⟩ := HC2.out w hw
                      clear hw
                      go_simp
                    try simp only [Act.put, List.setIfInBounds_toArray, List.set_cons_zero, List.set_cons_succ]
                    refine LooseD.reads (.pointer (some ⟨w2.heap.size, 1, none⟩)) rfl rfl ?_ ?_
                    · intro w hw
                      obtain ⟨y0, y1, y2⟩ := HC2.out w hw
                      clear hw
                      go_simp
                    try simp only [Act.put, List.setIfInBounds_toArray, List.set_cons_zero, List.set_cons_succ]
                    refine LooseD.reads (.int .i64 tr) rfl rfl ?_ ?_
                    · intro w hw
                      obtain ⟨y0, y1, y2⟩ := HC2.out w hw
                      clear hw
                      go_simp
                    try simp only [Act.put, List.setIfInBounds_toArray, List.set_cons_zero, List.set_cons_succ]
                    refine LooseD.reads (.bool false) rfl rfl ?_ ?_
                    · intro w hw
                      obtain ⟨y0, y1, y2⟩ := HC2.out w hw
                      clear hw
                      go_simp
                    try simp only [Act.put, List.setIfInBounds_toArray, List.set_cons_zero, List.set_cons_succ]
                    refine LooseD.reads (.bool false) rfl rfl ?_ ?_
                    · intro w hw
                      obtain ⟨y0, y1, y2⟩ := HC2.out w hw
                      clear hw
                      go_simp
                    try simp only [Act.put, List.setIfInBounds_toArray, List.set_cons_zero, List.set_cons_succ]
                    refine LooseD.reads (.bool false) rfl rfl ?_ ?_
                    · intro w hw
                      obtain ⟨y0, y1, y2⟩ := HC2.out w hw
                      clear hw
                      go_simp
                    try simp only [Act.put, List.setIfInBounds_toArray, List.set_cons_zero, List.set_cons_succ]
                    refine LooseD.reads (.int .i64 i) rfl rfl ?_ ?_
                    · intro w hw
                      obtain ⟨y0, y1, y2⟩ := HC2.out w hw
                      clear hw
                      go_simp
                    try simp only [Act.put, List.setIfInBounds_toArray, List.set_cons_zero, List.set_cons_succ]
                    refine LooseD.reads (.bool true) rfl rfl ?_ ?_
                    · intro w hw
                      obtain ⟨y0, y1, y2⟩ := HC2.out w hw
                      clear hw
                      go_simp
                    try simp only [Act.put, List.setIfInBounds_toArray, List.set_cons_zero, List.set_cons_succ]
                    refine LooseD.reads (.bool true) rfl rfl ?_ ?_
                    · intro w hw
                      obtain ⟨y0, y1, y2⟩ := HC2.out w hw
                      clear hw
                      go_simp
                    try simp only [Act.put, List.setIfInBounds_toArray, List.set_cons_zero, List.set_cons_succ]
                    refine LooseD.reads (.pointer (some ⟨W.heap.size, 1, none⟩)) rfl rfl ?_ ?_
                    · intro w hw
                      obtain ⟨y0, y1, y2⟩ := HC2.out w hw
                      clear hw
                      go_simp
                    try simp only [Act.put, List.setIfInBounds_toArray, List.set_cons_zero, List.set_cons_succ]
                    refine LooseD.reads (.slice (some ⟨b6, 0, none⟩) m cc) rfl rfl ?_ ?_
                    · intro w hw
                      obtain ⟨y0, y1, y2⟩ := HC2.out w hw
                      clear hw
                      go_simp
                    try simp only [Act.put, List.setIfInBounds_toArray, List.set_cons_zero, List.set_cons_succ]
                    refine LooseD.reads (.int .i64 i) rfl rfl ?_ ?_
                    · intro w hw
                      obtain ⟨y0, y1, y2⟩ := HC2.out w hw
                      clear hw
                      go_simp
                    try simp only [Act.put, List.setIfInBounds_toArray, List.set_cons_zero, List.set_cons_succ]
                    refine LooseD.reads (.int .i64 i1) rfl rfl ?_ ?_
                    · intro w hw
                      obtain ⟨y0, y1, y2⟩ := HC2.out w hw
                      clear hw
                      go_simp
                    try simp only [Act.put, List.setIfInBounds_toArray, List.set_cons_zero, List.set_cons_succ]
                    refine LooseD.reads (.pointer (some ⟨b6, i1 * 3, none⟩)) rfl rfl ?_ ?_
                    · intro w hw
                      obtain ⟨y0, y1, y2⟩ := HC2.out w hw
                      clear hw
                      go_simp
                    try simp only [Act.put, List.setIfInBounds_toArray, List.set_cons_zero, List.set_cons_succ]
                    refine LooseD.reads (.pointer (some ⟨b6, i1 * 3, none⟩)) rfl rfl ?_ ?_
                    · intro w hw
                      obtain ⟨y0, y1, y2⟩ := HC2.out w hw
                      clear hw
                      go_simp
                    try simp only [Act.put, List.setIfInBounds_toArray, List.set_cons_zero, List.set_cons_succ]
                    refine LooseD.reads (.string pv) rfl rfl ?_ ?_
                    · intro w hw
                      obtain ⟨y0, y1, y2⟩ := HC2.out w hw
                      have z1 := HCW.out w hw
                      clear hw
                      go_simp
                    try simp only [Act.put, List.setIfInBounds_toArray, List.set_cons_zero, List.set_cons_succ]
                    refine LooseD.reads (.pointer (some ⟨wr.heap.size, 0, none⟩)) rfl rfl ?_ ?_
                    · intro w hw
                      obtain ⟨y0, y1, y2⟩ := HC2.out w hw
                      clear hw
                      go_simp
                    try simp only [Act.put, List.setIfInBounds_toArray, List.set_cons_zero, List.set_cons_succ]
                    refine LooseD.reads (.string cn) rfl rfl ?_ ?_
                    · intro w hw
                      obtain ⟨y0, y1, y2⟩ := HC2.out w hw
                      clear hw
                      go_simp
                    try simp only [Act.put, List.setIfInBounds_toArray, List.set_cons_zero, List.set_cons_succ]
                    refine LooseD.reads (.bool false) rfl rfl ?_ ?_
                    · intro w hw
                      obtain ⟨y0, y1, y2⟩ := HC2.out w hw
                      have z1 := HQ.out w
                      clear hw
                      go_simp
                    try simp only [Act.put, List.setIfInBounds_toArray, List.set_cons_zero, List.set_cons_succ]
                    refine LooseD.reads (.bool false) rfl rfl ?_ ?_
                    · intro w hw
                      obtain ⟨y0, y1, y2⟩ := HC2.out w hw
                      clear hw
                      go_simp
                    try simp only [Act.put, List.setIfInBounds_toArray, List.set_cons_zero, List.set_cons_succ]
                    refine LooseD.reads (.bool false) rfl rfl ?_ ?_
                    · intro w hw
                      obtain ⟨y0, y1, y2⟩ := HC2.out w hw
                      clear hw
                      go_simp
                    try simp only [Act.put, List.setIfInBounds_toArray, List.set_cons_zero, List.set_cons_succ]
                    refine LooseD.done fun w' hw' _ => ?_
                    have HW := Lib.hid hw'
                    clear hw'
                    go_wp2_with fail
                    go_meet
                    case rel => exact ⟨_, rfl, HW.out, (fun h => by cases h), fun _ => HPRE.out⟩
                  · have HF := Lib.hid (HCBAD.out (by rw [decide_eq_false h0, decide_eq_false c5]; simp))
                    simp only [decide_eq_false c5] at hq
                    have HQ := Lib.hid (show ∀ w, (binOp .geq 9 (.string pv) (.string cn)).run Try.prog w = .ok (.bool true) w from hq)
                    clear e1 hl c5 hq
                    refine LooseD.region_loose (fun w => Below T.heap.size T w) _ _ (by kernel_rfl) (by kernel_rfl)
                      (LooseD.waits (D := [[], [], [], [], [], [], [], [], [], [], [], [], [], [], [], [], [], [], [], [], [], [], [], [], []]) (by kernel_rfl))
                      (LooseD.stays (ts := [none, none, some (.is (.bool true)), none, none, none, none, none, none, none, none, none, none, none, none, none, none, none, none, none, none, none, none, none, none]) (fun w w' h b => h.trans (b.mono h.size)) (.none (.none (.is (.none (.none (.none (.none (.none (.none (.none (.none (.none (.none (.none (.none (.none (.none (.none (.none (.none (.none (.none (.none (.none (.none .nil))))))))))))))))))))))))))
                      (Gn.below_drew (Below.refl _ _)) ?_
                    refine LooseD.reads (.pointer (some ⟨wr.heap.size, 0, none⟩)) rfl rfl ?_ ?_
                    · intro w hw
                      obtain ⟨y0, y1, y2⟩ := HC2.out w hw
                      clear hw
                      go_simp
                    try simp only [Act.put, List.setIfInBounds_toArray, List.set_cons_zero, List.set_cons_succ]
                    refine LooseD.reads (.string cn) rfl rfl ?_ ?_
                    · intro w hw
                      obtain ⟨y0, y1, y2⟩ := HC2.out w hw
                      clear hw
                      go_simp
                    try simp only [Act.put, List.setIfInBounds_toArray, List.set_cons_zero, List.set_cons_succ]
                    refine LooseD.gives (.bool true) 67 #[.string cn] rfl rfl ?_ (fun w hw hH => (HGC.out w).mono fun e w1 h => ⟨h.1, by rw [h.2]; exact Below.refl _ _⟩) ?_
                    · intro w hw
                      clear hw
                      go_simp
                    try simp only [Act.put, List.setIfInBounds_toArray, List.set_cons_zero, List.set_cons_succ]
                    refine LooseD.reads (.bool false) rfl rfl ?_ ?_
                    · intro w hw
                      obtain ⟨y0, y1, y2⟩ := HC2.out w hw
                      clear hw
                      go_simp
                    try simp only [Act.put, List.setIfInBounds_toArray, List.set_cons_zero, List.set_cons_succ]
                    refine LooseD.reads (.bool false) rfl rfl ?_ ?_
                    · intro w hw
                      obtain ⟨y0, y1, y2⟩ := HC2.out w hw
                      clear hw
                      go_simp
                    try simp only [Act.put, List.setIfInBounds_toArray, List.set_cons_zero, List.set_cons_succ]
                    refine LooseD.reads (.pointer (some ⟨w2.heap.size, 1, none⟩)) rfl rfl ?_ ?_
                    · intro w hw
                      obtain ⟨y0, y1, y2⟩ := HC2.out w hw
                      clear hw
                      go_simp
                    try simp only [Act.put, List.setIfInBounds_toArray, List.set_cons_zero, List.set_cons_succ]
                    refine LooseD.reads (.int .i64 tr) rfl rfl ?_ ?_
                    · intro w hw
                      obtain ⟨y0, y1, y2⟩ := HC2.out w hw
                      clear hw
                      go_simp
                    try simp only [Act.put, List.setIfInBounds_toArray, List.set_cons_zero, List.set_cons_succ]
                    refine LooseD.reads (.bool false) rfl rfl ?_ ?_
                    · intro w hw
                      obtain ⟨y0, y1, y2⟩ := HC2.out w hw
                      clear hw
                      go_simp
                    try simp only [Act.put, List.setIfInBounds_toArray, List.set_cons_zero, List.set_cons_succ]
                    refine LooseD.reads (.bool false) rfl rfl ?_ ?_
                    · intro w hw
                      obtain ⟨y0, y1, y2⟩ := HC2.out w hw
                      clear hw
                      go_simp
                    try simp only [Act.put, List.setIfInBounds_toArray, List.set_cons_zero, List.set_cons_succ]
                    refine LooseD.reads (.bool false) rfl rfl ?_ ?_
                    · intro w hw
                      obtain ⟨y0, y1, y2⟩ := HC2.out w hw
                      clear hw
                      go_simp
                    try simp only [Act.put, List.setIfInBounds_toArray, List.set_cons_zero, List.set_cons_succ]
                    refine LooseD.reads (.int .i64 i) rfl rfl ?_ ?_
                    · intro w hw
                      obtain ⟨y0, y1, y2⟩ := HC2.out w hw
                      clear hw
                      go_simp
                    try simp only [Act.put, List.setIfInBounds_toArray, List.set_cons_zero, List.set_cons_succ]
                    refine LooseD.reads (.bool true) rfl rfl ?_ ?_
                    · intro w hw
                      obtain ⟨y0, y1, y2⟩ := HC2.out w hw
                      clear hw
                      go_simp
                    try simp only [Act.put, List.setIfInBounds_toArray, List.set_cons_zero, List.set_cons_succ]
                    refine LooseD.reads (.bool true) rfl rfl ?_ ?_
                    · intro w hw
                      obtain ⟨y0, y1, y2⟩ := HC2.out w hw
                      clear hw
                      go_simp
                    try simp only [Act.put, List.setIfInBounds_toArray, List.set_cons_zero, List.set_cons_succ]
                    refine LooseD.reads (.pointer (some ⟨W.heap.size, 1, none⟩)) rfl rfl ?_ ?_
                    · intro w hw
                      obtain ⟨y0, y1, y2⟩ := HC2.out w hw
                      clear hw
                      go_simp
                    try simp only [Act.put, List.setIfInBounds_toArray, List.set_cons_zero, List.set_cons_succ]
                    refine LooseD.reads (.slice (some ⟨b6, 0, none⟩) m cc) rfl rfl ?_ ?_
                    · intro w hw
                      obtain ⟨y0, y1, y2⟩ := HC2.out w hw
                      clear hw
                      go_simp
                    try simp only [Act.put, List.setIfInBounds_toArray, List.set_cons_zero, List.set_cons_succ]
                    refine LooseD.reads (.int .i64 i) rfl rfl ?_ ?_
                    · intro w hw
                      obtain ⟨y0, y1, y2⟩ := HC2.out w hw
                      clear hw
                      go_simp
                    try simp only [Act.put, List.setIfInBounds_toArray, List.set_cons_zero, List.set_cons_succ]
                    refine LooseD.reads (.int .i64 i1) rfl rfl ?_ ?_
                    · intro w hw
                      obtain ⟨y0, y1, y2⟩ := HC2.out w hw
                      clear hw
                      go_simp
                    try simp only [Act.put, List.setIfInBounds_toArray, List.set_cons_zero, List.set_cons_succ]
                    refine LooseD.reads (.pointer (some ⟨b6, i1 * 3, none⟩)) rfl rfl ?_ ?_
                    · intro w hw
                      obtain ⟨y0, y1, y2⟩ := HC2.out w hw
                      clear hw
                      go_simp
                    try simp only [Act.put, List.setIfInBounds_toArray, List.set_cons_zero, List.set_cons_succ]
                    refine LooseD.reads (.pointer (some ⟨b6, i1 * 3, none⟩)) rfl rfl ?_ ?_
                    · intro w hw
                      obtain ⟨y0, y1, y2⟩ := HC2.out w hw
                      clear hw
                      go_simp
                    try simp only [Act.put, List.setIfInBounds_toArray, List.set_cons_zero, List.set_cons_succ]
                    refine LooseD.reads (.string pv) rfl rfl ?_ ?_
                    · intro w hw
                      obtain ⟨y0, y1, y2⟩ := HC2.out w hw
                      have z1 := HCW.out w hw
                      clear hw
                      go_simp
                    try simp only [Act.put, List.setIfInBounds_toArray, List.set_cons_zero, List.set_cons_succ]
                    refine LooseD.reads (.pointer (some ⟨wr.heap.size, 0, none⟩)) rfl rfl ?_ ?_
                    · intro w hw
                      obtain ⟨y0, y1, y2⟩ := HC2.out w hw
                      clear hw
                      go_simp
                    try simp only [Act.put, List.setIfInBounds_toArray, List.set_cons_zero, List.set_cons_succ]
                    refine LooseD.reads (.string cn) rfl rfl ?_ ?_
                    · intro w hw
                      obtain ⟨y0, y1, y2⟩ := HC2.out w hw
                      clear hw
                      go_simp
                    try simp only [Act.put, List.setIfInBounds_toArray, List.set_cons_zero, List.set_cons_succ]
                    refine LooseD.reads (.bool true) rfl rfl ?_ ?_
                    · intro w hw
                      obtain ⟨y0, y1, y2⟩ := HC2.out w hw
                      have z1 := HQ.out w
                      clear hw
                      go_simp
                    try simp only [Act.put, List.setIfInBounds_toArray, List.set_cons_zero, List.set_cons_succ]
                    refine LooseD.reads (.bool true) rfl rfl ?_ ?_
                    · intro w hw
                      obtain ⟨y0, y1, y2⟩ := HC2.out w hw
                      clear hw
                      go_simp
                    try simp only [Act.put, List.setIfInBounds_toArray, List.set_cons_zero, List.set_cons_succ]
                    refine LooseD.reads (.bool true) rfl rfl ?_ ?_
                    · intro w hw
                      obtain ⟨y0, y1, y2⟩ := HC2.out w hw
                      clear hw
                      go_simp
                    try simp only [Act.put, List.setIfInBounds_toArray, List.set_cons_zero, List.set_cons_succ]
                    refine LooseD.done fun w' hw' _ => ?_
                    have HW := Lib.hid hw'
                    clear hw'
                    go_wp2_with fail
                    go_meet
                    case rel => exact ⟨_, rfl, HW.out, fun _ => HF.out, fun h => by cases h⟩
              · have HF := Lib.hid (HCBAD.out (by rw [decide_eq_false c1]; simp))
                refine LooseD.region_loose (fun w => Below T.heap.size T w) _ _ (by kernel_rfl) (by kernel_rfl)
                  (LooseD.waits (D := [[], [], [], [], [], [], [], [], [], [], [], [], [], [], [], [], [], [], [], [], [], [], [], [], []]) (by kernel_rfl))
                  (LooseD.stays (ts := [none, none, some (.is (.bool true)), none, none, none, none, none, none, none, none, none, none, none, none, none, none, none, none, none, none, none, none, none, none]) (fun w w' h b => h.trans (b.mono h.size)) (.none (.none (.is (.none (.none (.none (.none (.none (.none (.none (.none (.none (.none (.none (.none (.none (.none (.none (.none (.none (.none (.none (.none (.none (.none .nil))))))))))))))))))))))))))
                  (Gn.below_drew (Below.refl _ _)) ?_
                refine LooseD.reads (.pointer (some ⟨wr.heap.size, 0, none⟩)) rfl rfl ?_ ?_
                · intro w hw
                  obtain ⟨y0, y1, y2⟩ := HC2.out w hw
                  clear hw
                  go_simp
                try simp only [Act.put, List.setIfInBounds_toArray, List.set_cons_zero, List.set_cons_succ]
                refine LooseD.reads (.string cn) rfl rfl ?_ ?_
                · intro w hw
                  obtain ⟨y0, y1, y2⟩ := HC2.out w hw
                  clear hw
                  go_simp
                try simp only [Act.put, List.setIfInBounds_toArray, List.set_cons_zero, List.set_cons_succ]
                refine LooseD.gives (.bool true) 67 #[.string cn] rfl rfl ?_ (fun w hw hH => (HGC.out w).mono fun e w1 h => ⟨h.1, by rw [h.2]; exact Below.refl _ _⟩) ?_
                · intro w hw
                  clear hw
                  go_simp
                try simp only [Act.put, List.setIfInBounds_toArray, List.set_cons_zero, List.set_cons_succ]
                refine LooseD.reads (.bool false) rfl rfl ?_ ?_
                · intro w hw
                  obtain ⟨y0, y1, y2⟩ := HC2.out w hw
                  clear hw
                  go_simp
                try simp only [Act.put, List.setIfInBounds_toArray, List.set_cons_zero, List.set_cons_succ]
                refine LooseD.reads (.bool false) rfl rfl ?_ ?_
                · intro w hw
                  obtain ⟨y0, y1, y2⟩ := HC2.out w hw
                  clear hw
                  go_simp
                try simp only [Act.put, List.setIfInBounds_toArray, List.set_cons_zero, List.set_cons_succ]
                refine LooseD.reads (.pointer (some ⟨w2.heap.size, 1, none⟩)) rfl rfl ?_ ?_
                · intro w hw
                  obtain ⟨y0, y1, y2⟩ := HC2.out w hw
                  clear hw
                  go_simp
                try simp only [Act.put, List.setIfInBounds_toArray, List.set_cons_zero, List.set_cons_succ]
                refine LooseD.reads (.int .i64 tr) rfl rfl ?_ ?_
                · intro w hw
                  obtain ⟨y0, y1, y2⟩ := HC2.out w hw
                  clear hw
                  go_simp
                try simp only [Act.put, List.setIfInBounds_toArray, List.set_cons_zero, List.set_cons_succ]
                refine LooseD.reads (.bool true) rfl rfl ?_ ?_
                · intro w hw
                  obtain ⟨y0, y1, y2⟩ := HC2.out w hw
                  clear hw
                  go_simp
                try simp only [Act.put, List.setIfInBounds_toArray, List.set_cons_zero, List.set_cons_succ]
                refine LooseD.reads (.bool true) rfl rfl ?_ ?_
                · intro w hw
                  obtain ⟨y0, y1, y2⟩ := HC2.out w hw
                  clear hw
                  go_simp
                try simp only [Act.put, List.setIfInBounds_toArray, List.set_cons_zero, List.set_cons_succ]
                refine LooseD.reads (.bool true) rfl rfl ?_ ?_
                · intro w hw
                  obtain ⟨y0, y1, y2⟩ := HC2.out w hw
                  clear hw
                  go_simp
                try simp only [Act.put, List.setIfInBounds_toArray, List.set_cons_zero, List.set_cons_succ]
                refine LooseD.unwanted rfl ?_
                try simp only [Act.put, List.setIfInBounds_toArray, List.set_cons_zero, List.set_cons_succ]
                refine LooseD.unwanted rfl ?_
                try simp only [Act.put, List.setIfInBounds_toArray, List.set_cons_zero, List.set_cons_succ]
                refine LooseD.unwanted rfl ?_
                try simp only [Act.put, List.setIfInBounds_toArray, List.set_cons_zero, List.set_cons_succ]
                refine LooseD.unwanted rfl ?_
                try simp only [Act.put, List.setIfInBounds_toArray, List.set_cons_zero, List.set_cons_succ]
                refine LooseD.unwanted rfl ?_
                try simp only [Act.put, List.setIfInBounds_toArray, List.set_cons_zero, List.set_cons_succ]
                refine LooseD.unwanted rfl ?_
                try simp only [Act.put, List.setIfInBounds_toArray, List.set_cons_zero, List.set_cons_succ]
                refine LooseD.unwanted rfl ?_
                try simp only [Act.put, List.setIfInBounds_toArray, List.set_cons_zero, List.set_cons_succ]
                refine LooseD.unwanted rfl ?_
                try simp only [Act.put, List.setIfInBounds_toArray, List.set_cons_zero, List.set_cons_succ]
                refine LooseD.unwanted rfl ?_
                try simp only [Act.put, List.setIfInBounds_toArray, List.set_cons_zero, List.set_cons_succ]
                refine LooseD.unwanted rfl ?_
                try simp only [Act.put, List.setIfInBounds_toArray, List.set_cons_zero, List.set_cons_succ]
                refine LooseD.unwanted rfl ?_
                try simp only [Act.put, List.setIfInBounds_toArray, List.set_cons_zero, List.set_cons_succ]
                refine LooseD.unwanted rfl ?_
                try simp only [Act.put, List.setIfInBounds_toArray, List.set_cons_zero, List.set_cons_succ]
                refine LooseD.unwanted rfl ?_
                try simp only [Act.put, List.setIfInBounds_toArray, List.set_cons_zero, List.set_cons_succ]
                refine LooseD.unwanted rfl ?_
                try simp only [Act.put, List.setIfInBounds_toArray, List.set_cons_zero, List.set_cons_succ]
                refine LooseD.reads (.bool true) rfl rfl ?_ ?_
                · intro w hw
                  obtain ⟨y0, y1, y2⟩ := HC2.out w hw
                  clear hw
                  go_simp
                try simp only [Act.put, List.setIfInBounds_toArray, List.set_cons_zero, List.set_cons_succ]
                refine LooseD.done fun w' hw' _ => ?_
                have HW := Lib.hid hw'
                clear hw'
                go_wp2_with fail
                go_meet
                case rel => exact ⟨_, rfl, HW.out, fun _ => HF.out, fun h => by cases h⟩

          case rest =>
            obtain ⟨b, rfl, hbw, hbad, hpre⟩ := hcut
            obtain ⟨wx, rfl⟩ : ∃ wx, wx = wc := ⟨_, rfl⟩
            have HW := Lib.hid hbw
            clear hbw HCP HPT
            cases b with
            | true =>
              have HF := Lib.hid (hbad rfl)
              clear hbad hpre
              go_wp2_with fail
              go_ret
              exact ⟨by rw [HF.out]; rfl, HTW.out.trans (HW.out.mono HTW.out.size)⟩
            | false =>
              have HPRE := Lib.hid (hpre rfl)
              clear hbad hpre
              obtain ⟨wo, rfl⟩ : ∃ wo, wo = wr := ⟨wr, rfl⟩
              go_wp2_with fail
              go_loopw [9] (fun x wz => ∃ (k : Nat), k ≤ sl ∧ x = .int .i64 k ∧ Below T.heap.size T wz ∧ ∀ j, j < k → rsB r.ms cs j = true) (fun x _ => sl - (intOf x).toNat)
              case atStart => exact ⟨0, Nat.zero_le _, rfl, HW.out, fun j h => absurd h (by omega)⟩
              case round =>
                obtain ⟨z, hz, rfl, hb, hall⟩ := hrel
                have HALLZ := Lib.hid hall
                clear hall
                have s2 := cell_of_row _ _ 2 _ _ (0, 0) ((hb.block _ (Gn.heap_lt HM0T.out)).trans HM0T.out)
                have hxz := (hb.block _ (Gn.heap_lt HXUT.out)).trans HXUT.out
                have x0 := cell_of_row _ _ 0 _ _ (0, 0) hxz
                have x1 := cell_of_row _ _ 1 _ _ (0, 0) hxz
                have HBZ := Lib.hid hb
                by_cases hzs : z < sl
                · have hzs2 : (z : Int) < (sl : Int) := by omega
                  have hzl : z < cs.length := by rw [← HSL.out]; exact hzs
                  obtain ⟨A8, c8, b8, h8, _, h8c, h8d⟩ := HST2.out.under hb
                  rw [← HSL.out] at h8 h8c
                  injection h8 with h8 _ h8k
                  subst h8
                  subst h8k
                  obtain ⟨rfl, hb8, _⟩ := h8c (by omega)
                  have k0 := h8d z hzl
                  obtain ⟨sn, hsn⟩ : ∃ sn, sn = cs[z] := ⟨_, rfl⟩
                  rw [← hsn] at k0
                  have hgd : cs.getD z ⟨#[]⟩ = sn := by rw [List.getD_eq_getElem?_getD, List.getElem?_eq_getElem hzl, hsn]; rfl
                  obtain ⟨sp, hsp⟩ : ∃ sp, sp = cs.getD (z - 1) ⟨#[]⟩ := ⟨_, rfl⟩
                  have HFZ := Lib.hid (fun (w : World) (b : Below wr.heap.size wr w) => HFD.out sn w (HTW.out.trans ((hb.trans (b.mono hb.size)).mono HTW.out.size)))
                  obtain ⟨t2, ht2⟩ : ∃ t, t = (findL r.ms sn).getD nilM := ⟨_, rfl⟩
                  obtain ⟨f2, hf2⟩ : ∃ fd, fd = (findL r.ms sn).isSome := ⟨_, rfl⟩
                  rw [← ht2, ← hf2] at HFZ
                  have hrs : rsB r.ms cs z = (decide (t2.role = 1) && (decide (z = 0) || decide (cmpN sp sn < 0))) := by unfold rsB roleL; rw [hgd, ht2, hsp]
                  obtain ⟨mn, mr, mq⟩ := t2
                  dsimp only at HFZ hrs
                  have HSBAD := Lib.hid (fun (h : (decide (mr = 1) && (decide (z = 0) || decide (cmpN sp sn < 0))) = false) => show B = false from HCBAD.out (by
                    rw [HPRE.out, Bool.true_and]
                    refine Bool.eq_false_iff.2 fun h9 => ?_
                    have h8 := List.all_eq_true.1 h9 z (List.mem_range.2 hzs)
                    rw [hrs, h] at h8
                    cases h8))
                  have HSOK := Lib.hid (fun (h : (decide (mr = 1) && (decide (z = 0) || decide (cmpN sp sn < 0))) = true) => show ∀ j, j < z + 1 → rsB r.ms cs j = true from fun j hj => by
                    by_cases hjz : j = z
                    · rw [hjz]; exact hrs.trans h
                    · exact HALLZ.out j (by omega))
                  have HPZ := Lib.hid (fun (h0 : 0 < z) => show wr.cell? ⟨b8, z - 1, none⟩ = some (.string sp) from by
                    have hk1 : z - 1 < cs.length := by omega
                    have := h8d (z - 1) hk1
                    rw [hsp, List.getD_eq_getElem?_getD, List.getElem?_eq_getElem hk1]
                    exact this)
                  have HK0 := Lib.hid k0
                  have HB8 := Lib.hid hb8
                  have HM0Z := Lib.hid ((hb.block _ (Gn.heap_lt HM0T.out)).trans HM0T.out)
                  have HSQ := Lib.hid (fun (w' : World) (b : Below wr.heap.size wr w') => show (fun w' : World => w'.cell? ⟨W.heap.size, 0, none⟩ = some (.slice Am n cm) ∧ w'.cell? ⟨W.heap.size, 1, none⟩ = some (.slice (some ⟨b6, 0, none⟩) m cc) ∧ w'.cell? ⟨wo.heap.size, 2, none⟩ = some (.slice (some ⟨b8, 0, none⟩) sl c7) ∧ w'.cell? ⟨b8, z, none⟩ = some (.string sn)) w' from ⟨cell_of_row _ _ 0 _ _ (0, 0) ((b.block _ (Gn.heap_lt hxz)).trans hxz), cell_of_row _ _ 1 _ _ (0, 0) ((b.block _ (Gn.heap_lt hxz)).trans hxz), cell_of_row _ _ 2 _ _ (0, 0) ((b.block _ (Gn.heap_lt HM0Z.out)).trans HM0Z.out), (b.cell (p := ⟨b8, z, none⟩) hb8).trans k0⟩)
                  clear hb hzl h8c h8d hb8 hsn hgd hsp ht2 hf2 hrs hxz
                  go_upto_region 17 with fail
                  clear x0 x1 s2 k0
                  go_cut [10, 11] from 115 to 124 (fun s8 s9 wx => ∃ (q : Nat), s8 = .pointer (some ⟨q, 0, none⟩) ∧ s9 = .bool f2 ∧ NewBoxD wr wx q ⟨mn, mr, mq⟩)
                  case first =>
                    refine wp_region_noPanic ?_
                    refine wp_region_held_drew (S := (fun w' : World => w'.cell? ⟨W.heap.size, 0, none⟩ = some (.slice Am n cm) ∧ w'.cell? ⟨W.heap.size, 1, none⟩ = some (.slice (some ⟨b6, 0, none⟩) m cc) ∧ w'.cell? ⟨wo.heap.size, 2, none⟩ = some (.slice (some ⟨b8, 0, none⟩) sl c7) ∧ w'.cell? ⟨b8, z, none⟩ = some (.string sn))) (by kernel_rfl) ?_ (fun hHeld => ?_)
                    · exact HSQ.out _ (Gn.below_drew (Below.refl _ _))
                    refine wpAnyH_take (i := 0) (v := ?_) rfl (by kernel_rfl) (by kernel_rfl) (by kernel_rfl) (fun _ _ _ h => h) (Or.inl ⟨by rfl, ?_⟩) (by assumption) ?_
                    rotate_left
                    · intro w hSw
                      try dsimp only at hSw
                      go_simp
                      try with_reducible rfl
                    try simp only [Act.put, List.setIfInBounds_toArray, List.set_cons_zero, List.set_cons_succ]
                    refine wpAnyH_take (i := 1) (v := ?_) rfl (by kernel_rfl) (by kernel_rfl) (by kernel_rfl) (fun _ _ _ h => h) (Or.inl ⟨by rfl, ?_⟩) (by assumption) ?_
                    rotate_left
                    · intro w hSw
                      try dsimp only at hSw
                      go_simp
                      try with_reducible rfl
                    try simp only [Act.put, List.setIfInBounds_toArray, List.set_cons_zero, List.set_cons_succ]
                    refine wpAnyH_take (i := 2) (v := ?_) rfl (by kernel_rfl) (by kernel_rfl) (by kernel_rfl) (fun _ _ _ h => h) (Or.inl ⟨by rfl, ?_⟩) (by assumption) ?_
                    rotate_left
                    · intro w hSw
                      try dsimp only at hSw
                      go_simp
                      try with_reducible rfl
                    try simp only [Act.put, List.setIfInBounds_toArray, List.set_cons_zero, List.set_cons_succ]
                    refine wpAnyH_take (i := 3) (v := ?_) rfl (by kernel_rfl) (by kernel_rfl) (by kernel_rfl) (fun _ _ _ h => h) (Or.inl ⟨by rfl, ?_⟩) (by assumption) ?_
                    rotate_left
                    · intro w hSw
                      try dsimp only at hSw
                      go_simp
                      try with_reducible rfl
                    try simp only [Act.put, List.setIfInBounds_toArray, List.set_cons_zero, List.set_cons_succ]
                    refine wpAnyH_take (i := 4) (v := ?_) rfl (by kernel_rfl) (by kernel_rfl) (by kernel_rfl) (fun _ _ _ h => h) (Or.inl ⟨by rfl, ?_⟩) (by assumption) ?_
                    rotate_left
                    · intro w hSw
                      try dsimp only at hSw
                      go_simp
                      try with_reducible rfl
                    try simp only [Act.put, List.setIfInBounds_toArray, List.set_cons_zero, List.set_cons_succ]
                    refine wpAnyH_take (i := 5) (v := ?_) rfl (by kernel_rfl) (by kernel_rfl) (by kernel_rfl) (fun _ _ _ h => h) (Or.inl ⟨by rfl, ?_⟩) (by assumption) ?_
                    rotate_left
                    · intro w hSw
                      try dsimp only at hSw
                      go_simp
                      try with_reducible rfl
                    try simp only [Act.put, List.setIfInBounds_toArray, List.set_cons_zero, List.set_cons_succ]
                    refine wpAnyH_ready (rs := [6, 10]) (by kernel_rfl) (by simp) ?_
                    refine AllReadyH.cons rfl (fun K hK => ?_) ?_
                    · go_simp
                      go_at_call 68
                      refine (HFZ.out _ (Gn.below_drew (Below.refl _ _))).mono ?_
                      rintro e w3 ⟨rfl, hb3⟩
                      have HBB := Lib.hid hb3
                      have HNB := Lib.hid (show NewBoxD wr (w3.alloc (.cells #[.string mn, .int .i64 mr, .int .i64 mq] 72)) w3.heap.size ⟨mn, mr, mq⟩ from (NewBoxD.late ⟨mn, mr, mq⟩ HBB.out).drew)
                      have HBW := Lib.hid ((Gn.below_drew (Below.refl _ _)).trans (hb3.mono (Nat.le_refl _)))
                      clear hb3
                      refine hK.out _ _ (HSQ.out _ HBW.out) (fun hHeld => ?_)
                      clear hK K
                      try simp only [Act.put, List.setIfInBounds_toArray, List.set_cons_zero, List.set_cons_succ]
                      refine wpAnyH_take (i := 7) (v := ?_) rfl (by kernel_rfl) (by kernel_rfl) (by kernel_rfl) (fun _ _ _ h => h) (Or.inl ⟨by rfl, ?_⟩) (by assumption) ?_
                      rotate_left
                      · intro w hSw
                        try dsimp only at hSw
                        go_simp
                        try with_reducible rfl
                      try simp only [Act.put, List.setIfInBounds_toArray, List.set_cons_zero, List.set_cons_succ]
                      refine wpAnyH_take (i := 8) (v := ?_) rfl (by kernel_rfl) (by kernel_rfl) (by kernel_rfl) (fun _ _ _ h => h) (Or.inl ⟨by rfl, ?_⟩) (by assumption) ?_
                      rotate_left
                      · intro w hSw
                        try dsimp only at hSw
                        go_simp
                        try with_reducible rfl
                      try simp only [Act.put, List.setIfInBounds_toArray, List.set_cons_zero, List.set_cons_succ]
                      refine wpAnyH_take (i := 9) (v := ?_) rfl (by kernel_rfl) (by kernel_rfl) (by kernel_rfl) (fun _ _ _ h => h) (Or.inl ⟨by rfl, ?_⟩) (by assumption) ?_
                      rotate_left
                      · intro w hSw
                        try dsimp only at hSw
                        go_simp
                        try with_reducible rfl
                      try simp only [Act.put, List.setIfInBounds_toArray, List.set_cons_zero, List.set_cons_succ]
                      refine wpAnyH_ready (rs := [10]) (by kernel_rfl) (by simp) ?_
                      refine AllReadyH.cons rfl (fun K hK => ?_) AllReadyH.nil
                      go_simp
                      refine hK.out _ _ (HSQ.out _ (HBW.out.trans (((Below.refl _ _).alloc (Nat.le_refl _) _).mono HBW.out.size))) (fun hHeld => ?_)
                      clear hK K
                      try simp only [Act.put, List.setIfInBounds_toArray, List.set_cons_zero, List.set_cons_succ]
                      refine wpAnyH_ready (rs := [11]) (by kernel_rfl) (by simp) ?_
                      refine AllReadyH.cons rfl (fun K hK => ?_) AllReadyH.nil
                      go_simp
                      refine hK.out _ _ (HSQ.out _ HNB.out.1) (fun hHeld => ?_)
                      clear hK K
                      try simp only [Act.put, List.setIfInBounds_toArray, List.set_cons_zero, List.set_cons_succ]
                      refine wpAnyH_take (i := 12) (v := ?_) rfl (by kernel_rfl) (by kernel_rfl) (by kernel_rfl) (fun _ _ _ h => h) (Or.inl ⟨by rfl, ?_⟩) (by assumption) ?_
                      rotate_left
                      · intro w hSw
                        try dsimp only at hSw
                        go_simp
                        try with_reducible rfl
                      try simp only [Act.put, List.setIfInBounds_toArray, List.set_cons_zero, List.set_cons_succ]
                      refine wpAnyH_done (by kernel_rfl) ?_ _
                      refine NoPanic.normal ?_
                      go_wp2_with fail
                      go_meet
                      case rel => exact ⟨_, rfl, rfl, HNB.out⟩
                    refine AllReadyH.cons rfl (fun K hK => ?_) AllReadyH.nil
                    · go_simp
                      refine hK.out _ _ (HSQ.out _ ((Gn.below_drew (Below.refl _ _)).trans (((Below.refl _ _).alloc (Nat.le_refl _) _).mono (Nat.le_refl _)))) (fun hHeld => ?_)
                      clear hK K
                      try simp only [Act.put, List.setIfInBounds_toArray, List.set_cons_zero, List.set_cons_succ]
                      refine wpAnyH_ready (rs := [6]) (by kernel_rfl) (by simp) ?_
                      refine AllReadyH.cons rfl (fun K hK => ?_) AllReadyH.nil
                      go_simp
                      go_at_call 68
                      refine (HFZ.out _ ((Gn.below_drew (Below.refl _ _)).trans (((Below.refl _ _).alloc (Nat.le_refl _) _).mono (Nat.le_refl _)))).mono ?_
                      rintro e w3 ⟨rfl, hb3⟩
                      have HBB := Lib.hid hb3
                      have hq := (HBB.out.block wr.heap.size (by simp)).trans (heap_alloc_new wr.drew _)
                      have q0 := cell_of_row _ _ 0 _ _ (0, 0) hq
                      have q1 := cell_of_row _ _ 1 _ _ (0, 0) hq
                      have q2 := cell_of_row _ _ 2 _ _ (0, 0) hq
                      have f0 := Gn.frozen_row hq 0
                      have f1 := Gn.frozen_row hq 1
                      have f2 := Gn.frozen_row hq 2
                      have HNB := Lib.hid (show NewBoxD wr (((w3.setCell ⟨wr.heap.size, 0, none⟩ (.string mn)).setCell ⟨wr.heap.size, 1, none⟩ (.int .i64 mr)).setCell ⟨wr.heap.size, 2, none⟩ (.int .i64 mq)) wr.heap.size ⟨mn, mr, mq⟩ from (NewBoxD.early ⟨mn, mr, mq⟩ HBB.out hq).drew)
                      clear hq
                      have HBW := Lib.hid (((Gn.below_drew (Below.refl _ _)).trans (((Below.refl _ _).alloc (Nat.le_refl _) _).mono (Nat.le_refl _))).trans (hb3.mono (by simp)))
                      clear hb3
                      refine hK.out _ _ (HSQ.out _ HBW.out) (fun hHeld => ?_)
                      clear hK K
                      try simp only [Act.put, List.setIfInBounds_toArray, List.set_cons_zero, List.set_cons_succ]
                      refine wpAnyH_take (i := 7) (v := ?_) rfl (by kernel_rfl) (by kernel_rfl) (by kernel_rfl) (fun _ _ _ h => h) (Or.inl ⟨by rfl, ?_⟩) (by assumption) ?_
                      rotate_left
                      · intro w hSw
                        try dsimp only at hSw
                        go_simp
                        try with_reducible rfl
                      try simp only [Act.put, List.setIfInBounds_toArray, List.set_cons_zero, List.set_cons_succ]
                      refine wpAnyH_take (i := 8) (v := ?_) rfl (by kernel_rfl) (by kernel_rfl) (by kernel_rfl) (fun _ _ _ h => h) (Or.inl ⟨by rfl, ?_⟩) (by assumption) ?_
                      rotate_left
                      · intro w hSw
                        try dsimp only at hSw
                        go_simp
                        try with_reducible rfl
                      try simp only [Act.put, List.setIfInBounds_toArray, List.set_cons_zero, List.set_cons_succ]
                      refine wpAnyH_take (i := 9) (v := ?_) rfl (by kernel_rfl) (by kernel_rfl) (by kernel_rfl) (fun _ _ _ h => h) (Or.inl ⟨by rfl, ?_⟩) (by assumption) ?_
                      rotate_left
                      · intro w hSw
                        try dsimp only at hSw
                        go_simp
                        try with_reducible rfl
                      try simp only [Act.put, List.setIfInBounds_toArray, List.set_cons_zero, List.set_cons_succ]
                      refine wpAnyH_ready (rs := [11]) (by kernel_rfl) (by simp) ?_
                      refine AllReadyH.cons rfl (fun K hK => ?_) AllReadyH.nil
                      go_simp
                      refine hK.out _ _ (HSQ.out _ HNB.out.1) (fun hHeld => ?_)
                      clear hK K
                      try simp only [Act.put, List.setIfInBounds_toArray, List.set_cons_zero, List.set_cons_succ]
                      refine wpAnyH_take (i := 12) (v := ?_) rfl (by kernel_rfl) (by kernel_rfl) (by kernel_rfl) (fun _ _ _ h => h) (Or.inl ⟨by rfl, ?_⟩) (by assumption) ?_
                      rotate_left
                      · intro w hSw
                        try dsimp only at hSw
                        go_simp
                        try with_reducible rfl
                      try simp only [Act.put, List.setIfInBounds_toArray, List.set_cons_zero, List.set_cons_succ]
                      refine wpAnyH_done (by kernel_rfl) ?_ _
                      refine NoPanic.normal ?_
                      go_wp2_with fail
                      go_meet
                      case rel => exact ⟨_, rfl, rfl, HNB.out⟩
                  case rest =>
                    obtain ⟨q, rfl, rfl, hbox⟩ := hcut
                    have hbw : Below wr.heap.size wr wc := hbox.1
                    have hbx := hbox.2
                    have HWC := Lib.hid (HBZ.out.trans (hbw.mono HBZ.out.size))
                    have HC3 := Lib.hid (fun (w : World) (b : Below wc.heap.size wc w) => (⟨cell_of_row _ _ 1 _ _ (0, 0) ((b.block _ (Gn.heap_lt hbx)).trans hbx), cell_of_row _ _ 2 _ _ (0, 0) (((hbw.trans (b.mono hbw.size)).block _ (Gn.heap_lt HM0Z.out)).trans HM0Z.out), ((hbw.trans (b.mono hbw.size)).cell (p := ⟨b8, z, none⟩) HB8.out).trans HK0.out⟩ : w.cell? ⟨q, 1, none⟩ = some (.int .i64 mr) ∧ w.cell? ⟨wo.heap.size, 2, none⟩ = some (.slice (some ⟨b8, 0, none⟩) sl c7) ∧ w.cell? ⟨b8, z, none⟩ = some (.string sn)))
                    have HPW := Lib.hid (fun (h0 : 0 < z) (w : World) (b : Below wc.heap.size wc w) => ((hbw.trans (b.mono hbw.size)).cell (p := ⟨b8, z - 1, none⟩) HB8.out).trans (HPZ.out h0))
                    have HTZ := Lib.hid (HTW.out.trans (HWC.out.mono HTW.out.size))
                    have hw1 : IntKind.i64.wrap ((z : Int) + 1) = ((z + 1 : Nat) : Int) := by exact IntWalk.i64_in _ (by omega)
                    clear hbox hbw hbx
                    go_upto_region 18 with fail
                    by_cases d1 : mr = 1
                    · have e1 := decide_eq_true d1
                      by_cases d0 : z = 0
                      · have HN := Lib.hid (HSOK.out (by rw [e1, decide_eq_true d0]; rfl))
                        have d0' : ¬ (0 : Int) < (z : Int) := by omega
                        have d0n : ¬ 0 < z := by omega
                        clear e1
                        refine LooseD.region_loose (fun w => Below wc.heap.size wc w) _ _ (by kernel_rfl) (by kernel_rfl)
                          (LooseD.waits (D := [[], [], [], [], [], [], [], [], [], [], [], [], [], [], [], [], [], [], [], [], []]) (by kernel_rfl))
                          (LooseD.stays (ts := [none, none, none, none, none, none, none, none, none, none, none, none, none, none, none, none, none, none, none, none, none]) (fun w w' h b => h.trans (b.mono h.size)) (.none (.none (.none (.none (.none (.none (.none (.none (.none (.none (.none (.none (.none (.none (.none (.none (.none (.none (.none (.none (.none .nil))))))))))))))))))))))
                          (Gn.below_drew (Below.refl _ _)) ?_
                        refine LooseD.reads (.pointer (some ⟨q, 1, none⟩)) rfl rfl ?_ ?_
                        · intro w hw
                          obtain ⟨y0, y1, y2⟩ := HC3.out w hw
                          clear hw
                          go_simp
                        try simp only [Act.put, List.setIfInBounds_toArray, List.set_cons_zero, List.set_cons_succ]
                        refine LooseD.reads (.int .i64 mr) rfl rfl ?_ ?_
                        · intro w hw
                          obtain ⟨y0, y1, y2⟩ := HC3.out w hw
                          clear hw
                          go_simp
                        try simp only [Act.put, List.setIfInBounds_toArray, List.set_cons_zero, List.set_cons_succ]
                        refine LooseD.reads (.bool false) rfl rfl ?_ ?_
                        · intro w hw
                          obtain ⟨y0, y1, y2⟩ := HC3.out w hw
                          clear hw
                          go_simp
                        try simp only [Act.put, List.setIfInBounds_toArray, List.set_cons_zero, List.set_cons_succ]
                        refine LooseD.reads (.bool false) rfl rfl ?_ ?_
                        · intro w hw
                          obtain ⟨y0, y1, y2⟩ := HC3.out w hw
                          clear hw
                          go_simp
                        try simp only [Act.put, List.setIfInBounds_toArray, List.set_cons_zero, List.set_cons_succ]
                        refine LooseD.reads (.int .i64 z) rfl rfl ?_ ?_
                        · intro w hw
                          obtain ⟨y0, y1, y2⟩ := HC3.out w hw
                          clear hw
                          go_simp
                        try simp only [Act.put, List.setIfInBounds_toArray, List.set_cons_zero, List.set_cons_succ]
                        refine LooseD.reads (.bool false) rfl rfl ?_ ?_
                        · intro w hw
                          obtain ⟨y0, y1, y2⟩ := HC3.out w hw
                          clear hw
                          go_simp
                        try simp only [Act.put, List.setIfInBounds_toArray, List.set_cons_zero, List.set_cons_succ]
                        refine LooseD.reads (.bool false) rfl rfl ?_ ?_
                        · intro w hw
                          obtain ⟨y0, y1, y2⟩ := HC3.out w hw
                          clear hw
                          go_simp
                        try simp only [Act.put, List.setIfInBounds_toArray, List.set_cons_zero, List.set_cons_succ]
                        refine LooseD.unwanted rfl ?_
                        try simp only [Act.put, List.setIfInBounds_toArray, List.set_cons_zero, List.set_cons_succ]
                        refine LooseD.unwanted rfl ?_
                        try simp only [Act.put, List.setIfInBounds_toArray, List.set_cons_zero, List.set_cons_succ]
                        refine LooseD.unwanted rfl ?_
                        try simp only [Act.put, List.setIfInBounds_toArray, List.set_cons_zero, List.set_cons_succ]
                        refine LooseD.unwanted rfl ?_
                        try simp only [Act.put, List.setIfInBounds_toArray, List.set_cons_zero, List.set_cons_succ]
                        refine LooseD.unwanted rfl ?_
                        try simp only [Act.put, List.setIfInBounds_toArray, List.set_cons_zero, List.set_cons_succ]
                        refine LooseD.unwanted rfl ?_
                        try simp only [Act.put, List.setIfInBounds_toArray, List.set_cons_zero, List.set_cons_succ]
                        refine LooseD.unwanted rfl ?_
                        try simp only [Act.put, List.setIfInBounds_toArray, List.set_cons_zero, List.set_cons_succ]
                        refine LooseD.unwanted rfl ?_
                        try simp only [Act.put, List.setIfInBounds_toArray, List.set_cons_zero, List.set_cons_succ]
                        refine LooseD.unwanted rfl ?_
                        try simp only [Act.put, List.setIfInBounds_toArray, List.set_cons_zero, List.set_cons_succ]
                        refine LooseD.unwanted rfl ?_
                        try simp only [Act.put, List.setIfInBounds_toArray, List.set_cons_zero, List.set_cons_succ]
                        refine LooseD.unwanted rfl ?_
                        try simp only [Act.put, List.setIfInBounds_toArray, List.set_cons_zero, List.set_cons_succ]
                        refine LooseD.unwanted rfl ?_
                        try simp only [Act.put, List.setIfInBounds_toArray, List.set_cons_zero, List.set_cons_succ]
                        refine LooseD.reads (.bool false) rfl rfl ?_ ?_
                        · intro w hw
                          obtain ⟨y0, y1, y2⟩ := HC3.out w hw
                          clear hw
                          go_simp
                        try simp only [Act.put, List.setIfInBounds_toArray, List.set_cons_zero, List.set_cons_succ]
                        refine LooseD.reads (.bool false) rfl rfl ?_ ?_
                        · intro w hw
                          obtain ⟨y0, y1, y2⟩ := HC3.out w hw
                          clear hw
                          go_simp
                        try simp only [Act.put, List.setIfInBounds_toArray, List.set_cons_zero, List.set_cons_succ]
                        refine LooseD.done fun w' hw' _ => ?_
                        have HW3 := Lib.hid hw'
                        clear hw'
                        go_wp2_with fail
                        go_roundw
                        case rel => exact ⟨z + 1, by omega, by go_num, HWC.out.trans (HW3.out.mono HWC.out.size), HN.out⟩
                        case measure => simp [intOf]; omega
                      · have d0' : (0 : Int) < (z : Int) := by omega
                        have d0n : 0 < z := by omega
                        have HPP := Lib.hid (HPW.out d0n)
                        have hw2z : IntKind.i64.wrap ((z : Int) - 1) = ((z - 1 : Nat) : Int) := by
                          rw [show (z : Int) - 1 = ((z - 1 : Nat) : Int) by omega]; exact IntWalk.i64_in _ (by omega)
                        have hw3z : ((z - 1 : Nat) : Int) < (sl : Int) := by omega
                        have hl := (show Op.bytesLess sp.toList sn.toList = decide (cmpN sp sn < 0) by rw [less_cmp, Lib.toList_data, Lib.toList_data]; rfl)
                        have hq : ∀ w, (binOp .geq 9 (.string sp) (.string sn)).run Try.prog w = .ok (.bool (!Op.bytesLess sp.toList sn.toList)) w := fun w => by first | rfl | kernel_rfl
                        simp only [hl] at hq
                        by_cases d5 : cmpN sp sn < 0
                        · have HN := Lib.hid (HSOK.out (by rw [e1, decide_eq_true d5]; simp))
                          simp only [decide_eq_true d5] at hq
                          have HQZ := Lib.hid (show ∀ w, (binOp .geq 9 (.string sp) (.string sn)).run Try.prog w = .ok (.bool false) w from hq)
                          clear e1 hl d5 hq
                          refine LooseD.region_loose (fun w => Below wc.heap.size wc w) _ _ (by kernel_rfl) (by kernel_rfl)
                            (LooseD.waits (D := [[], [], [], [], [], [], [], [], [], [], [], [], [], [], [], [], [], [], [], [], []]) (by kernel_rfl))
                            (LooseD.stays (ts := [none, none, none, none, none, none, none, none, none, none, none, none, none, none, none, none, none, none, none, none, none]) (fun w w' h b => h.trans (b.mono h.size)) (.none (.none (.none (.none (.none (.none (.none (.none (.none (.none (.none (.none (.none (.none (.none (.none (.none (.none (.none (.none (.none .nil))))))))))))))))))))))
                            (Gn.below_drew (Below.refl _ _)) ?_
                          refine LooseD.reads (.pointer (some ⟨q, 1, none⟩)) rfl rfl ?_ ?_
                          · intro w hw
                            obtain ⟨y0, y1, y2⟩ := HC3.out w hw
                            clear hw
                            go_simp
                          try simp only [Act.put, List.setIfInBounds_toArray, List.set_cons_zero, List.set_cons_succ]
                          refine LooseD.reads (.int .i64 mr) rfl rfl ?_ ?_
                          · intro w hw
                            obtain ⟨y0, y1, y2⟩ := HC3.out w hw
                            clear hw
                            go_simp
                          try simp only [Act.put, List.setIfInBounds_toArray, List.set_cons_zero, List.set_cons_succ]
                          refine LooseD.reads (.bool false) rfl rfl ?_ ?_
                          · intro w hw
                            obtain ⟨y0, y1, y2⟩ := HC3.out w hw
                            clear hw
                            go_simp
                          try simp only [Act.put, List.setIfInBounds_toArray, List.set_cons_zero, List.set_cons_succ]
                          refine LooseD.reads (.bool false) rfl rfl ?_ ?_
                          · intro w hw
                            obtain ⟨y0, y1, y2⟩ := HC3.out w hw
                            clear hw
                            go_simp
                          try simp only [Act.put, List.setIfInBounds_toArray, List.set_cons_zero, List.set_cons_succ]
                          refine LooseD.reads (.int .i64 z) rfl rfl ?_ ?_
                          · intro w hw
                            obtain ⟨y0, y1, y2⟩ := HC3.out w hw
                            clear hw
                            go_simp
                          try simp only [Act.put, List.setIfInBounds_toArray, List.set_cons_zero, List.set_cons_succ]
                          refine LooseD.reads (.bool true) rfl rfl ?_ ?_
                          · intro w hw
                            obtain ⟨y0, y1, y2⟩ := HC3.out w hw
                            clear hw
                            go_simp
                          try simp only [Act.put, List.setIfInBounds_toArray, List.set_cons_zero, List.set_cons_succ]
                          refine LooseD.reads (.bool true) rfl rfl ?_ ?_
                          · intro w hw
                            obtain ⟨y0, y1, y2⟩ := HC3.out w hw
                            clear hw
                            go_simp
                          try simp only [Act.put, List.setIfInBounds_toArray, List.set_cons_zero, List.set_cons_succ]
                          refine LooseD.reads (.pointer (some ⟨wo.heap.size, 2, none⟩)) rfl rfl ?_ ?_
                          · intro w hw
                            obtain ⟨y0, y1, y2⟩ := HC3.out w hw
                            clear hw
                            go_simp
                          try simp only [Act.put, List.setIfInBounds_toArray, List.set_cons_zero, List.set_cons_succ]
                          refine LooseD.reads (.slice (some ⟨b8, 0, none⟩) sl c7) rfl rfl ?_ ?_
                          · intro w hw
                            obtain ⟨y0, y1, y2⟩ := HC3.out w hw
                            clear hw
                            go_simp
                          try simp only [Act.put, List.setIfInBounds_toArray, List.set_cons_zero, List.set_cons_succ]
                          refine LooseD.reads (.int .i64 z) rfl rfl ?_ ?_
                          · intro w hw
                            obtain ⟨y0, y1, y2⟩ := HC3.out w hw
                            clear hw
                            go_simp
                          try simp only [Act.put, List.setIfInBounds_toArray, List.set_cons_zero, List.set_cons_succ]
                          refine LooseD.reads (.int .i64 (z - 1 : Nat)) rfl rfl ?_ ?_
                          · intro w hw
                            obtain ⟨y0, y1, y2⟩ := HC3.out w hw
                            clear hw
                            go_simp
                          try simp only [Act.put, List.setIfInBounds_toArray, List.set_cons_zero, List.set_cons_succ]
                          refine LooseD.reads (.pointer (some ⟨b8, z - 1, none⟩)) rfl rfl ?_ ?_
                          · intro w hw
                            obtain ⟨y0, y1, y2⟩ := HC3.out w hw
                            clear hw
                            go_simp
                          try simp only [Act.put, List.setIfInBounds_toArray, List.set_cons_zero, List.set_cons_succ]
                          refine LooseD.reads (.string sp) rfl rfl ?_ ?_
                          · intro w hw
                            obtain ⟨y0, y1, y2⟩ := HC3.out w hw
                            have z1 := HPP.out w hw
                            clear hw
                            go_simp
                          try simp only [Act.put, List.setIfInBounds_toArray, List.set_cons_zero, List.set_cons_succ]
                          refine LooseD.reads (.pointer (some ⟨wo.heap.size, 2, none⟩)) rfl rfl ?_ ?_
                          · intro w hw
                            obtain ⟨y0, y1, y2⟩ := HC3.out w hw
                            clear hw
                            go_simp
                          try simp only [Act.put, List.setIfInBounds_toArray, List.set_cons_zero, List.set_cons_succ]
                          refine LooseD.reads (.slice (some ⟨b8, 0, none⟩) sl c7) rfl rfl ?_ ?_
                          · intro w hw
                            obtain ⟨y0, y1, y2⟩ := HC3.out w hw
                            clear hw
                            go_simp
                          try simp only [Act.put, List.setIfInBounds_toArray, List.set_cons_zero, List.set_cons_succ]
                          refine LooseD.reads (.int .i64 z) rfl rfl ?_ ?_
                          · intro w hw
                            obtain ⟨y0, y1, y2⟩ := HC3.out w hw
                            clear hw
                            go_simp
                          try simp only [Act.put, List.setIfInBounds_toArray, List.set_cons_zero, List.set_cons_succ]
                          refine LooseD.reads (.pointer (some ⟨b8, z, none⟩)) rfl rfl ?_ ?_
                          · intro w hw
                            obtain ⟨y0, y1, y2⟩ := HC3.out w hw
                            clear hw
                            go_simp
                          try simp only [Act.put, List.setIfInBounds_toArray, List.set_cons_zero, List.set_cons_succ]
                          refine LooseD.reads (.string sn) rfl rfl ?_ ?_
                          · intro w hw
                            obtain ⟨y0, y1, y2⟩ := HC3.out w hw
                            clear hw
                            go_simp
                          try simp only [Act.put, List.setIfInBounds_toArray, List.set_cons_zero, List.set_cons_succ]
                          refine LooseD.reads (.bool false) rfl rfl ?_ ?_
                          · intro w hw
                            obtain ⟨y0, y1, y2⟩ := HC3.out w hw
                            have z1 := HQZ.out w
                            clear hw
                            go_simp
                          try simp only [Act.put, List.setIfInBounds_toArray, List.set_cons_zero, List.set_cons_succ]
                          refine LooseD.reads (.bool false) rfl rfl ?_ ?_
                          · intro w hw
                            obtain ⟨y0, y1, y2⟩ := HC3.out w hw
                            clear hw
                            go_simp
                          try simp only [Act.put, List.setIfInBounds_toArray, List.set_cons_zero, List.set_cons_succ]
                          refine LooseD.reads (.bool false) rfl rfl ?_ ?_
                          · intro w hw
                            obtain ⟨y0, y1, y2⟩ := HC3.out w hw
                            clear hw
                            go_simp
                          try simp only [Act.put, List.setIfInBounds_toArray, List.set_cons_zero, List.set_cons_succ]
                          refine LooseD.done fun w' hw' _ => ?_
                          have HW3 := Lib.hid hw'
                          clear hw'
                          go_wp2_with fail
                          go_roundw
                          case rel => exact ⟨z + 1, by omega, by go_num, HWC.out.trans (HW3.out.mono HWC.out.size), HN.out⟩
                          case measure => simp [intOf]; omega
                        · have HF := Lib.hid (HSBAD.out (by rw [decide_eq_false d0, decide_eq_false d5]; simp))
                          simp only [decide_eq_false d5] at hq
                          have HQZ := Lib.hid (show ∀ w, (binOp .geq 9 (.string sp) (.string sn)).run Try.prog w = .ok (.bool true) w from hq)
                          clear e1 hl d5 hq
                          refine LooseD.region_loose (fun w => Below wc.heap.size wc w) _ _ (by kernel_rfl) (by kernel_rfl)
                            (LooseD.waits (D := [[], [], [], [], [], [], [], [], [], [], [], [], [], [], [], [], [], [], [], [], []]) (by kernel_rfl))
                            (LooseD.stays (ts := [none, none, none, none, none, none, none, none, none, none, none, none, none, none, none, none, none, none, none, none, none]) (fun w w' h b => h.trans (b.mono h.size)) (.none (.none (.none (.none (.none (.none (.none (.none (.none (.none (.none (.none (.none (.none (.none (.none (.none (.none (.none (.none (.none .nil))))))))))))))))))))))
                            (Gn.below_drew (Below.refl _ _)) ?_
                          refine LooseD.reads (.pointer (some ⟨q, 1, none⟩)) rfl rfl ?_ ?_
                          · intro w hw
                            obtain ⟨y0, y1, y2⟩ := HC3.out w hw
                            clear hw
                            go_simp
                          try simp only [Act.put, List.setIfInBounds_toArray, List.set_cons_zero, List.set_cons_succ]
                          refine LooseD.reads (.int .i64 mr) rfl rfl ?_ ?_
                          · intro w hw
                            obtain ⟨y0, y1, y2⟩ := HC3.out w hw
                            clear hw
                            go_simp
                          try simp only [Act.put, List.setIfInBounds_toArray, List.set_cons_zero, List.set_cons_succ]
                          refine LooseD.reads (.bool false) rfl rfl ?_ ?_
                          · intro w hw
                            obtain ⟨y0, y1, y2⟩ := HC3.out w hw
                            clear hw
                            go_simp
                          try simp only [Act.put, List.setIfInBounds_toArray, List.set_cons_zero, List.set_cons_succ]
                          refine LooseD.reads (.bool false) rfl rfl ?_ ?_
                          · intro w hw
                            obtain ⟨y0, y1, y2⟩ := HC3.out w hw
                            clear hw
                            go_simp
                          try simp only [Act.put, List.setIfInBounds_toArray, List.set_cons_zero, List.set_cons_succ]
                          refine LooseD.reads (.int .i64 z) rfl rfl ?_ ?_
                          · intro w hw
                            obtain ⟨y0, y1, y2⟩ := HC3.out w hw
                            clear hw
                            go_simp
                          try simp only [Act.put, List.setIfInBounds_toArray, List.set_cons_zero, List.set_cons_succ]
                          refine LooseD.reads (.bool true) rfl rfl ?_ ?_
                          · intro w hw
                            obtain ⟨y0, y1, y2⟩ := HC3.out w hw
                            clear hw
                            go_simp
                          try simp only [Act.put, List.setIfInBounds_toArray, List.set_cons_zero, List.set_cons_succ]
                          refine LooseD.reads (.bool true) rfl rfl ?_ ?_
                          · intro w hw
                            obtain ⟨y0, y1, y2⟩ := HC3.out w hw
                            clear hw
                            go_simp
                          try simp only [Act.put, List.setIfInBounds_toArray, List.set_cons_zero, List.set_cons_succ]
                          refine LooseD.reads (.pointer (some ⟨wo.heap.size, 2, none⟩)) rfl rfl ?_ ?_
                          · intro w hw
                            obtain ⟨y0, y1, y2⟩ := HC3.out w hw
                            clear hw
                            go_simp
                          try simp only [Act.put, List.setIfInBounds_toArray, List.set_cons_zero, List.set_cons_succ]
                          refine LooseD.reads (.slice (some ⟨b8, 0, none⟩) sl c7) rfl rfl ?_ ?_
                          · intro w hw
                            obtain ⟨y0, y1, y2⟩ := HC3.out w hw
                            clear hw
                            go_simp
                          try simp only [Act.put, List.setIfInBounds_toArray, List.set_cons_zero, List.set_cons_succ]
                          refine LooseD.reads (.int .i64 z) rfl rfl ?_ ?_
                          · intro w hw
                            obtain ⟨y0, y1, y2⟩ := HC3.out w hw
                            clear hw
                            go_simp
                          try simp only [Act.put, List.setIfInBounds_toArray, List.set_cons_zero, List.set_cons_succ]
                          refine LooseD.reads (.int .i64 (z - 1 : Nat)) rfl rfl ?_ ?_
                          · intro w hw
                            obtain ⟨y0, y1, y2⟩ := HC3.out w hw
                            clear hw
                            go_simp
                          try simp only [Act.put, List.setIfInBounds_toArray, List.set_cons_zero, List.set_cons_succ]
                          refine LooseD.reads (.pointer (some ⟨b8, z - 1, none⟩)) rfl rfl ?_ ?_
                          · intro w hw
                            obtain ⟨y0, y1, y2⟩ := HC3.out w hw
                            clear hw
                            go_simp
                          try simp only [Act.put, List.setIfInBounds_toArray, List.set_cons_zero, List.set_cons_succ]
                          refine LooseD.reads (.string sp) rfl rfl ?_ ?_
                          · intro w hw
                            obtain ⟨y0, y1, y2⟩ := HC3.out w hw
                            have z1 := HPP.out w hw
                            clear hw
                            go_simp
                          try simp only [Act.put, List.setIfInBounds_toArray, List.set_cons_zero, List.set_cons_succ]
                          refine LooseD.reads (.pointer (some ⟨wo.heap.size, 2, none⟩)) rfl rfl ?_ ?_
                          · intro w hw
                            obtain ⟨y0, y1, y2⟩ := HC3.out w hw
                            clear hw
                            go_simp
                          try simp only [Act.put, List.setIfInBounds_toArray, List.set_cons_zero, List.set_cons_succ]
                          refine LooseD.reads (.slice (some ⟨b8, 0, none⟩) sl c7) rfl rfl ?_ ?_
                          · intro w hw
                            obtain ⟨y0, y1, y2⟩ := HC3.out w hw
                            clear hw
                            go_simp
                          try simp only [Act.put, List.setIfInBounds_toArray, List.set_cons_zero, List.set_cons_succ]
                          refine LooseD.reads (.int .i64 z) rfl rfl ?_ ?_
                          · intro w hw
                            obtain ⟨y0, y1, y2⟩ := HC3.out w hw
                            clear hw
                            go_simp
                          try simp only [Act.put, List.setIfInBounds_toArray, List.set_cons_zero, List.set_cons_succ]
                          refine LooseD.reads (.pointer (some ⟨b8, z, none⟩)) rfl rfl ?_ ?_
                          · intro w hw
                            obtain ⟨y0, y1, y2⟩ := HC3.out w hw
                            clear hw
                            go_simp
                          try simp only [Act.put, List.setIfInBounds_toArray, List.set_cons_zero, List.set_cons_succ]
                          refine LooseD.reads (.string sn) rfl rfl ?_ ?_
                          · intro w hw
                            obtain ⟨y0, y1, y2⟩ := HC3.out w hw
                            clear hw
                            go_simp
                          try simp only [Act.put, List.setIfInBounds_toArray, List.set_cons_zero, List.set_cons_succ]
                          refine LooseD.reads (.bool true) rfl rfl ?_ ?_
                          · intro w hw
                            obtain ⟨y0, y1, y2⟩ := HC3.out w hw
                            have z1 := HQZ.out w
                            clear hw
                            go_simp
                          try simp only [Act.put, List.setIfInBounds_toArray, List.set_cons_zero, List.set_cons_succ]
                          refine LooseD.reads (.bool true) rfl rfl ?_ ?_
                          · intro w hw
                            obtain ⟨y0, y1, y2⟩ := HC3.out w hw
                            clear hw
                            go_simp
                          try simp only [Act.put, List.setIfInBounds_toArray, List.set_cons_zero, List.set_cons_succ]
                          refine LooseD.reads (.bool true) rfl rfl ?_ ?_
                          · intro w hw
                            obtain ⟨y0, y1, y2⟩ := HC3.out w hw
                            clear hw
                            go_simp
                          try simp only [Act.put, List.setIfInBounds_toArray, List.set_cons_zero, List.set_cons_succ]
                          refine LooseD.done fun w' hw' _ => ?_
                          have HW3 := Lib.hid hw'
                          clear hw'
                          go_wp2_with fail
                          go_ret
                          exact ⟨by rw [HF.out]; rfl, HTZ.out.trans (HW3.out.mono HTZ.out.size)⟩
                    · have HF := Lib.hid (HSBAD.out (by rw [decide_eq_false d1]; simp))
                      refine LooseD.region_loose (fun w => Below wc.heap.size wc w) _ _ (by kernel_rfl) (by kernel_rfl)
                        (LooseD.waits (D := [[], [], [], [], [], [], [], [], [], [], [], [], [], [], [], [], [], [], [], [], []]) (by kernel_rfl))
                        (LooseD.stays (ts := [none, none, none, none, none, none, none, none, none, none, none, none, none, none, none, none, none, none, none, none, none]) (fun w w' h b => h.trans (b.mono h.size)) (.none (.none (.none (.none (.none (.none (.none (.none (.none (.none (.none (.none (.none (.none (.none (.none (.none (.none (.none (.none (.none .nil))))))))))))))))))))))
                        (Gn.below_drew (Below.refl _ _)) ?_
                      refine LooseD.reads (.pointer (some ⟨q, 1, none⟩)) rfl rfl ?_ ?_
                      · intro w hw
                        obtain ⟨y0, y1, y2⟩ := HC3.out w hw
                        clear hw
                        go_simp
                      try simp only [Act.put, List.setIfInBounds_toArray, List.set_cons_zero, List.set_cons_succ]
                      refine LooseD.reads (.int .i64 mr) rfl rfl ?_ ?_
                      · intro w hw
                        obtain ⟨y0, y1, y2⟩ := HC3.out w hw
                        clear hw
                        go_simp
                      try simp only [Act.put, List.setIfInBounds_toArray, List.set_cons_zero, List.set_cons_succ]
                      refine LooseD.reads (.bool true) rfl rfl ?_ ?_
                      · intro w hw
                        obtain ⟨y0, y1, y2⟩ := HC3.out w hw
                        clear hw
                        go_simp
                      try simp only [Act.put, List.setIfInBounds_toArray, List.set_cons_zero, List.set_cons_succ]
                      refine LooseD.reads (.bool true) rfl rfl ?_ ?_
                      · intro w hw
                        obtain ⟨y0, y1, y2⟩ := HC3.out w hw
                        clear hw
                        go_simp
                      try simp only [Act.put, List.setIfInBounds_toArray, List.set_cons_zero, List.set_cons_succ]
                      refine LooseD.unwanted rfl ?_
                      try simp only [Act.put, List.setIfInBounds_toArray, List.set_cons_zero, List.set_cons_succ]
                      refine LooseD.unwanted rfl ?_
                      try simp only [Act.put, List.setIfInBounds_toArray, List.set_cons_zero, List.set_cons_succ]
                      refine LooseD.unwanted rfl ?_
                      try simp only [Act.put, List.setIfInBounds_toArray, List.set_cons_zero, List.set_cons_succ]
                      refine LooseD.unwanted rfl ?_
                      try simp only [Act.put, List.setIfInBounds_toArray, List.set_cons_zero, List.set_cons_succ]
                      refine LooseD.unwanted rfl ?_
                      try simp only [Act.put, List.setIfInBounds_toArray, List.set_cons_zero, List.set_cons_succ]
                      refine LooseD.unwanted rfl ?_
                      try simp only [Act.put, List.setIfInBounds_toArray, List.set_cons_zero, List.set_cons_succ]
                      refine LooseD.unwanted rfl ?_
                      try simp only [Act.put, List.setIfInBounds_toArray, List.set_cons_zero, List.set_cons_succ]
                      refine LooseD.unwanted rfl ?_
                      try simp only [Act.put, List.setIfInBounds_toArray, List.set_cons_zero, List.set_cons_succ]
                      refine LooseD.unwanted rfl ?_
                      try simp only [Act.put, List.setIfInBounds_toArray, List.set_cons_zero, List.set_cons_succ]
                      refine LooseD.unwanted rfl ?_
                      try simp only [Act.put, List.setIfInBounds_toArray, List.set_cons_zero, List.set_cons_succ]
                      refine LooseD.unwanted rfl ?_
                      try simp only [Act.put, List.setIfInBounds_toArray, List.set_cons_zero, List.set_cons_succ]
                      refine LooseD.unwanted rfl ?_
                      try simp only [Act.put, List.setIfInBounds_toArray, List.set_cons_zero, List.set_cons_succ]
                      refine LooseD.unwanted rfl ?_
                      try simp only [Act.put, List.setIfInBounds_toArray, List.set_cons_zero, List.set_cons_succ]
                      refine LooseD.unwanted rfl ?_
                      try simp only [Act.put, List.setIfInBounds_toArray, List.set_cons_zero, List.set_cons_succ]
                      refine LooseD.unwanted rfl ?_
                      try simp only [Act.put, List.setIfInBounds_toArray, List.set_cons_zero, List.set_cons_succ]
                      refine LooseD.unwanted rfl ?_
                      try simp only [Act.put, List.setIfInBounds_toArray, List.set_cons_zero, List.set_cons_succ]
                      refine LooseD.reads (.bool true) rfl rfl ?_ ?_
                      · intro w hw
                        obtain ⟨y0, y1, y2⟩ := HC3.out w hw
                        clear hw
                        go_simp
                      try simp only [Act.put, List.setIfInBounds_toArray, List.set_cons_zero, List.set_cons_succ]
                      refine LooseD.done fun w' hw' _ => ?_
                      have HW3 := Lib.hid hw'
                      clear hw'
                      go_wp2_with fail
                      go_ret
                      exact ⟨by rw [HF.out]; rfl, HTZ.out.trans (HW3.out.mono HTZ.out.size)⟩
                · have hzs2 : ¬ (z : Int) < (sl : Int) := by omega
                  have HN := Lib.hid (HCGOOD.out (by
                    rw [HPRE.out, Bool.true_and]
                    exact List.all_eq_true.2 fun j hj => HALLZ.out j (by have := List.mem_range.1 hj; omega)))
                  clear hb hxz
                  go_wp2_with fail
                  go_roundw
                  case rel => exact ⟨i + 1, by omega, by go_num, HTV.out.trans (HBZ.out.mono HTV.out.size), HN.out⟩
                  case measure => simp [intOf]; omega
        · have him2 : ¬ (i : Int) < (m : Int) := by omega
          have HT := Lib.hid (show B = true from HBO.out HALLM.out fun j hj => HALL.out j (by omega))
          go_wp2_with fail
          go_ret
          exact ⟨by rw [HT.out]; rfl, HB.out.trans (HBI.out.mono HB.out.size)⟩
end Go.Proofs.Ytnmhgjoofgmcgaa.Rl
