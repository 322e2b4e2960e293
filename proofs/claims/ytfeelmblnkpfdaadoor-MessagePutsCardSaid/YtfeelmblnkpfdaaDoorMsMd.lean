/-
  Layer 23: the laws' messages: a raw one as two.
-/
import Derived.Test.YtfeelmblnkpfdaaDoorMsMm
namespace Go.Proofs.YtfeelmblnkpfdaaDoor.Ms
open Go.RowKit
set_option maxRecDepth 100000
set_option linter.unusedSimpArgs false
set_option linter.unusedVariables false

set_option maxHeartbeats 64000000 in
theorem made_any (m : Msg) (v : Value) (w : World) (hv : RawAt w m v) (hn : m.known.length ≤ 1000) (hnn : m.ents.length ≤ 1000) :
    Calls Tryd.prog 8 #[v] w (MadeT m w) := by
  obtain ⟨i0, hi0, hz0, hz1, hz2⟩ := info_split ent_info
  obtain ⟨j0, hj0, hy0, hy1, hy2⟩ := info_split ref_info
  obtain ⟨a, cap, b, cap2, rfl, hi, he⟩ := hv
  obtain ⟨n, hkn⟩ : ∃ n, n = m.known.length := ⟨_, rfl⟩
  obtain ⟨nn, hke⟩ : ∃ n, n = m.ents.length := ⟨_, rfl⟩
  unfold cellsR
  rw [← hkn] at hi hn ⊢
  rw [← hke] at he hnn ⊢
  obtain ⟨W0, hW0⟩ : ∃ W, W = ((w.alloc (.cells #[.int .i64 m.kind, .int .i64 m.frm, .int .i64 m.born, .int .i64 m.view, .int .i64 m.last, .int .i64 m.op, .int .i64 m.commit, .int .i64 m.client, .int .i64 m.number, .int .i64 m.nonce, .int .i64 m.base, .slice a n cap, .string m.text, .bool m.full, .string m.state, .slice b nn cap2] 26)).alloc (.cells #[.int .i64 0, .int .i64 0, .int .i64 0, .slice none 0 0, .int .i64 0, .int .i64 0, .int .i64 0, .int .i64 0, .int .i64 0, .int .i64 0, .int .i64 0, .string ⟨#[]⟩, .bool false, .int .i64 0, .string ⟨#[]⟩, .slice none 0 0] 31)).alloc (.cells #[.int .i64 0, .int .i64 0, .int .i64 0, .slice none 0 0, .int .i64 0, .int .i64 0, .int .i64 0, .int .i64 0, .int .i64 0, .int .i64 0, .int .i64 0, .string ⟨#[]⟩, .bool false, .int .i64 0, .string ⟨#[]⟩, .slice none 0 0] 34) := ⟨_, rfl⟩
  have hb0 : Below w.heap.size w W0 := by rw [hW0]; exact (((Below.refl _ w).alloc (Nat.le_refl _) _).alloc (by simp) _).alloc (by simp; omega) _
  have hx0 : W0.heap[w.heap.size]? = some (.cells #[.int .i64 m.kind, .int .i64 m.frm, .int .i64 m.born, .int .i64 m.view, .int .i64 m.last, .int .i64 m.op, .int .i64 m.commit, .int .i64 m.client, .int .i64 m.number, .int .i64 m.nonce, .int .i64 m.base, .slice a n cap, .string m.text, .bool m.full, .string m.state, .slice b nn cap2] 26 (0, 0)) := by rw [hW0]; exact (heap_alloc_old _ _ (by simp; omega)).trans ((heap_alloc_old _ _ (by simp)).trans (heap_alloc_new w _))
  have hsz0 : W0.heap.size = w.heap.size + 3 := by rw [hW0]; simp
  have hp1 : W0.heap[w.heap.size + 1]? = some (.cells #[.int .i64 0, .int .i64 0, .int .i64 0, .slice none 0 0, .int .i64 0, .int .i64 0, .int .i64 0, .int .i64 0, .int .i64 0, .int .i64 0, .int .i64 0, .string ⟨#[]⟩, .bool false, .int .i64 0, .string ⟨#[]⟩, .slice none 0 0] 31 (0, 0)) := by
    rw [hW0]; refine (heap_alloc_old _ _ (by simp)).trans ?_
    have := heap_alloc_new (w.alloc (.cells #[.int .i64 m.kind, .int .i64 m.frm, .int .i64 m.born, .int .i64 m.view, .int .i64 m.last, .int .i64 m.op, .int .i64 m.commit, .int .i64 m.client, .int .i64 m.number, .int .i64 m.nonce, .int .i64 m.base, .slice a n cap, .string m.text, .bool m.full, .string m.state, .slice b nn cap2] 26)) (.cells #[.int .i64 0, .int .i64 0, .int .i64 0, .slice none 0 0, .int .i64 0, .int .i64 0, .int .i64 0, .int .i64 0, .int .i64 0, .int .i64 0, .int .i64 0, .string ⟨#[]⟩, .bool false, .int .i64 0, .string ⟨#[]⟩, .slice none 0 0] 31); simpa using this
  have hp2 : W0.heap[w.heap.size + 2]? = some (.cells #[.int .i64 0, .int .i64 0, .int .i64 0, .slice none 0 0, .int .i64 0, .int .i64 0, .int .i64 0, .int .i64 0, .int .i64 0, .int .i64 0, .int .i64 0, .string ⟨#[]⟩, .bool false, .int .i64 0, .string ⟨#[]⟩, .slice none 0 0] 34 (0, 0)) := by
    rw [hW0]
    have := heap_alloc_new ((w.alloc (.cells #[.int .i64 m.kind, .int .i64 m.frm, .int .i64 m.born, .int .i64 m.view, .int .i64 m.last, .int .i64 m.op, .int .i64 m.commit, .int .i64 m.client, .int .i64 m.number, .int .i64 m.nonce, .int .i64 m.base, .slice a n cap, .string m.text, .bool m.full, .string m.state, .slice b nn cap2] 26)).alloc (.cells #[.int .i64 0, .int .i64 0, .int .i64 0, .slice none 0 0, .int .i64 0, .int .i64 0, .int .i64 0, .int .i64 0, .int .i64 0, .int .i64 0, .int .i64 0, .string ⟨#[]⟩, .bool false, .int .i64 0, .string ⟨#[]⟩, .slice none 0 0] 31)) (.cells #[.int .i64 0, .int .i64 0, .int .i64 0, .slice none 0 0, .int .i64 0, .int .i64 0, .int .i64 0, .int .i64 0, .int .i64 0, .int .i64 0, .int .i64 0, .string ⟨#[]⟩, .bool false, .int .i64 0, .string ⟨#[]⟩, .slice none 0 0] 34); simpa using this
  obtain ⟨r1, hr1⟩ : ∃ q, q = w.heap.size + 1 := ⟨_, rfl⟩
  obtain ⟨r2, hr2⟩ : ∃ q, q = w.heap.size + 2 := ⟨_, rfl⟩
  rw [← hr1] at hp1
  rw [← hr2] at hp2
  obtain ⟨rb, hrb⟩ : ∃ q, q = w.heap.size := ⟨_, rfl⟩
  rw [← hrb] at hx0
  obtain ⟨nb, hnb⟩ : ∃ q, q = W0.heap.size := ⟨_, rfl⟩
  obtain ⟨W1, hW1⟩ : ∃ W, W = W0.alloc (.cells #[.int .i64 m.frm, .int .i64 m.born, .int .i64 m.view, .int .i64 m.last, .int .i64 m.op, .int .i64 m.commit, .int .i64 m.client, .int .i64 m.number, .int .i64 m.nonce, .int .i64 m.base] 22) := ⟨_, rfl⟩
  have hb1 : Below W0.heap.size W0 W1 := by rw [hW1]; exact (Below.refl _ _).alloc (Nat.le_refl _) _
  have hx1 : W1.heap[nb]? = some (.cells #[.int .i64 m.frm, .int .i64 m.born, .int .i64 m.view, .int .i64 m.last, .int .i64 m.op, .int .i64 m.commit, .int .i64 m.client, .int .i64 m.number, .int .i64 m.nonce, .int .i64 m.base] 22 (0, 0)) := by rw [hW1, hnb]; exact heap_alloc_new _ _
  have HI0 := Lib.hid hi
  have HI := Lib.hid (hi.under (hb0.trans (hb1.mono hb0.size)))
  have HE := Lib.hid (he.under (hb0.trans (hb1.mono hb0.size)))
  have HB := Lib.hid (hb0.trans (hb1.mono hb0.size))
  have HX0 := Lib.hid hx0
  have HX := Lib.hid ((hb1.block _ (Gn.heap_lt hx0)).trans hx0)
  have HP1 := Lib.hid ((hb1.block _ (Gn.heap_lt hp1)).trans hp1)
  have HP2 := Lib.hid ((hb1.block _ (Gn.heap_lt hp2)).trans hp2)
  have HN := Lib.hid hx1
  have HW0 := Lib.hid hW0
  have HW1 := Lib.hid hW1
  have HRB := Lib.hid hrb
  have HNB := Lib.hid hnb
  have HR1 := Lib.hid hr1
  have HR2 := Lib.hid hr2
  have HSZ := Lib.hid hsz0
  have HKN := Lib.hid hkn
  have HKE := Lib.hid hke
  clear hi he hb0 hb1 hx0 hx1 hW0 hW1 hrb hnb hsz0 hkn hke hp1 hp2 hr1 hr2
  go_enter Tryd.func8, Tryd.ntmps8
  go_upto_region 1 with fail
  rw [← HW0.out, ← HR2.out, ← HR1.out, ← HRB.out]
  have x1 := cell_of_row _ _ 1 _ _ (0, 0) HX0.out
  have x2 := cell_of_row _ _ 2 _ _ (0, 0) HX0.out
  have x3 := cell_of_row _ _ 3 _ _ (0, 0) HX0.out
  have x4 := cell_of_row _ _ 4 _ _ (0, 0) HX0.out
  have x5 := cell_of_row _ _ 5 _ _ (0, 0) HX0.out
  have x6 := cell_of_row _ _ 6 _ _ (0, 0) HX0.out
  have x7 := cell_of_row _ _ 7 _ _ (0, 0) HX0.out
  have x8 := cell_of_row _ _ 8 _ _ (0, 0) HX0.out
  have x9 := cell_of_row _ _ 9 _ _ (0, 0) HX0.out
  have x10 := cell_of_row _ _ 10 _ _ (0, 0) HX0.out
  go_upto_region 2 with fail
  rw [← HW1.out, ← HNB.out]
  clear x1 x2 x3 x4 x5 x6 x7 x8 x9 x10
  have HSS := Lib.hid (fun (w' : World) (b : Below W1.heap.size W1 w') => show (fun w' : World => w'.cell? ⟨rb, 0, none⟩ = some (.int .i64 m.kind) ∧ w'.cell? ⟨rb, 11, none⟩ = some (.slice a n cap) ∧ w'.cell? ⟨rb, 12, none⟩ = some (.string m.text) ∧ w'.cell? ⟨rb, 13, none⟩ = some (.bool m.full) ∧ w'.cell? ⟨rb, 14, none⟩ = some (.string m.state) ∧ w'.cell? ⟨nb, 0, none⟩ = some (.int .i64 m.frm) ∧ w'.cell? ⟨nb, 1, none⟩ = some (.int .i64 m.born) ∧ w'.cell? ⟨nb, 2, none⟩ = some (.int .i64 m.view) ∧ w'.cell? ⟨nb, 3, none⟩ = some (.int .i64 m.last) ∧ w'.cell? ⟨nb, 4, none⟩ = some (.int .i64 m.op) ∧ w'.cell? ⟨nb, 5, none⟩ = some (.int .i64 m.commit) ∧ w'.cell? ⟨nb, 6, none⟩ = some (.int .i64 m.client) ∧ w'.cell? ⟨nb, 7, none⟩ = some (.int .i64 m.number) ∧ w'.cell? ⟨nb, 8, none⟩ = some (.int .i64 m.nonce) ∧ w'.cell? ⟨nb, 9, none⟩ = some (.int .i64 m.base)) w' from by
    have hx := (b.block _ (Gn.heap_lt HX.out)).trans HX.out
    have hy := (b.block _ (Gn.heap_lt HN.out)).trans HN.out
    exact ⟨cell_of_row _ _ 0 _ _ (0, 0) hx, cell_of_row _ _ 11 _ _ (0, 0) hx, cell_of_row _ _ 12 _ _ (0, 0) hx, cell_of_row _ _ 13 _ _ (0, 0) hx, cell_of_row _ _ 14 _ _ (0, 0) hx, cell_of_row _ _ 0 _ _ (0, 0) hy, cell_of_row _ _ 1 _ _ (0, 0) hy, cell_of_row _ _ 2 _ _ (0, 0) hy, cell_of_row _ _ 3 _ _ (0, 0) hy, cell_of_row _ _ 4 _ _ (0, 0) hy, cell_of_row _ _ 5 _ _ (0, 0) hy, cell_of_row _ _ 6 _ _ (0, 0) hy, cell_of_row _ _ 7 _ _ (0, 0) hy, cell_of_row _ _ 8 _ _ (0, 0) hy, cell_of_row _ _ 9 _ _ (0, 0) hy⟩)
  go_cut [5] from 11 to 43 (fun sa wx => ∃ (q : Nat) (A5 : Option Addr) (c5 : Nat), sa = .pointer (some ⟨q, 0, none⟩) ∧ D1 W1 wx q m A5 c5)
  case first =>
    refine wp_region_noPanic ?_
    refine wp_region_held_drew (S := (fun w' : World => w'.cell? ⟨rb, 0, none⟩ = some (.int .i64 m.kind) ∧ w'.cell? ⟨rb, 11, none⟩ = some (.slice a n cap) ∧ w'.cell? ⟨rb, 12, none⟩ = some (.string m.text) ∧ w'.cell? ⟨rb, 13, none⟩ = some (.bool m.full) ∧ w'.cell? ⟨rb, 14, none⟩ = some (.string m.state) ∧ w'.cell? ⟨nb, 0, none⟩ = some (.int .i64 m.frm) ∧ w'.cell? ⟨nb, 1, none⟩ = some (.int .i64 m.born) ∧ w'.cell? ⟨nb, 2, none⟩ = some (.int .i64 m.view) ∧ w'.cell? ⟨nb, 3, none⟩ = some (.int .i64 m.last) ∧ w'.cell? ⟨nb, 4, none⟩ = some (.int .i64 m.op) ∧ w'.cell? ⟨nb, 5, none⟩ = some (.int .i64 m.commit) ∧ w'.cell? ⟨nb, 6, none⟩ = some (.int .i64 m.client) ∧ w'.cell? ⟨nb, 7, none⟩ = some (.int .i64 m.number) ∧ w'.cell? ⟨nb, 8, none⟩ = some (.int .i64 m.nonce) ∧ w'.cell? ⟨nb, 9, none⟩ = some (.int .i64 m.base))) (by kernel_rfl) ?_ (fun hHeld => ?_)
    · exact HSS.out _ (Gn.below_drew (Below.refl W1.heap.size W1))
    conv in Array.replicate _ false => change #[false, false, false, false, false, false, false, false, false, false, false, false, false, false, false, false, false, false, false, false, false, false, false, false, false, false, false, false, false, false, false, false, false, false, false]
    refine wpAnyH_take (i := 0) (v := ?_) rfl (by kernel_rfl) (by kernel_rfl) (by kernel_rfl) (fun _ _ _ h => h) (Or.inl ⟨by rfl, ?_⟩) (by assumption) ?_
    rotate_left
    · intro w hSw
      try dsimp only at hSw
      go_simp
      try with_reducible rfl
    try simp only [Act.put, p4, p5, p6, p1, p2, p3]
    refine wpAnyH_take (i := 1) (v := ?_) rfl (by kernel_rfl) (by kernel_rfl) (by kernel_rfl) (fun _ _ _ h => h) (Or.inl ⟨by rfl, ?_⟩) (by assumption) ?_
    rotate_left
    · intro w hSw
      try dsimp only at hSw
      go_simp
      try with_reducible rfl
    try simp only [Act.put, p4, p5, p6, p1, p2, p3]
    refine wpAnyH_take (i := 2) (v := ?_) rfl (by kernel_rfl) (by kernel_rfl) (by kernel_rfl) (fun _ _ _ h => h) (Or.inl ⟨by rfl, ?_⟩) (by assumption) ?_
    rotate_left
    · intro w hSw
      try dsimp only at hSw
      go_simp
      try with_reducible rfl
    try simp only [Act.put, p4, p5, p6, p1, p2, p3]
    refine wpAnyH_take (i := 3) (v := ?_) rfl (by kernel_rfl) (by kernel_rfl) (by kernel_rfl) (fun _ _ _ h => h) (Or.inl ⟨by rfl, ?_⟩) (by assumption) ?_
    rotate_left
    · intro w hSw
      try dsimp only at hSw
      go_simp
      try with_reducible rfl
    try simp only [Act.put, p4, p5, p6, p1, p2, p3]
    refine wpAnyH_take (i := 4) (v := ?_) rfl (by kernel_rfl) (by kernel_rfl) (by kernel_rfl) (fun _ _ _ h => h) (Or.inl ⟨by rfl, ?_⟩) (by assumption) ?_
    rotate_left
    · intro w hSw
      try dsimp only at hSw
      go_simp
      try with_reducible rfl
    try simp only [Act.put, p4, p5, p6, p1, p2, p3]
    refine wpAnyH_take (i := 5) (v := ?_) rfl (by kernel_rfl) (by kernel_rfl) (by kernel_rfl) (fun _ _ _ h => h) (Or.inl ⟨by rfl, ?_⟩) (by assumption) ?_
    rotate_left
    · intro w hSw
      try dsimp only at hSw
      go_simp
      try with_reducible rfl
    try simp only [Act.put, p4, p5, p6, p1, p2, p3]
    refine wpAnyH_take (i := 6) (v := ?_) rfl (by kernel_rfl) (by kernel_rfl) (by kernel_rfl) (fun _ _ _ h => h) (Or.inl ⟨by rfl, ?_⟩) (by assumption) ?_
    rotate_left
    · intro w hSw
      try dsimp only at hSw
      go_simp
      try with_reducible rfl
    try simp only [Act.put, p4, p5, p6, p1, p2, p3]
    refine wpAnyH_take (i := 7) (v := ?_) rfl (by kernel_rfl) (by kernel_rfl) (by kernel_rfl) (fun _ _ _ h => h) (Or.inl ⟨by rfl, ?_⟩) (by assumption) ?_
    rotate_left
    · intro w hSw
      try dsimp only at hSw
      go_simp
      try with_reducible rfl
    try simp only [Act.put, p4, p5, p6, p1, p2, p3]
    refine wpAnyH_take (i := 8) (v := ?_) rfl (by kernel_rfl) (by kernel_rfl) (by kernel_rfl) (fun _ _ _ h => h) (Or.inl ⟨by rfl, ?_⟩) (by assumption) ?_
    rotate_left
    · intro w hSw
      try dsimp only at hSw
      go_simp
      try with_reducible rfl
    try simp only [Act.put, p4, p5, p6, p1, p2, p3]
    refine wpAnyH_take (i := 9) (v := ?_) rfl (by kernel_rfl) (by kernel_rfl) (by kernel_rfl) (fun _ _ _ h => h) (Or.inl ⟨by rfl, ?_⟩) (by assumption) ?_
    rotate_left
    · intro w hSw
      try dsimp only at hSw
      go_simp
      try with_reducible rfl
    try simp only [Act.put, p4, p5, p6, p1, p2, p3]
    refine wpAnyH_take (i := 10) (v := ?_) rfl (by kernel_rfl) (by kernel_rfl) (by kernel_rfl) (fun _ _ _ h => h) (Or.inl ⟨by rfl, ?_⟩) (by assumption) ?_
    rotate_left
    · intro w hSw
      try dsimp only at hSw
      go_simp
      try with_reducible rfl
    try simp only [Act.put, p4, p5, p6, p1, p2, p3]
    refine wpAnyH_take (i := 11) (v := ?_) rfl (by kernel_rfl) (by kernel_rfl) (by kernel_rfl) (fun _ _ _ h => h) (Or.inl ⟨by rfl, ?_⟩) (by assumption) ?_
    rotate_left
    · intro w hSw
      try dsimp only at hSw
      go_simp
      try with_reducible rfl
    try simp only [Act.put, p4, p5, p6, p1, p2, p3]
    refine wpAnyH_take (i := 12) (v := ?_) rfl (by kernel_rfl) (by kernel_rfl) (by kernel_rfl) (fun _ _ _ h => h) (Or.inl ⟨by rfl, ?_⟩) (by assumption) ?_
    rotate_left
    · intro w hSw
      try dsimp only at hSw
      go_simp
      try with_reducible rfl
    try simp only [Act.put, p4, p5, p6, p1, p2, p3]
    refine wpAnyH_take (i := 13) (v := ?_) rfl (by kernel_rfl) (by kernel_rfl) (by kernel_rfl) (fun _ _ _ h => h) (Or.inl ⟨by rfl, ?_⟩) (by assumption) ?_
    rotate_left
    · intro w hSw
      try dsimp only at hSw
      go_simp
      try with_reducible rfl
    try simp only [Act.put, p4, p5, p6, p1, p2, p3]
    refine wpAnyH_take (i := 14) (v := ?_) rfl (by kernel_rfl) (by kernel_rfl) (by kernel_rfl) (fun _ _ _ h => h) (Or.inl ⟨by rfl, ?_⟩) (by assumption) ?_
    rotate_left
    · intro w hSw
      try dsimp only at hSw
      go_simp
      try with_reducible rfl
    try simp only [Act.put, p4, p5, p6, p1, p2, p3]
    refine wpAnyH_take (i := 15) (v := ?_) rfl (by kernel_rfl) (by kernel_rfl) (by kernel_rfl) (fun _ _ _ h => h) (Or.inl ⟨by rfl, ?_⟩) (by assumption) ?_
    rotate_left
    · intro w hSw
      try dsimp only at hSw
      go_simp
      try with_reducible rfl
    try simp only [Act.put, p4, p5, p6, p1, p2, p3]
    refine wpAnyH_take (i := 16) (v := ?_) rfl (by kernel_rfl) (by kernel_rfl) (by kernel_rfl) (fun _ _ _ h => h) (Or.inl ⟨by rfl, ?_⟩) (by assumption) ?_
    rotate_left
    · intro w hSw
      try dsimp only at hSw
      go_simp
      try with_reducible rfl
    try simp only [Act.put, p4, p5, p6, p1, p2, p3]
    refine wpAnyH_take (i := 17) (v := ?_) rfl (by kernel_rfl) (by kernel_rfl) (by kernel_rfl) (fun _ _ _ h => h) (Or.inl ⟨by rfl, ?_⟩) (by assumption) ?_
    rotate_left
    · intro w hSw
      try dsimp only at hSw
      go_simp
      try with_reducible rfl
    try simp only [Act.put, p4, p5, p6, p1, p2, p3]
    refine wpAnyH_take (i := 18) (v := ?_) rfl (by kernel_rfl) (by kernel_rfl) (by kernel_rfl) (fun _ _ _ h => h) (Or.inl ⟨by rfl, ?_⟩) (by assumption) ?_
    rotate_left
    · intro w hSw
      try dsimp only at hSw
      go_simp
      try with_reducible rfl
    try simp only [Act.put, p4, p5, p6, p1, p2, p3]
    refine wpAnyH_take (i := 19) (v := ?_) rfl (by kernel_rfl) (by kernel_rfl) (by kernel_rfl) (fun _ _ _ h => h) (Or.inl ⟨by rfl, ?_⟩) (by assumption) ?_
    rotate_left
    · intro w hSw
      try dsimp only at hSw
      go_simp
      try with_reducible rfl
    try simp only [Act.put, p4, p5, p6, p1, p2, p3]
    refine wpAnyH_take (i := 20) (v := ?_) rfl (by kernel_rfl) (by kernel_rfl) (by kernel_rfl) (fun _ _ _ h => h) (Or.inl ⟨by rfl, ?_⟩) (by assumption) ?_
    rotate_left
    · intro w hSw
      try dsimp only at hSw
      go_simp
      try with_reducible rfl
    try simp only [Act.put, p4, p5, p6, p1, p2, p3]
    refine wpAnyH_take (i := 21) (v := ?_) rfl (by kernel_rfl) (by kernel_rfl) (by kernel_rfl) (fun _ _ _ h => h) (Or.inl ⟨by rfl, ?_⟩) (by assumption) ?_
    rotate_left
    · intro w hSw
      try dsimp only at hSw
      go_simp
      try with_reducible rfl
    try simp only [Act.put, p4, p5, p6, p1, p2, p3]
    refine wpAnyH_take (i := 23) (v := ?_) rfl (by kernel_rfl) (by kernel_rfl) (by kernel_rfl) (fun _ _ _ h => h) (Or.inl ⟨by rfl, ?_⟩) (by assumption) ?_
    rotate_left
    · intro w hSw
      try dsimp only at hSw
      go_simp
      try with_reducible rfl
    try simp only [Act.put, p4, p5, p6, p1, p2, p3]
    refine wpAnyH_take (i := 24) (v := ?_) rfl (by kernel_rfl) (by kernel_rfl) (by kernel_rfl) (fun _ _ _ h => h) (Or.inl ⟨by rfl, ?_⟩) (by assumption) ?_
    rotate_left
    · intro w hSw
      try dsimp only at hSw
      go_simp
      try with_reducible rfl
    try simp only [Act.put, p4, p5, p6, p1, p2, p3]
    refine wpAnyH_take (i := 26) (v := ?_) rfl (by kernel_rfl) (by kernel_rfl) (by kernel_rfl) (fun _ _ _ h => h) (Or.inl ⟨by rfl, ?_⟩) (by assumption) ?_
    rotate_left
    · intro w hSw
      try dsimp only at hSw
      go_simp
      try with_reducible rfl
    try simp only [Act.put, p4, p5, p6, p1, p2, p3]
    refine wpAnyH_take (i := 27) (v := ?_) rfl (by kernel_rfl) (by kernel_rfl) (by kernel_rfl) (fun _ _ _ h => h) (Or.inl ⟨by rfl, ?_⟩) (by assumption) ?_
    rotate_left
    · intro w hSw
      try dsimp only at hSw
      go_simp
      try with_reducible rfl
    try simp only [Act.put, p4, p5, p6, p1, p2, p3]
    refine wpAnyH_take (i := 28) (v := ?_) rfl (by kernel_rfl) (by kernel_rfl) (by kernel_rfl) (fun _ _ _ h => h) (Or.inl ⟨by rfl, ?_⟩) (by assumption) ?_
    rotate_left
    · intro w hSw
      try dsimp only at hSw
      go_simp
      try with_reducible rfl
    try simp only [Act.put, p4, p5, p6, p1, p2, p3]
    refine wpAnyH_take (i := 29) (v := ?_) rfl (by kernel_rfl) (by kernel_rfl) (by kernel_rfl) (fun _ _ _ h => h) (Or.inl ⟨by rfl, ?_⟩) (by assumption) ?_
    rotate_left
    · intro w hSw
      try dsimp only at hSw
      go_simp
      try with_reducible rfl
    try simp only [Act.put, p4, p5, p6, p1, p2, p3]
    refine wpAnyH_take (i := 30) (v := ?_) rfl (by kernel_rfl) (by kernel_rfl) (by kernel_rfl) (fun _ _ _ h => h) (Or.inl ⟨by rfl, ?_⟩) (by assumption) ?_
    rotate_left
    · intro w hSw
      try dsimp only at hSw
      go_simp
      try with_reducible rfl
    try simp only [Act.put, p4, p5, p6, p1, p2, p3]
    refine wpAnyH_take (i := 31) (v := ?_) rfl (by kernel_rfl) (by kernel_rfl) (by kernel_rfl) (fun _ _ _ h => h) (Or.inl ⟨by rfl, ?_⟩) (by assumption) ?_
    rotate_left
    · intro w hSw
      try dsimp only at hSw
      go_simp
      try with_reducible rfl
    try simp only [Act.put, p4, p5, p6, p1, p2, p3]
    refine wpAnyH_ready (rs := [22, 33]) (by kernel_rfl) (by simp) ?_
    refine AllReadyH.cons rfl (fun K hK => ?_) ?_
    · go_simp
      have HBE := Lib.hid ((Gn.below_drew (Below.refl W1.heap.size W1)).alloc (Nat.le_refl _) (.cells #[] 3))
      have HOE := Lib.hid (own_empty (base := W1.heap.size) (heap_alloc_new W1.drew (.cells #[] 3)) (Nat.le_refl _))
      refine hK.out _ _ (HSS.out _ HBE.out) (fun hHeld => ?_)
      clear hK K
      try simp only [Act.put, p4, p5, p6, p1, p2, p3]
      refine wpAnyH_ready (rs := [25, 33]) (by kernel_rfl) (by simp) ?_
      refine AllReadyH.cons rfl (fun K hK => ?_) ?_
      · refine step_append_ints _ rfl _ _ rfl W1.heap.size _ 0 [] rfl HOE.out a n cap m.known rfl (Ints.under HI.out HBE.out) (by omega) HBE.out.size ?_
        intro v5 w5 ho5 hg5
        rw [Nat.zero_add, List.nil_append] at ho5
        obtain ⟨A5, c5, rfl⟩ := Gn.slice_of ho5
        have HB5 := Lib.hid (grown_bel hg5 HOE.out HBE.out)
        have HO5 := Lib.hid ho5
        clear ho5 hg5
        refine hK.out _ _ (HSS.out _ HB5.out) (fun hHeld => ?_)
        clear hK K
        try simp only [Act.put, p4, p5, p6, p1, p2, p3]
        refine wpAnyH_take (i := 32) (v := ?_) rfl (by kernel_rfl) (by kernel_rfl) (by kernel_rfl) (fun _ _ _ h => h) (Or.inl ⟨by rfl, ?_⟩) (by assumption) ?_
        rotate_left
        · intro w hSw
          try dsimp only at hSw
          go_simp
          try with_reducible rfl
        try simp only [Act.put, p4, p5, p6, p1, p2, p3]
        refine wpAnyH_ready (rs := [33]) (by kernel_rfl) (by simp) ?_
        refine AllReadyH.cons rfl (fun K hK => ?_) AllReadyH.nil
        go_simp
        have HQ5 := Lib.hid (heap_alloc_new w5 (.cells #[.int .i64 0, .int .i64 0, .int .i64 0, .slice none 0 0, .int .i64 0, .int .i64 0, .int .i64 0, .int .i64 0, .int .i64 0, .int .i64 0, .int .i64 0, .string ⟨#[]⟩, .bool false, .int .i64 0, .string ⟨#[]⟩, .slice none 0 0] 31))
        have HQV := Lib.hid HB5.out.size
        have HO5 := Lib.hid (HO5.out.alloc (.cells #[.int .i64 0, .int .i64 0, .int .i64 0, .slice none 0 0, .int .i64 0, .int .i64 0, .int .i64 0, .int .i64 0, .int .i64 0, .int .i64 0, .int .i64 0, .string ⟨#[]⟩, .bool false, .int .i64 0, .string ⟨#[]⟩, .slice none 0 0] 31))
        have HB5 := Lib.hid (HB5.out.alloc HB5.out.size (.cells #[.int .i64 0, .int .i64 0, .int .i64 0, .slice none 0 0, .int .i64 0, .int .i64 0, .int .i64 0, .int .i64 0, .int .i64 0, .int .i64 0, .int .i64 0, .string ⟨#[]⟩, .bool false, .int .i64 0, .string ⟨#[]⟩, .slice none 0 0] 31))
        refine hK.out _ _ (HSS.out _ HB5.out) (fun hHeld => ?_)
        clear hK K
        try simp only [Act.put, p4, p5, p6, p1, p2, p3]
        refine wpAnyH_ready (rs := [34]) (by kernel_rfl) (by simp) ?_
        refine AllReadyH.cons rfl (fun K hK => ?_) AllReadyH.nil
        refine step_store16 _ (by rfl) 31 (.tmp 5) (.tmp 43) (by rfl) (w5.heap.size) (.int .i64 m.kind) (.int .i64 m.frm) (.int .i64 m.born) (.slice A5 n c5) (.int .i64 m.view) (.int .i64 m.last) (.int .i64 m.op) (.int .i64 m.commit) (.int .i64 m.client) (.int .i64 m.number) (.int .i64 m.nonce) (.string m.text) (.bool m.full) (.int .i64 m.base) (.string m.state) (.slice none 0 0) _ _ _ _ _ _ _ _ _ _ _ _ _ _ _ _ _ (by simp [Act.eval]) (by simp [Act.eval]) HQ5.out (by kernel_rfl) (by simp [Value.oneCell']) ?_
        intro w9 hst hoth hbel
        have HDD := Lib.hid (D1.of HB5.out HQV.out HO5.out HKN.out HQ5.out hst hoth hbel)
        clear hst hoth hbel
        refine hK.out _ _ (HSS.out _ HDD.out.bel) (fun hHeld => ?_)
        clear hK K
        try simp only [Act.put, p4, p5, p6, p1, p2, p3]
        refine wpAnyH_done (by kernel_rfl) ?_ _
        refine NoPanic.normal ?_
        go_wp2_with fail
        go_meet
        case rel => exact ⟨_, A5, c5, rfl, HDD.out⟩
      refine AllReadyH.cons rfl (fun K hK => ?_) AllReadyH.nil
      · go_simp
        have HQX := Lib.hid (show ((W1.drew.alloc (.cells #[] 3)).alloc (.cells #[.int .i64 0, .int .i64 0, .int .i64 0, .slice none 0 0, .int .i64 0, .int .i64 0, .int .i64 0, .int .i64 0, .int .i64 0, .int .i64 0, .int .i64 0, .string ⟨#[]⟩, .bool false, .int .i64 0, .string ⟨#[]⟩, .slice none 0 0] 31)).heap[W1.heap.size + 1]? = some (.cells #[.int .i64 0, .int .i64 0, .int .i64 0, .slice none 0 0, .int .i64 0, .int .i64 0, .int .i64 0, .int .i64 0, .int .i64 0, .int .i64 0, .int .i64 0, .string ⟨#[]⟩, .bool false, .int .i64 0, .string ⟨#[]⟩, .slice none 0 0] 31 (0, 0)) from by have := heap_alloc_new (W1.drew.alloc (.cells #[] 3)) (.cells #[.int .i64 0, .int .i64 0, .int .i64 0, .slice none 0 0, .int .i64 0, .int .i64 0, .int .i64 0, .int .i64 0, .int .i64 0, .int .i64 0, .int .i64 0, .string ⟨#[]⟩, .bool false, .int .i64 0, .string ⟨#[]⟩, .slice none 0 0] 31); rwa [show (W1.drew.alloc (.cells #[] 3)).heap.size = W1.heap.size + 1 by simp] at this)
        have HOE := Lib.hid (HOE.out.alloc (.cells #[.int .i64 0, .int .i64 0, .int .i64 0, .slice none 0 0, .int .i64 0, .int .i64 0, .int .i64 0, .int .i64 0, .int .i64 0, .int .i64 0, .int .i64 0, .string ⟨#[]⟩, .bool false, .int .i64 0, .string ⟨#[]⟩, .slice none 0 0] 31))
        have HBE := Lib.hid (HBE.out.alloc HBE.out.size (.cells #[.int .i64 0, .int .i64 0, .int .i64 0, .slice none 0 0, .int .i64 0, .int .i64 0, .int .i64 0, .int .i64 0, .int .i64 0, .int .i64 0, .int .i64 0, .string ⟨#[]⟩, .bool false, .int .i64 0, .string ⟨#[]⟩, .slice none 0 0] 31))
        refine hK.out _ _ (HSS.out _ HBE.out) (fun hHeld => ?_)
        clear hK K
        try simp only [Act.put, p4, p5, p6, p1, p2, p3]
        refine wpAnyH_ready (rs := [25]) (by kernel_rfl) (by simp) ?_
        refine AllReadyH.cons rfl (fun K hK => ?_) AllReadyH.nil
        refine step_append_ints _ rfl _ _ rfl W1.heap.size _ 0 [] rfl HOE.out a n cap m.known rfl (Ints.under HI.out HBE.out) (by omega) HBE.out.size ?_
        intro v5 w5 ho5 hg5
        rw [Nat.zero_add, List.nil_append] at ho5
        obtain ⟨A5, c5, rfl⟩ := Gn.slice_of ho5
        have HB5 := Lib.hid (grown_bel hg5 HOE.out HBE.out)
        have HO5 := Lib.hid ho5
        have HQ5 := Lib.hid (show w5.heap[(W1.heap.size + 1)]? = some (.cells #[.int .i64 0, .int .i64 0, .int .i64 0, .slice none 0 0, .int .i64 0, .int .i64 0, .int .i64 0, .int .i64 0, .int .i64 0, .int .i64 0, .int .i64 0, .string ⟨#[]⟩, .bool false, .int .i64 0, .string ⟨#[]⟩, .slice none 0 0] 31 (0, 0)) from Oct.grown_keeps hg5 HOE.out HQX.out (by decide))
        have HQV := Lib.hid (show W1.heap.size ≤ (W1.heap.size + 1) by omega)
        clear ho5 hg5
        refine hK.out _ _ (HSS.out _ HB5.out) (fun hHeld => ?_)
        clear hK K
        try simp only [Act.put, p4, p5, p6, p1, p2, p3]
        refine wpAnyH_take (i := 32) (v := ?_) rfl (by kernel_rfl) (by kernel_rfl) (by kernel_rfl) (fun _ _ _ h => h) (Or.inl ⟨by rfl, ?_⟩) (by assumption) ?_
        rotate_left
        · intro w hSw
          try dsimp only at hSw
          go_simp
          try with_reducible rfl
        try simp only [Act.put, p4, p5, p6, p1, p2, p3]
        refine wpAnyH_ready (rs := [34]) (by kernel_rfl) (by simp) ?_
        refine AllReadyH.cons rfl (fun K hK => ?_) AllReadyH.nil
        refine step_store16 _ (by rfl) 31 (.tmp 5) (.tmp 43) (by rfl) (W1.heap.size + 1) (.int .i64 m.kind) (.int .i64 m.frm) (.int .i64 m.born) (.slice A5 n c5) (.int .i64 m.view) (.int .i64 m.last) (.int .i64 m.op) (.int .i64 m.commit) (.int .i64 m.client) (.int .i64 m.number) (.int .i64 m.nonce) (.string m.text) (.bool m.full) (.int .i64 m.base) (.string m.state) (.slice none 0 0) _ _ _ _ _ _ _ _ _ _ _ _ _ _ _ _ _ (by simp [Act.eval]) (by simp [Act.eval]) HQ5.out (by kernel_rfl) (by simp [Value.oneCell']) ?_
        intro w9 hst hoth hbel
        have HDD := Lib.hid (D1.of HB5.out HQV.out HO5.out HKN.out HQ5.out hst hoth hbel)
        clear hst hoth hbel
        refine hK.out _ _ (HSS.out _ HDD.out.bel) (fun hHeld => ?_)
        clear hK K
        try simp only [Act.put, p4, p5, p6, p1, p2, p3]
        refine wpAnyH_done (by kernel_rfl) ?_ _
        refine NoPanic.normal ?_
        go_wp2_with fail
        go_meet
        case rel => exact ⟨_, A5, c5, rfl, HDD.out⟩
    refine AllReadyH.cons rfl (fun K hK => ?_) AllReadyH.nil
    · go_simp
      have HQX := Lib.hid (heap_alloc_new W1.drew (.cells #[.int .i64 0, .int .i64 0, .int .i64 0, .slice none 0 0, .int .i64 0, .int .i64 0, .int .i64 0, .int .i64 0, .int .i64 0, .int .i64 0, .int .i64 0, .string ⟨#[]⟩, .bool false, .int .i64 0, .string ⟨#[]⟩, .slice none 0 0] 31))
      have HBE := Lib.hid ((Gn.below_drew (Below.refl W1.heap.size W1)).alloc (Nat.le_refl _) (.cells #[.int .i64 0, .int .i64 0, .int .i64 0, .slice none 0 0, .int .i64 0, .int .i64 0, .int .i64 0, .int .i64 0, .int .i64 0, .int .i64 0, .int .i64 0, .string ⟨#[]⟩, .bool false, .int .i64 0, .string ⟨#[]⟩, .slice none 0 0] 31))
      refine hK.out _ _ (HSS.out _ HBE.out) (fun hHeld => ?_)
      clear hK K
      try simp only [Act.put, p4, p5, p6, p1, p2, p3]
      refine wpAnyH_ready (rs := [22]) (by kernel_rfl) (by simp) ?_
      refine AllReadyH.cons rfl (fun K hK => ?_) AllReadyH.nil
      go_simp
      have HOE := Lib.hid (show ((W1.drew.alloc (.cells #[.int .i64 0, .int .i64 0, .int .i64 0, .slice none 0 0, .int .i64 0, .int .i64 0, .int .i64 0, .int .i64 0, .int .i64 0, .int .i64 0, .int .i64 0, .string ⟨#[]⟩, .bool false, .int .i64 0, .string ⟨#[]⟩, .slice none 0 0] 31)).alloc (.cells #[] 3)).ownsRow W1.heap.size 3 1 (.slice (some ⟨W1.heap.size + 1, 0, none⟩) 0 0) 0 [] from own_empty (base := W1.heap.size) (by have := heap_alloc_new (W1.drew.alloc (.cells #[.int .i64 0, .int .i64 0, .int .i64 0, .slice none 0 0, .int .i64 0, .int .i64 0, .int .i64 0, .int .i64 0, .int .i64 0, .int .i64 0, .int .i64 0, .string ⟨#[]⟩, .bool false, .int .i64 0, .string ⟨#[]⟩, .slice none 0 0] 31)) (.cells #[] 3); rwa [show (W1.drew.alloc (.cells #[.int .i64 0, .int .i64 0, .int .i64 0, .slice none 0 0, .int .i64 0, .int .i64 0, .int .i64 0, .int .i64 0, .int .i64 0, .int .i64 0, .int .i64 0, .string ⟨#[]⟩, .bool false, .int .i64 0, .string ⟨#[]⟩, .slice none 0 0] 31)).heap.size = W1.heap.size + 1 by simp] at this) (by omega))
      have HQX := Lib.hid (show ((W1.drew.alloc (.cells #[.int .i64 0, .int .i64 0, .int .i64 0, .slice none 0 0, .int .i64 0, .int .i64 0, .int .i64 0, .int .i64 0, .int .i64 0, .int .i64 0, .int .i64 0, .string ⟨#[]⟩, .bool false, .int .i64 0, .string ⟨#[]⟩, .slice none 0 0] 31)).alloc (.cells #[] 3)).heap[W1.heap.size]? = some (.cells #[.int .i64 0, .int .i64 0, .int .i64 0, .slice none 0 0, .int .i64 0, .int .i64 0, .int .i64 0, .int .i64 0, .int .i64 0, .int .i64 0, .int .i64 0, .string ⟨#[]⟩, .bool false, .int .i64 0, .string ⟨#[]⟩, .slice none 0 0] 31 (0, 0)) from (heap_alloc_old _ _ (Gn.heap_lt HQX.out)).trans HQX.out)
      have HBE := Lib.hid (HBE.out.alloc HBE.out.size (.cells #[] 3))
      refine hK.out _ _ (HSS.out _ HBE.out) (fun hHeld => ?_)
      clear hK K
      try simp only [Act.put, p4, p5, p6, p1, p2, p3]
      refine wpAnyH_ready (rs := [25]) (by kernel_rfl) (by simp) ?_
      refine AllReadyH.cons rfl (fun K hK => ?_) AllReadyH.nil
      refine step_append_ints _ rfl _ _ rfl W1.heap.size _ 0 [] rfl HOE.out a n cap m.known rfl (Ints.under HI.out HBE.out) (by omega) HBE.out.size ?_
      intro v5 w5 ho5 hg5
      rw [Nat.zero_add, List.nil_append] at ho5
      obtain ⟨A5, c5, rfl⟩ := Gn.slice_of ho5
      have HB5 := Lib.hid (grown_bel hg5 HOE.out HBE.out)
      have HO5 := Lib.hid ho5
      have HQ5 := Lib.hid (show w5.heap[W1.heap.size]? = some (.cells #[.int .i64 0, .int .i64 0, .int .i64 0, .slice none 0 0, .int .i64 0, .int .i64 0, .int .i64 0, .int .i64 0, .int .i64 0, .int .i64 0, .int .i64 0, .string ⟨#[]⟩, .bool false, .int .i64 0, .string ⟨#[]⟩, .slice none 0 0] 31 (0, 0)) from Oct.grown_keeps hg5 HOE.out HQX.out (by decide))
      have HQV := Lib.hid (show W1.heap.size ≤ W1.heap.size by omega)
      clear ho5 hg5
      refine hK.out _ _ (HSS.out _ HB5.out) (fun hHeld => ?_)
      clear hK K
      try simp only [Act.put, p4, p5, p6, p1, p2, p3]
      refine wpAnyH_take (i := 32) (v := ?_) rfl (by kernel_rfl) (by kernel_rfl) (by kernel_rfl) (fun _ _ _ h => h) (Or.inl ⟨by rfl, ?_⟩) (by assumption) ?_
      rotate_left
      · intro w hSw
        try dsimp only at hSw
        go_simp
        try with_reducible rfl
      try simp only [Act.put, p4, p5, p6, p1, p2, p3]
      refine wpAnyH_ready (rs := [34]) (by kernel_rfl) (by simp) ?_
      refine AllReadyH.cons rfl (fun K hK => ?_) AllReadyH.nil
      refine step_store16 _ (by rfl) 31 (.tmp 5) (.tmp 43) (by rfl) (W1.heap.size) (.int .i64 m.kind) (.int .i64 m.frm) (.int .i64 m.born) (.slice A5 n c5) (.int .i64 m.view) (.int .i64 m.last) (.int .i64 m.op) (.int .i64 m.commit) (.int .i64 m.client) (.int .i64 m.number) (.int .i64 m.nonce) (.string m.text) (.bool m.full) (.int .i64 m.base) (.string m.state) (.slice none 0 0) _ _ _ _ _ _ _ _ _ _ _ _ _ _ _ _ _ (by simp [Act.eval]) (by simp [Act.eval]) HQ5.out (by kernel_rfl) (by simp [Value.oneCell']) ?_
      intro w9 hst hoth hbel
      have HDD := Lib.hid (D1.of HB5.out HQV.out HO5.out HKN.out HQ5.out hst hoth hbel)
      clear hst hoth hbel
      refine hK.out _ _ (HSS.out _ HDD.out.bel) (fun hHeld => ?_)
      clear hK K
      try simp only [Act.put, p4, p5, p6, p1, p2, p3]
      refine wpAnyH_done (by kernel_rfl) ?_ _
      refine NoPanic.normal ?_
      go_wp2_with fail
      go_meet
      case rel => exact ⟨_, A5, c5, rfl, HDD.out⟩
  case rest =>
    obtain ⟨pa, A5, c5, rfl, hd1⟩ := hcut
    obtain ⟨w3, hw3⟩ : ∃ x, x = wc := ⟨_, rfl⟩
    rw [← hw3] at hd1 ⊢
    clear hw3
    obtain ⟨U, hU⟩ : ∃ U, U = w3.alloc (.cells #[.int .i64 m.kind, .int .i64 m.frm, .int .i64 m.born, .slice a n cap, .int .i64 m.view, .int .i64 m.last, .int .i64 m.op, .int .i64 m.commit, .int .i64 m.client, .int .i64 m.number, .int .i64 m.nonce, .string m.text, .bool m.full, .int .i64 m.base, .string m.state, .slice none 0 0] 34) := ⟨_, rfl⟩
    obtain ⟨pb, hpb⟩ : ∃ q, q = w3.heap.size := ⟨_, rfl⟩
    have hbU : Below w3.heap.size w3 U := by rw [hU]; exact (Below.refl _ _).alloc (Nat.le_refl _) _
    have hxU : U.heap[pb]? = some (.cells #[.int .i64 m.kind, .int .i64 m.frm, .int .i64 m.born, .slice a n cap, .int .i64 m.view, .int .i64 m.last, .int .i64 m.op, .int .i64 m.commit, .int .i64 m.client, .int .i64 m.number, .int .i64 m.nonce, .string m.text, .bool m.full, .int .i64 m.base, .string m.state, .slice none 0 0] 34 (0, 0)) := by rw [hU, hpb]; exact heap_alloc_new _ _
    have HL0 := Lib.hid (D1.loop (a := a) (c0 := cap) hd1 (Nat.le_of_eq hpb.symm) hbU (by rw [HKN.out] at hxU; exact hxU))
    have hx := (hd1.bel.block _ (Gn.heap_lt HX.out)).trans HX.out
    have hy := (hd1.bel.block _ (Gn.heap_lt HN.out)).trans HN.out
    have x0 := cell_of_row _ _ 0 _ _ (0, 0) hx
    have x11 := cell_of_row _ _ 11 _ _ (0, 0) hx
    have x12 := cell_of_row _ _ 12 _ _ (0, 0) hx
    have x13 := cell_of_row _ _ 13 _ _ (0, 0) hx
    have x14 := cell_of_row _ _ 14 _ _ (0, 0) hx
    have y0 := cell_of_row _ _ 0 _ _ (0, 0) hy
    have y1 := cell_of_row _ _ 1 _ _ (0, 0) hy
    have y2 := cell_of_row _ _ 2 _ _ (0, 0) hy
    have y3 := cell_of_row _ _ 3 _ _ (0, 0) hy
    have y4 := cell_of_row _ _ 4 _ _ (0, 0) hy
    have y5 := cell_of_row _ _ 5 _ _ (0, 0) hy
    have y6 := cell_of_row _ _ 6 _ _ (0, 0) hy
    have y7 := cell_of_row _ _ 7 _ _ (0, 0) hy
    have y8 := cell_of_row _ _ 8 _ _ (0, 0) hy
    have y9 := cell_of_row _ _ 9 _ _ (0, 0) hy
    have HU := Lib.hid hU
    have HPB := Lib.hid hpb
    clear hU hpb hbU hxU hx hy hd1
    go_upto_region 4 with fail
    rw [← HU.out, ← HPB.out]
    clear x0 x11 x12 x13 x14 y0 y1 y2 y3 y4 y5 y6 y7 y8 y9
    go_wp2_with fail
    go_loopw [7] (fun i wr => ∃ (k : Nat) (B : Option Addr) (c2 : Nat) (D : Option Addr) (c3 : Nat), i = .int .i64 k ∧ k ≤ nn ∧ LSt W1 pa pb m A5 c5 a cap k B c2 D c3 (.slice B k c2) k (.slice D k c3) k wr) (fun i _ => nn - (intOf i).toNat)
    case atStart => exact ⟨0, none, 0, none, 0, rfl, Nat.zero_le _, HL0.out⟩
    case round =>
      obtain ⟨k, B, c2, D, c3, rfl, hk, hl⟩ := hrel
      have HL := Lib.hid hl
      have x15 := cell_of_row _ _ 15 _ _ (0, 0) ((hl.bel.block _ (Gn.heap_lt HX.out)).trans HX.out)
      by_cases hlt : k < nn
      · have hlt2 : (k : Int) < (nn : Int) := by omega
        obtain ⟨eb, off, rfl, hbb, hd0, hd1, hd2⟩ := (HE.out.under hl.bel).get k hlt
        have HKM := Lib.hid (show k < m.ents.length by rw [← HKE.out]; exact hlt)
        obtain ⟨y0, hy0⟩ : ∃ x, x = (m.ents[k]'HKM.out).client := ⟨_, rfl⟩
        obtain ⟨y1, hy1⟩ : ∃ x, x = (m.ents[k]'HKM.out).number := ⟨_, rfl⟩
        obtain ⟨y2, hy2⟩ : ∃ x, x = (m.ents[k]'HKM.out).text := ⟨_, rfl⟩
        rw [← hy0] at hd0
        rw [← hy1] at hd1
        rw [← hy2] at hd2
        have HY := Lib.hid (show m.ents[k]'HKM.out = ⟨y0, y1, y2⟩ by rw [hy0, hy1, hy2])
        clear hl hy0 hy1 hy2
        go_upto_region 7 with fail
        have HS7 := Lib.hid (fun (w' : World) (b : Below wr.heap.size wr w') => show (fun w' : World => w'.cell? ⟨rb, 15, none⟩ = some (.slice (some ⟨eb, off, none⟩) nn cap2) ∧ w'.cell? ⟨eb, off + k * 3, none⟩ = some (.int .i64 y0) ∧ w'.cell? ⟨eb, off + k * 3 + 1, none⟩ = some (.int .i64 y1) ∧ w'.cell? ⟨eb, off + k * 3 + 2, none⟩ = some (.string y2)) w' from ⟨(b.cell (p := ⟨rb, 15, none⟩) (World.block_lt_of_cell? _ _ x15)).trans x15, (b.cell (p := ⟨eb, off + k * 3, none⟩) hbb).trans hd0, (b.cell (p := ⟨eb, off + k * 3 + 1, none⟩) hbb).trans hd1, (b.cell (p := ⟨eb, off + k * 3 + 2, none⟩) hbb).trans hd2⟩)
        clear hd0 hd1 hd2 x15
        go_cut [8] from 75 to 112 (fun sa wx => ∃ q : Nat, sa = .pointer (some ⟨q, 0, none⟩) ∧ wx.heap[q]? = some (.cells #[.int .i64 y0, .int .i64 y1, .string y2] 53 (0, 0)) ∧ Below wr.heap.size wr wx)
        case first =>
          refine wp_region_noPanic ?_
          refine wp_region_held_drew (S := (fun w' : World => w'.cell? ⟨rb, 15, none⟩ = some (.slice (some ⟨eb, off, none⟩) nn cap2) ∧ w'.cell? ⟨eb, off + k * 3, none⟩ = some (.int .i64 y0) ∧ w'.cell? ⟨eb, off + k * 3 + 1, none⟩ = some (.int .i64 y1) ∧ w'.cell? ⟨eb, off + k * 3 + 2, none⟩ = some (.string y2))) (by kernel_rfl) ?_ (fun hHeld => ?_)
          · exact HS7.out _ (Gn.below_drew (Below.refl wr.heap.size wr))
          conv in Array.replicate _ false => change #[false, false, false, false, false, false, false, false, false, false, false, false, false, false, false, false, false, false, false, false, false]
          refine wpAnyH_take (i := 0) (v := ?_) rfl (by kernel_rfl) (by kernel_rfl) (by kernel_rfl) (fun _ _ _ h => h) (Or.inl ⟨by rfl, ?_⟩) (by assumption) ?_
          rotate_left
          · intro w hSw
            try dsimp only at hSw
            go_simp
            try with_reducible rfl
          try simp only [Act.put, p4, p5, p6, p1, p2, p3]
          refine wpAnyH_take (i := 1) (v := ?_) rfl (by kernel_rfl) (by kernel_rfl) (by kernel_rfl) (fun _ _ _ h => h) (Or.inl ⟨by rfl, ?_⟩) (by assumption) ?_
          rotate_left
          · intro w hSw
            try dsimp only at hSw
            go_simp
            try with_reducible rfl
          try simp only [Act.put, p4, p5, p6, p1, p2, p3]
          refine wpAnyH_take (i := 2) (v := ?_) rfl (by kernel_rfl) (by kernel_rfl) (by kernel_rfl) (fun _ _ _ h => h) (Or.inl ⟨by rfl, ?_⟩) (by assumption) ?_
          rotate_left
          · intro w hSw
            try dsimp only at hSw
            go_simp
            try with_reducible rfl
          try simp only [Act.put, p4, p5, p6, p1, p2, p3]
          refine wpAnyH_take (i := 3) (v := ?_) rfl (by kernel_rfl) (by kernel_rfl) (by kernel_rfl) (fun _ _ _ h => h) (Or.inl ⟨by rfl, ?_⟩) (by assumption) ?_
          rotate_left
          · intro w hSw
            try dsimp only at hSw
            go_simp
            try with_reducible rfl
          try simp only [Act.put, p4, p5, p6, p1, p2, p3]
          refine wpAnyH_take (i := 4) (v := ?_) rfl (by kernel_rfl) (by kernel_rfl) (by kernel_rfl) (fun _ _ _ h => h) (Or.inl ⟨by rfl, ?_⟩) (by assumption) ?_
          rotate_left
          · intro w hSw
            try dsimp only at hSw
            go_simp
            try with_reducible rfl
          try simp only [Act.put, p4, p5, p6, p1, p2, p3]
          refine wpAnyH_take (i := 5) (v := ?_) rfl (by kernel_rfl) (by kernel_rfl) (by kernel_rfl) (fun _ _ _ h => h) (Or.inl ⟨by rfl, ?_⟩) (by assumption) ?_
          rotate_left
          · intro w hSw
            try dsimp only at hSw
            go_simp
            try with_reducible rfl
          try simp only [Act.put, p4, p5, p6, p1, p2, p3]
          refine wpAnyH_take (i := 6) (v := ?_) rfl (by kernel_rfl) (by kernel_rfl) (by kernel_rfl) (fun _ _ _ h => h) (Or.inl ⟨by rfl, ?_⟩) (by assumption) ?_
          rotate_left
          · intro w hSw
            try dsimp only at hSw
            go_simp
            try with_reducible rfl
          try simp only [Act.put, p4, p5, p6, p1, p2, p3]
          refine wpAnyH_take (i := 7) (v := ?_) rfl (by kernel_rfl) (by kernel_rfl) (by kernel_rfl) (fun _ _ _ h => h) (Or.inl ⟨by rfl, ?_⟩) (by assumption) ?_
          rotate_left
          · intro w hSw
            try dsimp only at hSw
            go_simp
            try with_reducible rfl
          try simp only [Act.put, p4, p5, p6, p1, p2, p3]
          refine wpAnyH_take (i := 8) (v := ?_) rfl (by kernel_rfl) (by kernel_rfl) (by kernel_rfl) (fun _ _ _ h => h) (Or.inl ⟨by rfl, ?_⟩) (by assumption) ?_
          rotate_left
          · intro w hSw
            try dsimp only at hSw
            go_simp
            try with_reducible rfl
          try simp only [Act.put, p4, p5, p6, p1, p2, p3]
          refine wpAnyH_take (i := 9) (v := ?_) rfl (by kernel_rfl) (by kernel_rfl) (by kernel_rfl) (fun _ _ _ h => h) (Or.inl ⟨by rfl, ?_⟩) (by assumption) ?_
          rotate_left
          · intro w hSw
            try dsimp only at hSw
            go_simp
            try with_reducible rfl
          try simp only [Act.put, p4, p5, p6, p1, p2, p3]
          refine wpAnyH_take (i := 10) (v := ?_) rfl (by kernel_rfl) (by kernel_rfl) (by kernel_rfl) (fun _ _ _ h => h) (Or.inl ⟨by rfl, ?_⟩) (by assumption) ?_
          rotate_left
          · intro w hSw
            try dsimp only at hSw
            go_simp
            try with_reducible rfl
          try simp only [Act.put, p4, p5, p6, p1, p2, p3]
          refine wpAnyH_take (i := 11) (v := ?_) rfl (by kernel_rfl) (by kernel_rfl) (by kernel_rfl) (fun _ _ _ h => h) (Or.inl ⟨by rfl, ?_⟩) (by assumption) ?_
          rotate_left
          · intro w hSw
            try dsimp only at hSw
            go_simp
            try with_reducible rfl
          try simp only [Act.put, p4, p5, p6, p1, p2, p3]
          refine wpAnyH_take (i := 12) (v := ?_) rfl (by kernel_rfl) (by kernel_rfl) (by kernel_rfl) (fun _ _ _ h => h) (Or.inl ⟨by rfl, ?_⟩) (by assumption) ?_
          rotate_left
          · intro w hSw
            try dsimp only at hSw
            go_simp
            try with_reducible rfl
          try simp only [Act.put, p4, p5, p6, p1, p2, p3]
          refine wpAnyH_take (i := 13) (v := ?_) rfl (by kernel_rfl) (by kernel_rfl) (by kernel_rfl) (fun _ _ _ h => h) (Or.inl ⟨by rfl, ?_⟩) (by assumption) ?_
          rotate_left
          · intro w hSw
            try dsimp only at hSw
            go_simp
            try with_reducible rfl
          try simp only [Act.put, p4, p5, p6, p1, p2, p3]
          refine wpAnyH_take (i := 14) (v := ?_) rfl (by kernel_rfl) (by kernel_rfl) (by kernel_rfl) (fun _ _ _ h => h) (Or.inl ⟨by rfl, ?_⟩) (by assumption) ?_
          rotate_left
          · intro w hSw
            try dsimp only at hSw
            go_simp
            try with_reducible rfl
          try simp only [Act.put, p4, p5, p6, p1, p2, p3]
          refine wpAnyH_take (i := 15) (v := ?_) rfl (by kernel_rfl) (by kernel_rfl) (by kernel_rfl) (fun _ _ _ h => h) (Or.inl ⟨by rfl, ?_⟩) (by assumption) ?_
          rotate_left
          · intro w hSw
            try dsimp only at hSw
            go_simp
            try with_reducible rfl
          try simp only [Act.put, p4, p5, p6, p1, p2, p3]
          refine wpAnyH_take (i := 16) (v := ?_) rfl (by kernel_rfl) (by kernel_rfl) (by kernel_rfl) (fun _ _ _ h => h) (Or.inl ⟨by rfl, ?_⟩) (by assumption) ?_
          rotate_left
          · intro w hSw
            try dsimp only at hSw
            go_simp
            try with_reducible rfl
          try simp only [Act.put, p4, p5, p6, p1, p2, p3]
          refine wpAnyH_take (i := 17) (v := ?_) rfl (by kernel_rfl) (by kernel_rfl) (by kernel_rfl) (fun _ _ _ h => h) (Or.inl ⟨by rfl, ?_⟩) (by assumption) ?_
          rotate_left
          · intro w hSw
            try dsimp only at hSw
            go_simp
            try with_reducible rfl
          try simp only [Act.put, p4, p5, p6, p1, p2, p3]
          refine wpAnyH_take (i := 18) (v := ?_) rfl (by kernel_rfl) (by kernel_rfl) (by kernel_rfl) (fun _ _ _ h => h) (Or.inl ⟨by rfl, ?_⟩) (by assumption) ?_
          rotate_left
          · intro w hSw
            try dsimp only at hSw
            go_simp
            try with_reducible rfl
          try simp only [Act.put, p4, p5, p6, p1, p2, p3]
          refine wpAnyH_ready (rs := [19]) (by kernel_rfl) (by simp) ?_
          refine AllReadyH.cons rfl (fun K hK => ?_) AllReadyH.nil
          go_simp
          refine hK.out _ _ (HS7.out _ ((Gn.below_drew (Below.refl wr.heap.size wr)).alloc (Nat.le_refl _) _)) (fun hHeld => ?_)
          clear hK K
          try simp only [Act.put, p4, p5, p6, p1, p2, p3]
          refine wpAnyH_ready (rs := [20]) (by kernel_rfl) (by simp) ?_
          refine AllReadyH.cons rfl (fun K hK => ?_) AllReadyH.nil
          go_simp
          refine hK.out _ _ (HS7.out _ ((Gn.below_drew (Below.refl wr.heap.size wr)).alloc (Nat.le_refl _) _)) (fun hHeld => ?_)
          clear hK K
          try simp only [Act.put, p4, p5, p6, p1, p2, p3]
          refine wpAnyH_done (by kernel_rfl) ?_ _
          refine NoPanic.normal ?_
          go_wp2_with fail
          go_meet
          case rel => exact ⟨_, rfl, heap_alloc_new _ _, (Gn.below_drew (Below.refl wr.heap.size wr)).alloc (Nat.le_refl _) _⟩
        case rest =>
          obtain ⟨q8, rfl, hq8, hb8⟩ := hcut
          obtain ⟨w4, hw4⟩ : ∃ x, x = wc := ⟨_, rfl⟩
          rw [← hw4] at hq8 hb8 ⊢
          clear hw4
          have HD4 := Lib.hid (Gn.below_drew (Below.refl w4.heap.size w4))
          have HL := Lib.hid ((HL.out.below hb8).below HD4.out)
          have HQ := Lib.hid ((HD4.out.block _ (Gn.heap_lt hq8)).trans hq8)
          have HGG := Lib.hid (fun (v1 : Value) (k1 : Nat) (w' : World) (h : LSt W1 pa pb m A5 c5 a cap k B c2 D c3 v1 k1 (.slice D k c3) k w') (hq : w'.heap[q8]? = some (.cells #[.int .i64 y0, .int .i64 y1, .string y2] 53 (0, 0))) => show (fun w' : World => w'.cell? ⟨pa, 15, none⟩ = some (.slice B k c2) ∧ w'.cell? ⟨pb, 15, none⟩ = some (.slice D k c3) ∧ w'.cell? ⟨q8, 0, none⟩ = some (.int .i64 y0) ∧ w'.cell? ⟨q8, 1, none⟩ = some (.int .i64 y1) ∧ w'.cell? ⟨q8, 2, none⟩ = some (.string y2)) w' from
            ⟨by have := cell_of_row _ _ 15 _ _ (0, 0) h.boxA; rw [this]; show some (Value.slice B (mkE m k).ents.length c2) = _; rw [mkE_len m (Nat.le_of_lt HKM.out)], by have := cell_of_row _ _ 15 _ _ (0, 0) h.boxB; rw [this]; show some (Value.slice D (mkE m k).ents.length c3) = _; rw [mkE_len m (Nat.le_of_lt HKM.out)], cell_of_row _ _ 0 _ _ (0, 0) hq, cell_of_row _ _ 1 _ _ (0, 0) hq, cell_of_row _ _ 2 _ _ (0, 0) hq⟩)
          clear hq8 hb8
          go_upto_region 8 with fail
          refine wp_region_noPanic ?_
          refine HeldU.wp_region_until (F := fun _ => True) (G := (fun w' : World => w'.cell? ⟨pa, 15, none⟩ = some (.slice B k c2) ∧ w'.cell? ⟨pb, 15, none⟩ = some (.slice D k c3) ∧ w'.cell? ⟨q8, 0, none⟩ = some (.int .i64 y0) ∧ w'.cell? ⟨q8, 1, none⟩ = some (.int .i64 y1) ∧ w'.cell? ⟨q8, 2, none⟩ = some (.string y2))) (k := 9) (by kernel_rfl) trivial ?_ (fun hHeld => ?_)
          · exact HGG.out _ _ _ HL.out HQ.out
          conv in Array.replicate _ false => change #[false, false, false, false, false, false, false, false, false, false, false, false, false, false]
          refine HeldU.wpAnyU_take (i := 0) (v := ?_) rfl (by kernel_rfl) (by kernel_rfl) (by kernel_rfl) (by kernel_rfl) (by rfl) (fun _ _ _ h => h) (Or.inl ⟨by rfl, ?_⟩) (by assumption) ?_
          rotate_left
          · intro w hSw
            clear hSw
            go_simp
            try with_reducible rfl
          try simp only [Act.put, p4, p5, p6, p1, p2, p3]
          refine HeldU.wpAnyU_early (i := 1) (v := ?_) rfl (by kernel_rfl) (by kernel_rfl) (by kernel_rfl) (by kernel_rfl) (by rfl) (by kernel_rfl) (fun _ _ _ h => h) (Or.inl ⟨by rfl, ?_⟩) (by assumption) ?_
          rotate_left
          · intro w hSw
            have hG := hSw.2
            clear hSw
            try dsimp only at hG
            go_simp
            try with_reducible rfl
          try simp only [Act.put, p4, p5, p6, p1, p2, p3]
          refine HeldU.wpAnyU_early (i := 2) (v := ?_) rfl (by kernel_rfl) (by kernel_rfl) (by kernel_rfl) (by kernel_rfl) (by rfl) (by kernel_rfl) (fun _ _ _ h => h) (Or.inl ⟨by rfl, ?_⟩) (by assumption) ?_
          rotate_left
          · intro w hSw
            have hG := hSw.2
            clear hSw
            try dsimp only at hG
            go_simp
            try with_reducible rfl
          try simp only [Act.put, p4, p5, p6, p1, p2, p3]
          refine HeldU.wpAnyU_take (i := 5) (v := ?_) rfl (by kernel_rfl) (by kernel_rfl) (by kernel_rfl) (by kernel_rfl) (by rfl) (fun _ _ _ h => h) (Or.inl ⟨by rfl, ?_⟩) (by assumption) ?_
          rotate_left
          · intro w hSw
            clear hSw
            go_simp
            try with_reducible rfl
          try simp only [Act.put, p4, p5, p6, p1, p2, p3]
          refine HeldU.wpAnyU_early (i := 6) (v := ?_) rfl (by kernel_rfl) (by kernel_rfl) (by kernel_rfl) (by kernel_rfl) (by rfl) (by kernel_rfl) (fun _ _ _ h => h) (Or.inl ⟨by rfl, ?_⟩) (by assumption) ?_
          rotate_left
          · intro w hSw
            have hG := hSw.2
            clear hSw
            try dsimp only at hG
            go_simp
            try with_reducible rfl
          try simp only [Act.put, p4, p5, p6, p1, p2, p3]
          refine HeldU.wpAnyU_early (i := 7) (v := ?_) rfl (by kernel_rfl) (by kernel_rfl) (by kernel_rfl) (by kernel_rfl) (by rfl) (by kernel_rfl) (fun _ _ _ h => h) (Or.inl ⟨by rfl, ?_⟩) (by assumption) ?_
          rotate_left
          · intro w hSw
            have hG := hSw.2
            clear hSw
            try dsimp only at hG
            go_simp
            try with_reducible rfl
          try simp only [Act.put, p4, p5, p6, p1, p2, p3]
          refine HeldU.wpAnyU_ready (rs := [3, 8]) (by kernel_rfl) (by simp) ?_
          refine HeldU.AllReadyU.cons rfl (fun K hK => ?_) ?_
          · go_simp
            have hab := (Below.refl (w4.drew).heap.size w4.drew).alloc (Nat.le_refl _) (.cells #[.int .i64 y0, .int .i64 y1, .string y2] 54)
            have HN1 := Lib.hid (heap_alloc_new (w4.drew) (.cells #[.int .i64 y0, .int .i64 y1, .string y2] 54))
            have HL := Lib.hid (HL.out.below hab)
            have HQ := Lib.hid ((hab.block _ (Gn.heap_lt HQ.out)).trans HQ.out)
            clear hab
            refine hK.out _ _ ⟨trivial, fun _ => HGG.out _ _ _ HL.out HQ.out⟩ (fun hHeld => ?_)
            clear hK K
            try simp only [Act.put, p4, p5, p6, p1, p2, p3]
            refine HeldU.wpAnyU_ready (rs := [4, 8]) (by kernel_rfl) (by simp) ?_
            refine HeldU.AllReadyU.cons rfl (fun K hK => ?_) ?_
            · refine step_append _ (by rfl) (.tmp 102) (.tmp 104) 29 54 3 (by decide) (by rfl) i0 (.agg #[.int .i64 0, .int .i64 0, .string ⟨#[]⟩]) 32 Tryd.underlying29 hi0 hz0 hz1 hz2 (by rfl) W1.heap.size (.slice B k c2) k _ (by simp [Act.eval]) HL.out.own1 ⟨w4.drew.heap.size, 0, none⟩ 1 (by simp [Act.eval]) (entC ⟨y0, y1, y2⟩) rfl (three_newT _ ⟨y0, y1, y2⟩ HN1.out) (by intro u hu; simp only [entC, List.mem_cons, List.not_mem_nil, or_false] at hu; rcases hu with rfl | rfl | rfl <;> rfl) (by unfold maxLen; omega) (by omega) HL.out.bel.size ?_
              intro v5 w5 ho hg
              obtain ⟨B5, d5, rfl⟩ := Gn.slice_of ho
              rw [← HY.out] at ho
              have HQ := Lib.hid (show w5.heap[q8]? = some (.cells #[.int .i64 y0, .int .i64 y1, .string y2] 53 (0, 0)) from Oct.grown_keeps hg HL.out.own1 HQ.out (by decide))
              have HL := Lib.hid (HL.out.grow1 HKM.out ho hg)
              clear ho hg
              refine hK.out _ _ ⟨trivial, fun _ => HGG.out _ _ _ HL.out HQ.out⟩ (fun hHeld => ?_)
              clear hK K
              try simp only [Act.put, p4, p5, p6, p1, p2, p3]
              refine HeldU.wpAnyU_take (i := 10) (v := ?_) rfl (by kernel_rfl) (by kernel_rfl) (by kernel_rfl) (by kernel_rfl) (by rfl) (fun _ _ _ h => h) (Or.inl ⟨by rfl, ?_⟩) (by assumption) ?_
              rotate_left
              · intro w hSw
                clear hSw
                go_simp
                try with_reducible rfl
              try simp only [Act.put, p4, p5, p6, p1, p2, p3]
              refine HeldU.wpAnyU_ready (rs := [8]) (by kernel_rfl) (by simp) ?_
              refine HeldU.AllReadyU.cons rfl (fun K hK => ?_) HeldU.AllReadyU.nil
              go_simp
              have hab := (Below.refl (w5).heap.size w5).alloc (Nat.le_refl _) (.cells #[.int .i64 y0, .int .i64 y1, .string y2] 53)
              have HN2 := Lib.hid (heap_alloc_new (w5) (.cells #[.int .i64 y0, .int .i64 y1, .string y2] 53))
              have HL := Lib.hid (HL.out.below hab)
              have HQ := Lib.hid ((hab.block _ (Gn.heap_lt HQ.out)).trans HQ.out)
              clear hab
              refine hK.out _ _ ⟨trivial, fun _ => HGG.out _ _ _ HL.out HQ.out⟩ (fun hHeld => ?_)
              clear hK K
              try simp only [Act.put, p4, p5, p6, p1, p2, p3]
              refine HeldU.wpAnyU_ready (rs := [9]) (by kernel_rfl) (by simp) ?_
              refine HeldU.AllReadyU.cons rfl (fun K hK => ?_) HeldU.AllReadyU.nil
              refine step_append _ (by rfl) (.tmp 107) (.tmp 109) 32 53 3 (by decide) (by rfl) j0 (.agg #[.int .i64 0, .int .i64 0, .string ⟨#[]⟩]) 32 Tryd.underlying32 hj0 hy0 hy1 hy2 (by rfl) W1.heap.size (.slice D k c3) k _ (by simp [Act.eval]) HL.out.own2 ⟨w5.heap.size, 0, none⟩ 1 (by simp [Act.eval]) (entC ⟨y0, y1, y2⟩) rfl (three_newT _ ⟨y0, y1, y2⟩ HN2.out) (by intro u hu; simp only [entC, List.mem_cons, List.not_mem_nil, or_false] at hu; rcases hu with rfl | rfl | rfl <;> rfl) (by unfold maxLen; omega) (by omega) HL.out.bel.size ?_
              intro v6 w6 ho hg
              obtain ⟨D6, d6, rfl⟩ := Gn.slice_of ho
              rw [← HY.out] at ho
              have HL := Lib.hid (HL.out.grow2 HKM.out ho hg)
              clear ho hg
              refine hK.out _ _ ⟨trivial, fun h => Bool.noConfusion (show true = false from h)⟩ (fun hHeld => ?_)
              clear hK K
              try simp only [Act.put, p4, p5, p6, p1, p2, p3]
              refine HeldU.wpAnyU_ready (rs := [11]) (by kernel_rfl) (by simp) ?_
              refine HeldU.AllReadyU.cons rfl (fun K hK => ?_) HeldU.AllReadyU.nil
              have c0 := cell_of_row _ _ 15 _ _ (0, 0) HL.out.boxA
              have hfz := Gn.frozen_row HL.out.boxA 15
              go_simp
              clear c0 hfz
              refine hK.out _ _ ⟨trivial, fun h => Bool.noConfusion (show true = false from h)⟩ (fun hHeld => ?_)
              clear hK K
              try simp only [Act.put, p4, p5, p6, p1, p2, p3]
              refine HeldU.wpAnyU_take (i := 12) (v := ?_) rfl (by kernel_rfl) (by kernel_rfl) (by kernel_rfl) (by kernel_rfl) (by rfl) (fun _ _ _ h => h) (Or.inl ⟨by rfl, ?_⟩) (by assumption) ?_
              rotate_left
              · intro w hSw
                clear hSw
                go_simp
                try with_reducible rfl
              try simp only [Act.put, p4, p5, p6, p1, p2, p3]
              refine HeldU.wpAnyU_ready (rs := [13]) (by kernel_rfl) (by simp) ?_
              refine HeldU.AllReadyU.cons rfl (fun K hK => ?_) HeldU.AllReadyU.nil
              have hbx : (w6.setCell ⟨pa, 15, none⟩ (.slice B5 (k + 1) d5)).heap[pb]? = _ := (Gn.set_keep _ _ _ HL.out.ne).trans HL.out.boxB
              have c0 := cell_of_row _ _ 15 _ _ (0, 0) hbx
              have hfz := Gn.frozen_row hbx 15
              clear hbx
              go_simp
              clear c0 hfz
              refine hK.out _ _ ⟨trivial, fun h => Bool.noConfusion (show true = false from h)⟩ (fun hHeld => ?_)
              clear hK K
              try simp only [Act.put, p4, p5, p6, p1, p2, p3]
              refine HeldU.wpAnyU_done (by kernel_rfl) ?_ _
              refine NoPanic.normal ?_
              have HS := Lib.hid (HL.out.stored HKM.out)
              go_wp2_with fail
              go_roundw
              case rel => exact ⟨k + 1, B5, d5, D6, d6, by go_num, by omega, HS.out⟩
              case measure => simp [intOf]; omega
            refine HeldU.AllReadyU.cons rfl (fun K hK => ?_) HeldU.AllReadyU.nil
            · go_simp
              have hab := (Below.refl ((w4.drew.alloc (.cells #[.int .i64 y0, .int .i64 y1, .string y2] 54))).heap.size (w4.drew.alloc (.cells #[.int .i64 y0, .int .i64 y1, .string y2] 54))).alloc (Nat.le_refl _) (.cells #[.int .i64 y0, .int .i64 y1, .string y2] 53)
              have HN2 := Lib.hid (heap_alloc_new ((w4.drew.alloc (.cells #[.int .i64 y0, .int .i64 y1, .string y2] 54))) (.cells #[.int .i64 y0, .int .i64 y1, .string y2] 53))
              have HL := Lib.hid (HL.out.below hab)
              have HQ := Lib.hid ((hab.block _ (Gn.heap_lt HQ.out)).trans HQ.out)
              have HN1 := Lib.hid ((hab.block _ (Gn.heap_lt HN1.out)).trans HN1.out)
              clear hab
              refine hK.out _ _ ⟨trivial, fun _ => HGG.out _ _ _ HL.out HQ.out⟩ (fun hHeld => ?_)
              clear hK K
              try simp only [Act.put, p4, p5, p6, p1, p2, p3]
              refine HeldU.wpAnyU_ready (rs := [4]) (by kernel_rfl) (by simp) ?_
              refine HeldU.AllReadyU.cons rfl (fun K hK => ?_) HeldU.AllReadyU.nil
              refine step_append _ (by rfl) (.tmp 102) (.tmp 104) 29 54 3 (by decide) (by rfl) i0 (.agg #[.int .i64 0, .int .i64 0, .string ⟨#[]⟩]) 32 Tryd.underlying29 hi0 hz0 hz1 hz2 (by rfl) W1.heap.size (.slice B k c2) k _ (by simp [Act.eval]) HL.out.own1 ⟨w4.drew.heap.size, 0, none⟩ 1 (by simp [Act.eval]) (entC ⟨y0, y1, y2⟩) rfl (three_newT _ ⟨y0, y1, y2⟩ HN1.out) (by intro u hu; simp only [entC, List.mem_cons, List.not_mem_nil, or_false] at hu; rcases hu with rfl | rfl | rfl <;> rfl) (by unfold maxLen; omega) (by omega) HL.out.bel.size ?_
              intro v5 w5 ho hg
              obtain ⟨B5, d5, rfl⟩ := Gn.slice_of ho
              rw [← HY.out] at ho
              have HQ := Lib.hid (show w5.heap[q8]? = some (.cells #[.int .i64 y0, .int .i64 y1, .string y2] 53 (0, 0)) from Oct.grown_keeps hg HL.out.own1 HQ.out (by decide))
              have HN2 := Lib.hid (show w5.heap[(w4.drew.alloc (.cells #[.int .i64 y0, .int .i64 y1, .string y2] 54)).heap.size]? = some (.cells #[.int .i64 y0, .int .i64 y1, .string y2] 53 (0, 0)) from Oct.grown_keeps hg HL.out.own1 HN2.out (by decide))
              have HL := Lib.hid (HL.out.grow1 HKM.out ho hg)
              clear ho hg
              refine hK.out _ _ ⟨trivial, fun _ => HGG.out _ _ _ HL.out HQ.out⟩ (fun hHeld => ?_)
              clear hK K
              try simp only [Act.put, p4, p5, p6, p1, p2, p3]
              refine HeldU.wpAnyU_take (i := 10) (v := ?_) rfl (by kernel_rfl) (by kernel_rfl) (by kernel_rfl) (by kernel_rfl) (by rfl) (fun _ _ _ h => h) (Or.inl ⟨by rfl, ?_⟩) (by assumption) ?_
              rotate_left
              · intro w hSw
                clear hSw
                go_simp
                try with_reducible rfl
              try simp only [Act.put, p4, p5, p6, p1, p2, p3]
              refine HeldU.wpAnyU_ready (rs := [9]) (by kernel_rfl) (by simp) ?_
              refine HeldU.AllReadyU.cons rfl (fun K hK => ?_) HeldU.AllReadyU.nil
              refine step_append _ (by rfl) (.tmp 107) (.tmp 109) 32 53 3 (by decide) (by rfl) j0 (.agg #[.int .i64 0, .int .i64 0, .string ⟨#[]⟩]) 32 Tryd.underlying32 hj0 hy0 hy1 hy2 (by rfl) W1.heap.size (.slice D k c3) k _ (by simp [Act.eval]) HL.out.own2 ⟨(w4.drew.alloc (.cells #[.int .i64 y0, .int .i64 y1, .string y2] 54)).heap.size, 0, none⟩ 1 (by simp [Act.eval]) (entC ⟨y0, y1, y2⟩) rfl (three_newT _ ⟨y0, y1, y2⟩ HN2.out) (by intro u hu; simp only [entC, List.mem_cons, List.not_mem_nil, or_false] at hu; rcases hu with rfl | rfl | rfl <;> rfl) (by unfold maxLen; omega) (by omega) HL.out.bel.size ?_
              intro v6 w6 ho hg
              obtain ⟨D6, d6, rfl⟩ := Gn.slice_of ho
              rw [← HY.out] at ho
              have HL := Lib.hid (HL.out.grow2 HKM.out ho hg)
              clear ho hg
              refine hK.out _ _ ⟨trivial, fun h => Bool.noConfusion (show true = false from h)⟩ (fun hHeld => ?_)
              clear hK K
              try simp only [Act.put, p4, p5, p6, p1, p2, p3]
              refine HeldU.wpAnyU_ready (rs := [11]) (by kernel_rfl) (by simp) ?_
              refine HeldU.AllReadyU.cons rfl (fun K hK => ?_) HeldU.AllReadyU.nil
              have c0 := cell_of_row _ _ 15 _ _ (0, 0) HL.out.boxA
              have hfz := Gn.frozen_row HL.out.boxA 15
              go_simp
              clear c0 hfz
              refine hK.out _ _ ⟨trivial, fun h => Bool.noConfusion (show true = false from h)⟩ (fun hHeld => ?_)
              clear hK K
              try simp only [Act.put, p4, p5, p6, p1, p2, p3]
              refine HeldU.wpAnyU_take (i := 12) (v := ?_) rfl (by kernel_rfl) (by kernel_rfl) (by kernel_rfl) (by kernel_rfl) (by rfl) (fun _ _ _ h => h) (Or.inl ⟨by rfl, ?_⟩) (by assumption) ?_
              rotate_left
              · intro w hSw
                clear hSw
                go_simp
                try with_reducible rfl
              try simp only [Act.put, p4, p5, p6, p1, p2, p3]
              refine HeldU.wpAnyU_ready (rs := [13]) (by kernel_rfl) (by simp) ?_
              refine HeldU.AllReadyU.cons rfl (fun K hK => ?_) HeldU.AllReadyU.nil
              have hbx : (w6.setCell ⟨pa, 15, none⟩ (.slice B5 (k + 1) d5)).heap[pb]? = _ := (Gn.set_keep _ _ _ HL.out.ne).trans HL.out.boxB
              have c0 := cell_of_row _ _ 15 _ _ (0, 0) hbx
              have hfz := Gn.frozen_row hbx 15
              clear hbx
              go_simp
              clear c0 hfz
              refine hK.out _ _ ⟨trivial, fun h => Bool.noConfusion (show true = false from h)⟩ (fun hHeld => ?_)
              clear hK K
              try simp only [Act.put, p4, p5, p6, p1, p2, p3]
              refine HeldU.wpAnyU_done (by kernel_rfl) ?_ _
              refine NoPanic.normal ?_
              have HS := Lib.hid (HL.out.stored HKM.out)
              go_wp2_with fail
              go_roundw
              case rel => exact ⟨k + 1, B5, d5, D6, d6, by go_num, by omega, HS.out⟩
              case measure => simp [intOf]; omega
          refine HeldU.AllReadyU.cons rfl (fun K hK => ?_) HeldU.AllReadyU.nil
          · go_simp
            have hab := (Below.refl (w4.drew).heap.size w4.drew).alloc (Nat.le_refl _) (.cells #[.int .i64 y0, .int .i64 y1, .string y2] 53)
            have HN2 := Lib.hid (heap_alloc_new (w4.drew) (.cells #[.int .i64 y0, .int .i64 y1, .string y2] 53))
            have HL := Lib.hid (HL.out.below hab)
            have HQ := Lib.hid ((hab.block _ (Gn.heap_lt HQ.out)).trans HQ.out)
            clear hab
            refine hK.out _ _ ⟨trivial, fun _ => HGG.out _ _ _ HL.out HQ.out⟩ (fun hHeld => ?_)
            clear hK K
            try simp only [Act.put, p4, p5, p6, p1, p2, p3]
            refine HeldU.wpAnyU_ready (rs := [3]) (by kernel_rfl) (by simp) ?_
            refine HeldU.AllReadyU.cons rfl (fun K hK => ?_) HeldU.AllReadyU.nil
            go_simp
            have hab := (Below.refl ((w4.drew.alloc (.cells #[.int .i64 y0, .int .i64 y1, .string y2] 53))).heap.size (w4.drew.alloc (.cells #[.int .i64 y0, .int .i64 y1, .string y2] 53))).alloc (Nat.le_refl _) (.cells #[.int .i64 y0, .int .i64 y1, .string y2] 54)
            have HN1 := Lib.hid (heap_alloc_new ((w4.drew.alloc (.cells #[.int .i64 y0, .int .i64 y1, .string y2] 53))) (.cells #[.int .i64 y0, .int .i64 y1, .string y2] 54))
            have HL := Lib.hid (HL.out.below hab)
            have HQ := Lib.hid ((hab.block _ (Gn.heap_lt HQ.out)).trans HQ.out)
            have HN2 := Lib.hid ((hab.block _ (Gn.heap_lt HN2.out)).trans HN2.out)
            clear hab
            refine hK.out _ _ ⟨trivial, fun _ => HGG.out _ _ _ HL.out HQ.out⟩ (fun hHeld => ?_)
            clear hK K
            try simp only [Act.put, p4, p5, p6, p1, p2, p3]
            refine HeldU.wpAnyU_ready (rs := [4]) (by kernel_rfl) (by simp) ?_
            refine HeldU.AllReadyU.cons rfl (fun K hK => ?_) HeldU.AllReadyU.nil
            refine step_append _ (by rfl) (.tmp 102) (.tmp 104) 29 54 3 (by decide) (by rfl) i0 (.agg #[.int .i64 0, .int .i64 0, .string ⟨#[]⟩]) 32 Tryd.underlying29 hi0 hz0 hz1 hz2 (by rfl) W1.heap.size (.slice B k c2) k _ (by simp [Act.eval]) HL.out.own1 ⟨(w4.drew.alloc (.cells #[.int .i64 y0, .int .i64 y1, .string y2] 53)).heap.size, 0, none⟩ 1 (by simp [Act.eval]) (entC ⟨y0, y1, y2⟩) rfl (three_newT _ ⟨y0, y1, y2⟩ HN1.out) (by intro u hu; simp only [entC, List.mem_cons, List.not_mem_nil, or_false] at hu; rcases hu with rfl | rfl | rfl <;> rfl) (by unfold maxLen; omega) (by omega) HL.out.bel.size ?_
            intro v5 w5 ho hg
            obtain ⟨B5, d5, rfl⟩ := Gn.slice_of ho
            rw [← HY.out] at ho
            have HQ := Lib.hid (show w5.heap[q8]? = some (.cells #[.int .i64 y0, .int .i64 y1, .string y2] 53 (0, 0)) from Oct.grown_keeps hg HL.out.own1 HQ.out (by decide))
            have HN2 := Lib.hid (show w5.heap[w4.drew.heap.size]? = some (.cells #[.int .i64 y0, .int .i64 y1, .string y2] 53 (0, 0)) from Oct.grown_keeps hg HL.out.own1 HN2.out (by decide))
            have HL := Lib.hid (HL.out.grow1 HKM.out ho hg)
            clear ho hg
            refine hK.out _ _ ⟨trivial, fun _ => HGG.out _ _ _ HL.out HQ.out⟩ (fun hHeld => ?_)
            clear hK K
            try simp only [Act.put, p4, p5, p6, p1, p2, p3]
            refine HeldU.wpAnyU_take (i := 10) (v := ?_) rfl (by kernel_rfl) (by kernel_rfl) (by kernel_rfl) (by kernel_rfl) (by rfl) (fun _ _ _ h => h) (Or.inl ⟨by rfl, ?_⟩) (by assumption) ?_
            rotate_left
            · intro w hSw
              clear hSw
              go_simp
              try with_reducible rfl
            try simp only [Act.put, p4, p5, p6, p1, p2, p3]
            refine HeldU.wpAnyU_ready (rs := [9]) (by kernel_rfl) (by simp) ?_
            refine HeldU.AllReadyU.cons rfl (fun K hK => ?_) HeldU.AllReadyU.nil
            refine step_append _ (by rfl) (.tmp 107) (.tmp 109) 32 53 3 (by decide) (by rfl) j0 (.agg #[.int .i64 0, .int .i64 0, .string ⟨#[]⟩]) 32 Tryd.underlying32 hj0 hy0 hy1 hy2 (by rfl) W1.heap.size (.slice D k c3) k _ (by simp [Act.eval]) HL.out.own2 ⟨w4.drew.heap.size, 0, none⟩ 1 (by simp [Act.eval]) (entC ⟨y0, y1, y2⟩) rfl (three_newT _ ⟨y0, y1, y2⟩ HN2.out) (by intro u hu; simp only [entC, List.mem_cons, List.not_mem_nil, or_false] at hu; rcases hu with rfl | rfl | rfl <;> rfl) (by unfold maxLen; omega) (by omega) HL.out.bel.size ?_
            intro v6 w6 ho hg
            obtain ⟨D6, d6, rfl⟩ := Gn.slice_of ho
            rw [← HY.out] at ho
            have HL := Lib.hid (HL.out.grow2 HKM.out ho hg)
            clear ho hg
            refine hK.out _ _ ⟨trivial, fun h => Bool.noConfusion (show true = false from h)⟩ (fun hHeld => ?_)
            clear hK K
            try simp only [Act.put, p4, p5, p6, p1, p2, p3]
            refine HeldU.wpAnyU_ready (rs := [11]) (by kernel_rfl) (by simp) ?_
            refine HeldU.AllReadyU.cons rfl (fun K hK => ?_) HeldU.AllReadyU.nil
            have c0 := cell_of_row _ _ 15 _ _ (0, 0) HL.out.boxA
            have hfz := Gn.frozen_row HL.out.boxA 15
            go_simp
            clear c0 hfz
            refine hK.out _ _ ⟨trivial, fun h => Bool.noConfusion (show true = false from h)⟩ (fun hHeld => ?_)
            clear hK K
            try simp only [Act.put, p4, p5, p6, p1, p2, p3]
            refine HeldU.wpAnyU_take (i := 12) (v := ?_) rfl (by kernel_rfl) (by kernel_rfl) (by kernel_rfl) (by kernel_rfl) (by rfl) (fun _ _ _ h => h) (Or.inl ⟨by rfl, ?_⟩) (by assumption) ?_
            rotate_left
            · intro w hSw
              clear hSw
              go_simp
              try with_reducible rfl
            try simp only [Act.put, p4, p5, p6, p1, p2, p3]
            refine HeldU.wpAnyU_ready (rs := [13]) (by kernel_rfl) (by simp) ?_
            refine HeldU.AllReadyU.cons rfl (fun K hK => ?_) HeldU.AllReadyU.nil
            have hbx : (w6.setCell ⟨pa, 15, none⟩ (.slice B5 (k + 1) d5)).heap[pb]? = _ := (Gn.set_keep _ _ _ HL.out.ne).trans HL.out.boxB
            have c0 := cell_of_row _ _ 15 _ _ (0, 0) hbx
            have hfz := Gn.frozen_row hbx 15
            clear hbx
            go_simp
            clear c0 hfz
            refine hK.out _ _ ⟨trivial, fun h => Bool.noConfusion (show true = false from h)⟩ (fun hHeld => ?_)
            clear hK K
            try simp only [Act.put, p4, p5, p6, p1, p2, p3]
            refine HeldU.wpAnyU_done (by kernel_rfl) ?_ _
            refine NoPanic.normal ?_
            have HS := Lib.hid (HL.out.stored HKM.out)
            go_wp2_with fail
            go_roundw
            case rel => exact ⟨k + 1, B5, d5, D6, d6, by go_num, by omega, HS.out⟩
            case measure => simp [intOf]; omega
      · have hke : k = nn := by omega
        subst hke
        have HD0 := Lib.hid hl
        clear hl hlt hk HL
        go_upto_region 9 with fail
        clear x15
        have HL := Lib.hid (HD0.out.below (Gn.below_drew (Below.refl _ _)))
        have hmk : mkE m k = m := by rw [HKE.out]; exact mkE_all m
        have hba := HL.out.boxA
        have hbb := HL.out.boxB
        rw [hmk] at hba hbb
        have HBA := Lib.hid hba
        have HBB := Lib.hid hbb
        clear hba hbb hmk
        obtain ⟨W9, hW9⟩ : ∃ x, x = wr.drew := ⟨_, rfl⟩
        rw [← hW9] at HBA HBB HL
        have HQ1 := Lib.hid ((HL.out.bel.block _ (Gn.heap_lt HP1.out)).trans HP1.out)
        have HQ2 := Lib.hid ((HL.out.bel.block _ (Gn.heap_lt HP2.out)).trans HP2.out)
        have hr1 := Gn.heap_lt HP1.out
        have hr2 := Gn.heap_lt HP2.out
        have hqa := HL.out.qa
        have hqb := HL.out.qb
        have hw1 := HR1.out
        have hw2 := HR2.out
        have HNE := Lib.hid (show r1 ≠ pa ∧ r1 ≠ pb ∧ r2 ≠ pa ∧ r2 ≠ pb ∧ r1 ≠ r2 ∧ w.heap.size ≤ r1 ∧ w.heap.size ≤ r2 from ⟨by omega, by omega, by omega, by omega, by omega, by omega, by omega⟩)
        have HLI := Lib.hid (show r1 < W1.heap.size ∧ r2 < W1.heap.size from ⟨hr1, hr2⟩)
        clear hr1 hr2 hqa hqb hw1 hw2
        obtain ⟨AG, hAG⟩ : ∃ v, v = Value.agg (cellsM m A5 c5 B c2) := ⟨_, rfl⟩
        obtain ⟨AH, hAH⟩ : ∃ v, v = Value.agg (cellsM m a cap D c3) := ⟨_, rfl⟩
        have HLA := Lib.hid (fun (w' : World) (h : w'.heap[pa]? = some (.cells (cellsM m A5 c5 B c2) 31 (0, 0))) => show (loadVar 31 ⟨pa, 0, none⟩).run Tryd.prog w' = .ok AG w' by
          rw [hAG]; exact run_loadVar_row w' _ _ 31 _ _ _ h Tryd.underlying31 rfl (by kernel_rfl))
        have HLB := Lib.hid (fun (w' : World) (h : w'.heap[pb]? = some (.cells (cellsM m a cap D c3) 34 (0, 0))) => show (loadVar 34 ⟨pb, 0, none⟩).run Tryd.prog w' = .ok AH w' by
          rw [hAH]; exact run_loadVar_row w' _ _ 34 _ _ _ h Tryd.underlying34 rfl (by kernel_rfl))
        have HAG := Lib.hid hAG
        have HAH := Lib.hid hAH
        clear hAG hAH
        refine wp_region_noPanic ?_
        refine wp_region_held_drew (S := (fun w : World => w.heap[pa]? = some (.cells (cellsM m A5 c5 B c2) 31 (0, 0)) ∧ w.heap[pb]? = some (.cells (cellsM m a cap D c3) 34 (0, 0)))) (by kernel_rfl) ?_ (fun hHeld => ?_)
        · rw [← hW9]; exact ⟨HBA.out, HBB.out⟩
        rw [← hW9] at hHeld ⊢
        conv in Array.replicate _ false => change #[false, false, false, false]
        refine wpAnyH_take (i := 0) (v := AG) rfl (by kernel_rfl) (by kernel_rfl) (by kernel_rfl) (fun _ _ _ h => h) (Or.inl ⟨by rfl, fun w hS => exec_load _ _ 31 _ _ AG w rfl rfl (HLA.out w hS.1)⟩) (by assumption) ?_; try simp only [Act.put, p4, p5, p6, p1, p2, p3]
        refine wpAnyH_take (i := 1) (v := AH) rfl (by kernel_rfl) (by kernel_rfl) (by kernel_rfl) (fun _ _ _ h => h) (Or.inl ⟨by rfl, fun w hS => exec_load _ _ 34 _ _ AH w rfl rfl (HLB.out w hS.2)⟩) (by assumption) ?_; try simp only [Act.put, p4, p5, p6, p1, p2, p3]
        refine wpAnyH_ready (rs := [2]) (by kernel_rfl) (by simp) ?_
        refine AllReadyH.cons rfl (fun K hK => ?_) AllReadyH.nil
        have hag := HAG.out
        refine step_store16 _ (by rfl) 31 (.tmp 2) (.tmp 113) (by rfl) r1 (.int .i64 m.kind) (.int .i64 m.frm) (.int .i64 m.born) (.slice A5 m.known.length c5) (.int .i64 m.view) (.int .i64 m.last) (.int .i64 m.op) (.int .i64 m.commit) (.int .i64 m.client) (.int .i64 m.number) (.int .i64 m.nonce) (.string m.text) (.bool m.full) (.int .i64 m.base) (.string m.state) (.slice B m.ents.length c2) _ _ _ _ _ _ _ _ _ _ _ _ _ _ _ _ _ (by simp [Act.eval]) (by simp [Act.eval]; exact hag) HQ1.out (by kernel_rfl) (by simp [Value.oneCell']) ?_
        intro w5 hst hoth hbel
        have HBA := Lib.hid ((hoth _ HNE.out.1).trans HBA.out)
        have HBB := Lib.hid ((hoth _ HNE.out.2.1).trans HBB.out)
        have HQ2 := Lib.hid ((hoth _ HNE.out.2.2.2.2.1).trans HQ2.out)
        have HO5 := Lib.hid hoth
        have HB5 := Lib.hid (hbel _ HNE.out.2.2.2.2.2.1)
        have HS5 := Lib.hid hst
        clear hst hoth hbel hag
        refine hK.out _ _ ⟨HBA.out, HBB.out⟩ (fun hHeld => ?_)
        clear hK K
        try simp only [Act.put, p4, p5, p6, p1, p2, p3]
        refine wpAnyH_ready (rs := [3]) (by kernel_rfl) (by simp) ?_
        refine AllReadyH.cons rfl (fun K hK => ?_) AllReadyH.nil
        have hah := HAH.out
        refine step_store16 _ (by rfl) 34 (.tmp 3) (.tmp 114) (by rfl) r2 (.int .i64 m.kind) (.int .i64 m.frm) (.int .i64 m.born) (.slice a m.known.length cap) (.int .i64 m.view) (.int .i64 m.last) (.int .i64 m.op) (.int .i64 m.commit) (.int .i64 m.client) (.int .i64 m.number) (.int .i64 m.nonce) (.string m.text) (.bool m.full) (.int .i64 m.base) (.string m.state) (.slice D m.ents.length c3) _ _ _ _ _ _ _ _ _ _ _ _ _ _ _ _ _ (by simp [Act.eval]) (by simp [Act.eval]; exact hah) HQ2.out (by kernel_rfl) (by simp [Value.oneCell']) ?_
        intro w6 hst hoth hbel
        have HBA := Lib.hid ((hoth _ HNE.out.2.2.1).trans HBA.out)
        have HBB := Lib.hid ((hoth _ HNE.out.2.2.2.1).trans HBB.out)
        have HS5 := Lib.hid ((hoth _ (Ne.symm HNE.out.2.2.2.2.1)).trans HS5.out)
        have HS6 := Lib.hid hst
        have HO6 := Lib.hid hoth
        have HB6 := Lib.hid (HB5.out.trans (hbel _ HNE.out.2.2.2.2.2.2))
        clear hst hoth hbel hah
        refine hK.out _ _ ⟨HBA.out, HBB.out⟩ (fun hHeld => ?_)
        clear hK K
        try simp only [Act.put, p4, p5, p6, p1, p2, p3]
        refine wpAnyH_done (by kernel_rfl) ?_ _
        refine NoPanic.normal ?_
        go_wp2_with fail
        refine bodyPost_ret (results_cells2 (P := Tryd.prog) rfl _ _ r1 r2 31 34 _ _ (0, 0) (0, 0) _ _ (by rfl) HS5.out Tryd.underlying31 (by rfl) (by kernel_rfl) (by rfl) HS6.out Tryd.underlying34 (by rfl) (by kernel_rfl)) (by rfl) ?_
        have hbw := (HB.out.trans (HL.out.bel.mono HB.out.size)).trans HB6.out
        have key : ∀ (e : TypeId), e ≠ 31 → e ≠ 34 → ∀ (r : Nat) (cs : Array Value) (fr : Nat × Nat), W9.heap[r]? = some (Obj.cells cs e fr) → w6.heap[r]? = W9.heap[r]? := fun e he hf r cs fr hr => by
          have k1 : r1 ≠ r := fun hh => by
            rw [← hh, (HL.out.bel.block _ HLI.out.1).trans HP1.out] at hr
            injection hr with hr
            injection hr with _ h2
            exact he h2.symm
          have k2 : r2 ≠ r := fun hh => by
            rw [← hh, (HL.out.bel.block _ HLI.out.2).trans HP2.out] at hr
            injection hr with hr
            injection hr with _ h2
            exact hf h2.symm
          exact (HO6.out r k2).trans (HO5.out r k1)
        have ho0 := own_same HL.out.ownK (key _ (by decide) (by decide))
        have ho1 := own_same HL.out.own1 (key _ (by decide) (by decide))
        have ho2 := own_same HL.out.own2 (key _ (by decide) (by decide))
        rw [HKE.out, List.take_length] at ho1 ho2
        have hi := HI0.out.under hbw
        rw [HKN.out] at hi
        exact ⟨_, _, rfl, ⟨A5, c5, B, c2, rfl, ints_own ho0 rfl, ents_own_any ho1 rfl⟩, ⟨a, cap, D, c3, rfl, hi, ents_own_any ho2 rfl⟩, hbw⟩
end Go.Proofs.YtfeelmblnkpfdaaDoor.Ms
