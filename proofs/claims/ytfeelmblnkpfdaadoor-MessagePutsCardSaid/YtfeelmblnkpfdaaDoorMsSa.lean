/-
  Layer 23: the document's Same.
-/
import Derived.Test.YtfeelmblnkpfdaaDoorMsIj
import Derived.Test.YtfeelmblnkpfdaaDoorLexT
import Derived.Laws.StructEq
namespace Go.Proofs.YtfeelmblnkpfdaaDoor.Ms
open Go.RowKit
set_option maxRecDepth 100000
set_option linter.unusedSimpArgs false
set_option linter.unusedVariables false

def entK (x : Ent) : Int × Int × ByteArray := (x.client, x.number, x.text)
def sameB (m p : Msg) : Bool := decide (m.kind = p.kind) && decide (m.frm = p.frm) && decide (m.born = p.born) && decide (m.known.length = p.known.length) && decide (m.view = p.view) && decide (m.last = p.last) && decide (m.op = p.op) && decide (m.commit = p.commit) && decide (m.client = p.client) && decide (m.number = p.number) && decide (m.nonce = p.nonce) && decide (m.text = p.text) && decide (m.full = p.full) && decide (m.base = p.base) && decide (m.state = p.state) && decide (m.ents.length = p.ents.length) && decide (m.known = p.known) && decide (m.ents.map entK = p.ents.map entK)
theorem entC_inj {x y : Ent} (h : entK x = entK y) : x = y := by
  obtain ⟨c, n, t⟩ := x
  obtain ⟨d, k, u⟩ := y
  injection h with h1 h2
  injection h2 with h2 h3
  have h1 : c = d := h1
  have h2 : n = k := h2
  have h3 : t = u := h3
  subst h1 h2 h3
  rfl
theorem map_entC : ∀ (k l : List Ent), k.map entK = l.map entK → k = l
  | [], [], _ => rfl
  | [], _ :: _, h => by cases h
  | _ :: _, [], h => by cases h
  | x :: k, y :: l, h => by
    rw [List.map_cons, List.map_cons] at h
    injection h with h1 h2
    rw [entC_inj h1, map_entC k l h2]
theorem sameB_iff (m p : Msg) : sameB m p = true ↔ m = p := by
  constructor
  · intro h
    unfold sameB at h
    simp only [Bool.and_eq_true, decide_eq_true_eq] at h
    obtain ⟨⟨⟨⟨⟨⟨⟨⟨⟨⟨⟨⟨⟨⟨⟨⟨⟨h1, h2⟩, h3⟩, _⟩, h5⟩, h6⟩, h7⟩, h8⟩, h9⟩, h10⟩, h11⟩, h12⟩, h13⟩, h14⟩, h15⟩, _⟩, h17⟩, h18⟩ := h
    have h18 := map_entC _ _ h18
    cases m
    cases p
    simp only at *
    subst h1 h2 h3 h5 h6 h7 h8 h9 h10 h11 h12 h13 h14 h15 h17 h18
    rfl
  · intro h
    subst h
    unfold sameB
    simp
theorem sneq (a b : ByteArray) : (a.toList != b.toList) = !decide (a = b) := by
  rw [ByteArray.toList_eq, ByteArray.toList_eq]
  by_cases h : a = b
  · subst h; simp
  · have : ¬ a.data.toList = b.data.toList := fun e => h (ByteArray.ext (Array.toList_inj.1 e))
    simp [h, this]
set_option maxHeartbeats 16000000 in
theorem same_any (m p : Msg) (a : Option Addr) (cap : Nat) (b : Option Addr) (cap2 : Nat) (a2 : Option Addr) (cap3 : Nat) (b2 : Option Addr) (cap4 : Nat) (w : World) (hi : Ints w a m.known.length m.known) (he : Ents w b m.ents.length m.ents) (hi2 : Ints w a2 p.known.length p.known) (he2 : Ents w b2 p.ents.length p.ents) (hm1 : m.known.length ≤ 1000) (hm2 : m.ents.length ≤ 1000) :
    Calls Tryd.prog 14 #[.agg (cellsM m a cap b cap2), .agg (cellsM p a2 cap3 b2 cap4)] w (Says (sameB m p) w) := by
  obtain ⟨q, hq⟩ : ∃ q, q = sameB m p := ⟨_, rfl⟩
  rw [← hq]
  unfold sameB at hq
  obtain ⟨kind, frm, born, known, view, last, op, commit, client, number, nonce, text, full, base, state, ents⟩ := m
  obtain ⟨kind2, frm2, born2, known2, view2, last2, op2, commit2, client2, number2, nonce2, text2, full2, base2, state2, ents2⟩ := p
  unfold cellsM
  dsimp only at *
  obtain ⟨n, hn⟩ : ∃ n, n = known.length := ⟨_, rfl⟩
  obtain ⟨n2, hn2⟩ : ∃ n, n = known2.length := ⟨_, rfl⟩
  obtain ⟨nn, hnn⟩ : ∃ n, n = ents.length := ⟨_, rfl⟩
  obtain ⟨nn2, hnn2⟩ : ∃ n, n = ents2.length := ⟨_, rfl⟩
  rw [← hn, ← hn2, ← hnn, ← hnn2] at hq
  rw [← hn] at hi hm1 ⊢
  rw [← hnn] at he hm2 ⊢
  rw [← hn2] at hi2 ⊢
  rw [← hnn2] at he2 ⊢
  obtain ⟨V, hV⟩ : ∃ V, V = (w.alloc (.cells #[.int .i64 kind, .int .i64 frm, .int .i64 born, .slice a n cap, .int .i64 view, .int .i64 last, .int .i64 op, .int .i64 commit, .int .i64 client, .int .i64 number, .int .i64 nonce, .string text, .bool full, .int .i64 base, .string state, .slice b nn cap2] 34)).alloc (.cells #[.int .i64 kind2, .int .i64 frm2, .int .i64 born2, .slice a2 n2 cap3, .int .i64 view2, .int .i64 last2, .int .i64 op2, .int .i64 commit2, .int .i64 client2, .int .i64 number2, .int .i64 nonce2, .string text2, .bool full2, .int .i64 base2, .string state2, .slice b2 nn2 cap4] 34) := ⟨_, rfl⟩
  have hb : Below w.heap.size w V := by rw [hV]; exact ((Below.refl _ w).alloc (Nat.le_refl _) _).alloc (by simp) _
  have hx : V.heap[w.heap.size]? = some (.cells #[.int .i64 kind, .int .i64 frm, .int .i64 born, .slice a n cap, .int .i64 view, .int .i64 last, .int .i64 op, .int .i64 commit, .int .i64 client, .int .i64 number, .int .i64 nonce, .string text, .bool full, .int .i64 base, .string state, .slice b nn cap2] 34 (0, 0)) := by rw [hV]; exact (heap_alloc_old _ _ (by simp)).trans (heap_alloc_new w _)
  have hy : V.heap[w.heap.size + 1]? = some (.cells #[.int .i64 kind2, .int .i64 frm2, .int .i64 born2, .slice a2 n2 cap3, .int .i64 view2, .int .i64 last2, .int .i64 op2, .int .i64 commit2, .int .i64 client2, .int .i64 number2, .int .i64 nonce2, .string text2, .bool full2, .int .i64 base2, .string state2, .slice b2 nn2 cap4] 34 (0, 0)) := by
    rw [hV]; have := heap_alloc_new (w.alloc (.cells #[.int .i64 kind, .int .i64 frm, .int .i64 born, .slice a n cap, .int .i64 view, .int .i64 last, .int .i64 op, .int .i64 commit, .int .i64 client, .int .i64 number, .int .i64 nonce, .string text, .bool full, .int .i64 base, .string state, .slice b nn cap2] 34)) (.cells #[.int .i64 kind2, .int .i64 frm2, .int .i64 born2, .slice a2 n2 cap3, .int .i64 view2, .int .i64 last2, .int .i64 op2, .int .i64 commit2, .int .i64 client2, .int .i64 number2, .int .i64 nonce2, .string text2, .bool full2, .int .i64 base2, .string state2, .slice b2 nn2 cap4] 34); simpa using this
  obtain ⟨p2, hp2⟩ : ∃ r, r = w.heap.size + 1 := ⟨_, rfl⟩
  rw [← hp2] at hy
  obtain ⟨p1, hp1⟩ : ∃ r, r = w.heap.size := ⟨_, rfl⟩
  rw [← hp1] at hx
  have HX := Lib.hid hx
  have HY := Lib.hid hy
  have HV := Lib.hid hV
  have HB := Lib.hid hb
  have HP1 := Lib.hid hp1
  have HP2 := Lib.hid hp2
  have HI := Lib.hid (hi.under hb)
  have HE := Lib.hid (he.under hb)
  have HI2 := Lib.hid (hi2.under hb)
  have HE2 := Lib.hid (he2.under hb)
  have HQ := Lib.hid hq
  have HN := Lib.hid hn
  have HN2 := Lib.hid hn2
  have HNN := Lib.hid hnn
  have HNN2 := Lib.hid hnn2
  clear hx hy hV hb hp1 hp2 hi he hi2 he2 hq hn hn2 hnn hnn2
  go_enter Tryd.func14, Tryd.ntmps14
  go_upto_region 1 with fail
  rw [← HV.out, ← HP2.out, ← HP1.out]
  clear HV
  apply wp_region_lit
  have x0 := cell_of_row _ _ 0 _ _ (0, 0) HX.out
  have y0 := cell_of_row _ _ 0 _ _ (0, 0) HY.out
  by_cases h0 : kind = kind2
  rotate_left
  · have HQT := Lib.hid (show q = false by rw [HQ.out, decide_eq_false h0]; simp)
    have k0 : (kind == kind2) = false := by simpa using h0
    refine LexT.wpList_val (.pointer (some ⟨p1, 0, none⟩)) (by kernel_rfl) (by go_simp) ?_
    simp only [Act.put, Ms.p1, Ms.p2, Ms.p3]
    refine LexT.wpList_val (.int .i64 kind) (by kernel_rfl) (by go_simp) ?_
    simp only [Act.put, Ms.p1, Ms.p2, Ms.p3]
    refine LexT.wpList_val (.pointer (some ⟨p2, 0, none⟩)) (by kernel_rfl) (by go_simp) ?_
    simp only [Act.put, Ms.p1, Ms.p2, Ms.p3]
    refine LexT.wpList_val (.int .i64 kind2) (by kernel_rfl) (by go_simp) ?_
    simp only [Act.put, Ms.p1, Ms.p2, Ms.p3]
    refine LexT.wpList_val (.bool true) (by kernel_rfl) (by go_simp) ?_
    simp only [Act.put, Ms.p1, Ms.p2, Ms.p3]
    refine LexT.wpList_val (.bool true) (by kernel_rfl) (by go_simp) ?_
    simp only [Act.put, Ms.p1, Ms.p2, Ms.p3]
    refine LexT.orT_wp 157 _ [12] [] _ _ (by rfl) (by intro t ht; rw [List.mem_singleton.1 ht]; rfl) (by intro t ht; cases ht) (by rfl) ?_
    intro tm hsz hF
    have h120 : tm[120]? = some (.bool true) := hF 120 (by decide)
    clear hF
    go_wp2_with fail
    refine wp_cond_true (show tm.getD 120 undef = .bool true by simp [h120]) ?_
    go_wp2_with fail
    refine bodyPost_ret (results_tmp rfl _ _ _) rfl ?_
    exact ⟨by rw [HQT.out]; simp [hsz], HB.out⟩
  subst h0
  refine LexT.wpList_val (.pointer (some ⟨p1, 0, none⟩)) (by kernel_rfl) (by go_simp) ?_
  simp only [Act.put, Ms.p1, Ms.p2, Ms.p3]
  refine LexT.wpList_val (.int .i64 kind) (by kernel_rfl) (by go_simp) ?_
  simp only [Act.put, Ms.p1, Ms.p2, Ms.p3]
  refine LexT.wpList_val (.pointer (some ⟨p2, 0, none⟩)) (by kernel_rfl) (by go_simp) ?_
  simp only [Act.put, Ms.p1, Ms.p2, Ms.p3]
  refine LexT.wpList_val (.int .i64 kind) (by kernel_rfl) (by go_simp) ?_
  simp only [Act.put, Ms.p1, Ms.p2, Ms.p3]
  refine LexT.wpList_val (.bool false) (by kernel_rfl) (by go_simp) ?_
  simp only [Act.put, Ms.p1, Ms.p2, Ms.p3]
  refine LexT.wpList_val (.bool false) (by kernel_rfl) (by go_simp) ?_
  simp only [Act.put, Ms.p1, Ms.p2, Ms.p3]
  clear x0 y0
  have x1 := cell_of_row _ _ 1 _ _ (0, 0) HX.out
  have y1 := cell_of_row _ _ 1 _ _ (0, 0) HY.out
  by_cases h1 : frm = frm2
  rotate_left
  · have HQT := Lib.hid (show q = false by rw [HQ.out, decide_eq_false h1]; simp)
    have k1 : (frm == frm2) = false := by simpa using h1
    refine LexT.wpList_val (.pointer (some ⟨p1, 1, none⟩)) (by kernel_rfl) (by go_simp) ?_
    simp only [Act.put, Ms.p1, Ms.p2, Ms.p3]
    refine LexT.wpList_val (.int .i64 frm) (by kernel_rfl) (by go_simp) ?_
    simp only [Act.put, Ms.p1, Ms.p2, Ms.p3]
    refine LexT.wpList_val (.pointer (some ⟨p2, 1, none⟩)) (by kernel_rfl) (by go_simp) ?_
    simp only [Act.put, Ms.p1, Ms.p2, Ms.p3]
    refine LexT.wpList_val (.int .i64 frm2) (by kernel_rfl) (by go_simp) ?_
    simp only [Act.put, Ms.p1, Ms.p2, Ms.p3]
    refine LexT.wpList_val (.bool true) (by kernel_rfl) (by go_simp) ?_
    simp only [Act.put, Ms.p1, Ms.p2, Ms.p3]
    refine LexT.wpList_val (.bool true) (by kernel_rfl) (by go_simp) ?_
    simp only [Act.put, Ms.p1, Ms.p2, Ms.p3]
    refine LexT.wpList_val (.bool true) (by kernel_rfl) (by go_simp) ?_
    simp only [Act.put, Ms.p1, Ms.p2, Ms.p3]
    refine LexT.orT_wp 157 _ [19] [] _ _ (by rfl) (by intro t ht; rw [List.mem_singleton.1 ht]; rfl) (by intro t ht; cases ht) (by rfl) ?_
    intro tm hsz hF
    have h120 : tm[120]? = some (.bool true) := hF 120 (by decide)
    clear hF
    go_wp2_with fail
    refine wp_cond_true (show tm.getD 120 undef = .bool true by simp [h120]) ?_
    go_wp2_with fail
    refine bodyPost_ret (results_tmp rfl _ _ _) rfl ?_
    exact ⟨by rw [HQT.out]; simp [hsz], HB.out⟩
  subst h1
  refine LexT.wpList_val (.pointer (some ⟨p1, 1, none⟩)) (by kernel_rfl) (by go_simp) ?_
  simp only [Act.put, Ms.p1, Ms.p2, Ms.p3]
  refine LexT.wpList_val (.int .i64 frm) (by kernel_rfl) (by go_simp) ?_
  simp only [Act.put, Ms.p1, Ms.p2, Ms.p3]
  refine LexT.wpList_val (.pointer (some ⟨p2, 1, none⟩)) (by kernel_rfl) (by go_simp) ?_
  simp only [Act.put, Ms.p1, Ms.p2, Ms.p3]
  refine LexT.wpList_val (.int .i64 frm) (by kernel_rfl) (by go_simp) ?_
  simp only [Act.put, Ms.p1, Ms.p2, Ms.p3]
  refine LexT.wpList_val (.bool false) (by kernel_rfl) (by go_simp) ?_
  simp only [Act.put, Ms.p1, Ms.p2, Ms.p3]
  refine LexT.wpList_val (.bool false) (by kernel_rfl) (by go_simp) ?_
  simp only [Act.put, Ms.p1, Ms.p2, Ms.p3]
  refine LexT.wpList_val (.bool false) (by kernel_rfl) (by go_simp) ?_
  simp only [Act.put, Ms.p1, Ms.p2, Ms.p3]
  clear x1 y1
  have x2 := cell_of_row _ _ 2 _ _ (0, 0) HX.out
  have y2 := cell_of_row _ _ 2 _ _ (0, 0) HY.out
  by_cases h2 : born = born2
  rotate_left
  · have HQT := Lib.hid (show q = false by rw [HQ.out, decide_eq_false h2]; simp)
    have k2 : (born == born2) = false := by simpa using h2
    refine LexT.wpList_val (.pointer (some ⟨p1, 2, none⟩)) (by kernel_rfl) (by go_simp) ?_
    simp only [Act.put, Ms.p1, Ms.p2, Ms.p3]
    refine LexT.wpList_val (.int .i64 born) (by kernel_rfl) (by go_simp) ?_
    simp only [Act.put, Ms.p1, Ms.p2, Ms.p3]
    refine LexT.wpList_val (.pointer (some ⟨p2, 2, none⟩)) (by kernel_rfl) (by go_simp) ?_
    simp only [Act.put, Ms.p1, Ms.p2, Ms.p3]
    refine LexT.wpList_val (.int .i64 born2) (by kernel_rfl) (by go_simp) ?_
    simp only [Act.put, Ms.p1, Ms.p2, Ms.p3]
    refine LexT.wpList_val (.bool true) (by kernel_rfl) (by go_simp) ?_
    simp only [Act.put, Ms.p1, Ms.p2, Ms.p3]
    refine LexT.wpList_val (.bool true) (by kernel_rfl) (by go_simp) ?_
    simp only [Act.put, Ms.p1, Ms.p2, Ms.p3]
    refine LexT.wpList_val (.bool true) (by kernel_rfl) (by go_simp) ?_
    simp only [Act.put, Ms.p1, Ms.p2, Ms.p3]
    refine LexT.orT_wp 157 _ [26] [] _ _ (by rfl) (by intro t ht; rw [List.mem_singleton.1 ht]; rfl) (by intro t ht; cases ht) (by rfl) ?_
    intro tm hsz hF
    have h120 : tm[120]? = some (.bool true) := hF 120 (by decide)
    clear hF
    go_wp2_with fail
    refine wp_cond_true (show tm.getD 120 undef = .bool true by simp [h120]) ?_
    go_wp2_with fail
    refine bodyPost_ret (results_tmp rfl _ _ _) rfl ?_
    exact ⟨by rw [HQT.out]; simp [hsz], HB.out⟩
  subst h2
  refine LexT.wpList_val (.pointer (some ⟨p1, 2, none⟩)) (by kernel_rfl) (by go_simp) ?_
  simp only [Act.put, Ms.p1, Ms.p2, Ms.p3]
  refine LexT.wpList_val (.int .i64 born) (by kernel_rfl) (by go_simp) ?_
  simp only [Act.put, Ms.p1, Ms.p2, Ms.p3]
  refine LexT.wpList_val (.pointer (some ⟨p2, 2, none⟩)) (by kernel_rfl) (by go_simp) ?_
  simp only [Act.put, Ms.p1, Ms.p2, Ms.p3]
  refine LexT.wpList_val (.int .i64 born) (by kernel_rfl) (by go_simp) ?_
  simp only [Act.put, Ms.p1, Ms.p2, Ms.p3]
  refine LexT.wpList_val (.bool false) (by kernel_rfl) (by go_simp) ?_
  simp only [Act.put, Ms.p1, Ms.p2, Ms.p3]
  refine LexT.wpList_val (.bool false) (by kernel_rfl) (by go_simp) ?_
  simp only [Act.put, Ms.p1, Ms.p2, Ms.p3]
  refine LexT.wpList_val (.bool false) (by kernel_rfl) (by go_simp) ?_
  simp only [Act.put, Ms.p1, Ms.p2, Ms.p3]
  clear x2 y2
  have x3 := cell_of_row _ _ 3 _ _ (0, 0) HX.out
  have y3 := cell_of_row _ _ 3 _ _ (0, 0) HY.out
  by_cases h3 : n = n2
  rotate_left
  · have HQT := Lib.hid (show q = false by rw [HQ.out, decide_eq_false h3]; simp)
    have k3 : ((n : Int) == (n2 : Int)) = false := by rw [beq_eq_false_iff_ne]; omega
    have m3 : ¬ ((n : Int) = (n2 : Int)) := by omega
    refine LexT.wpList_val (.pointer (some ⟨p1, 3, none⟩)) (by kernel_rfl) (by go_simp) ?_
    simp only [Act.put, Ms.p1, Ms.p2, Ms.p3]
    refine LexT.wpList_val (.slice a n cap) (by kernel_rfl) (by go_simp) ?_
    simp only [Act.put, Ms.p1, Ms.p2, Ms.p3]
    refine LexT.wpList_val (.int .i64 (n : Nat)) (by kernel_rfl) (by go_simp) ?_
    simp only [Act.put, Ms.p1, Ms.p2, Ms.p3]
    refine LexT.wpList_val (.pointer (some ⟨p2, 3, none⟩)) (by kernel_rfl) (by go_simp) ?_
    simp only [Act.put, Ms.p1, Ms.p2, Ms.p3]
    refine LexT.wpList_val (.slice a2 n2 cap3) (by kernel_rfl) (by go_simp) ?_
    simp only [Act.put, Ms.p1, Ms.p2, Ms.p3]
    refine LexT.wpList_val (.int .i64 ((n2 : Nat))) (by kernel_rfl) (by go_simp) ?_
    simp only [Act.put, Ms.p1, Ms.p2, Ms.p3]
    refine LexT.wpList_val (.bool true) (by kernel_rfl) (by go_simp) ?_
    simp only [Act.put, Ms.p1, Ms.p2, Ms.p3]
    refine LexT.wpList_val (.bool true) (by kernel_rfl) (by go_simp) ?_
    simp only [Act.put, Ms.p1, Ms.p2, Ms.p3]
    refine LexT.wpList_val (.bool true) (by kernel_rfl) (by go_simp) ?_
    simp only [Act.put, Ms.p1, Ms.p2, Ms.p3]
    refine LexT.orT_wp 157 _ [35] [] _ _ (by rfl) (by intro t ht; rw [List.mem_singleton.1 ht]; rfl) (by intro t ht; cases ht) (by rfl) ?_
    intro tm hsz hF
    have h120 : tm[120]? = some (.bool true) := hF 120 (by decide)
    clear hF
    go_wp2_with fail
    refine wp_cond_true (show tm.getD 120 undef = .bool true by simp [h120]) ?_
    go_wp2_with fail
    refine bodyPost_ret (results_tmp rfl _ _ _) rfl ?_
    exact ⟨by rw [HQT.out]; simp [hsz], HB.out⟩
  subst h3
  refine LexT.wpList_val (.pointer (some ⟨p1, 3, none⟩)) (by kernel_rfl) (by go_simp) ?_
  simp only [Act.put, Ms.p1, Ms.p2, Ms.p3]
  refine LexT.wpList_val (.slice a n cap) (by kernel_rfl) (by go_simp) ?_
  simp only [Act.put, Ms.p1, Ms.p2, Ms.p3]
  refine LexT.wpList_val (.int .i64 (n : Nat)) (by kernel_rfl) (by go_simp) ?_
  simp only [Act.put, Ms.p1, Ms.p2, Ms.p3]
  refine LexT.wpList_val (.pointer (some ⟨p2, 3, none⟩)) (by kernel_rfl) (by go_simp) ?_
  simp only [Act.put, Ms.p1, Ms.p2, Ms.p3]
  refine LexT.wpList_val (.slice a2 n cap3) (by kernel_rfl) (by go_simp) ?_
  simp only [Act.put, Ms.p1, Ms.p2, Ms.p3]
  refine LexT.wpList_val (.int .i64 ((n : Nat))) (by kernel_rfl) (by go_simp) ?_
  simp only [Act.put, Ms.p1, Ms.p2, Ms.p3]
  refine LexT.wpList_val (.bool false) (by kernel_rfl) (by go_simp) ?_
  simp only [Act.put, Ms.p1, Ms.p2, Ms.p3]
  refine LexT.wpList_val (.bool false) (by kernel_rfl) (by go_simp) ?_
  simp only [Act.put, Ms.p1, Ms.p2, Ms.p3]
  refine LexT.wpList_val (.bool false) (by kernel_rfl) (by go_simp) ?_
  simp only [Act.put, Ms.p1, Ms.p2, Ms.p3]
  clear x3 y3
  have x4 := cell_of_row _ _ 4 _ _ (0, 0) HX.out
  have y4 := cell_of_row _ _ 4 _ _ (0, 0) HY.out
  by_cases h4 : view = view2
  rotate_left
  · have HQT := Lib.hid (show q = false by rw [HQ.out, decide_eq_false h4]; simp)
    have k4 : (view == view2) = false := by simpa using h4
    refine LexT.wpList_val (.pointer (some ⟨p1, 4, none⟩)) (by kernel_rfl) (by go_simp) ?_
    simp only [Act.put, Ms.p1, Ms.p2, Ms.p3]
    refine LexT.wpList_val (.int .i64 view) (by kernel_rfl) (by go_simp) ?_
    simp only [Act.put, Ms.p1, Ms.p2, Ms.p3]
    refine LexT.wpList_val (.pointer (some ⟨p2, 4, none⟩)) (by kernel_rfl) (by go_simp) ?_
    simp only [Act.put, Ms.p1, Ms.p2, Ms.p3]
    refine LexT.wpList_val (.int .i64 view2) (by kernel_rfl) (by go_simp) ?_
    simp only [Act.put, Ms.p1, Ms.p2, Ms.p3]
    refine LexT.wpList_val (.bool true) (by kernel_rfl) (by go_simp) ?_
    simp only [Act.put, Ms.p1, Ms.p2, Ms.p3]
    refine LexT.wpList_val (.bool true) (by kernel_rfl) (by go_simp) ?_
    simp only [Act.put, Ms.p1, Ms.p2, Ms.p3]
    refine LexT.wpList_val (.bool true) (by kernel_rfl) (by go_simp) ?_
    simp only [Act.put, Ms.p1, Ms.p2, Ms.p3]
    refine LexT.orT_wp 157 _ [42] [] _ _ (by rfl) (by intro t ht; rw [List.mem_singleton.1 ht]; rfl) (by intro t ht; cases ht) (by rfl) ?_
    intro tm hsz hF
    have h120 : tm[120]? = some (.bool true) := hF 120 (by decide)
    clear hF
    go_wp2_with fail
    refine wp_cond_true (show tm.getD 120 undef = .bool true by simp [h120]) ?_
    go_wp2_with fail
    refine bodyPost_ret (results_tmp rfl _ _ _) rfl ?_
    exact ⟨by rw [HQT.out]; simp [hsz], HB.out⟩
  subst h4
  refine LexT.wpList_val (.pointer (some ⟨p1, 4, none⟩)) (by kernel_rfl) (by go_simp) ?_
  simp only [Act.put, Ms.p1, Ms.p2, Ms.p3]
  refine LexT.wpList_val (.int .i64 view) (by kernel_rfl) (by go_simp) ?_
  simp only [Act.put, Ms.p1, Ms.p2, Ms.p3]
  refine LexT.wpList_val (.pointer (some ⟨p2, 4, none⟩)) (by kernel_rfl) (by go_simp) ?_
  simp only [Act.put, Ms.p1, Ms.p2, Ms.p3]
  refine LexT.wpList_val (.int .i64 view) (by kernel_rfl) (by go_simp) ?_
  simp only [Act.put, Ms.p1, Ms.p2, Ms.p3]
  refine LexT.wpList_val (.bool false) (by kernel_rfl) (by go_simp) ?_
  simp only [Act.put, Ms.p1, Ms.p2, Ms.p3]
  refine LexT.wpList_val (.bool false) (by kernel_rfl) (by go_simp) ?_
  simp only [Act.put, Ms.p1, Ms.p2, Ms.p3]
  refine LexT.wpList_val (.bool false) (by kernel_rfl) (by go_simp) ?_
  simp only [Act.put, Ms.p1, Ms.p2, Ms.p3]
  clear x4 y4
  have x5 := cell_of_row _ _ 5 _ _ (0, 0) HX.out
  have y5 := cell_of_row _ _ 5 _ _ (0, 0) HY.out
  by_cases h5 : last = last2
  rotate_left
  · have HQT := Lib.hid (show q = false by rw [HQ.out, decide_eq_false h5]; simp)
    have k5 : (last == last2) = false := by simpa using h5
    refine LexT.wpList_val (.pointer (some ⟨p1, 5, none⟩)) (by kernel_rfl) (by go_simp) ?_
    simp only [Act.put, Ms.p1, Ms.p2, Ms.p3]
    refine LexT.wpList_val (.int .i64 last) (by kernel_rfl) (by go_simp) ?_
    simp only [Act.put, Ms.p1, Ms.p2, Ms.p3]
    refine LexT.wpList_val (.pointer (some ⟨p2, 5, none⟩)) (by kernel_rfl) (by go_simp) ?_
    simp only [Act.put, Ms.p1, Ms.p2, Ms.p3]
    refine LexT.wpList_val (.int .i64 last2) (by kernel_rfl) (by go_simp) ?_
    simp only [Act.put, Ms.p1, Ms.p2, Ms.p3]
    refine LexT.wpList_val (.bool true) (by kernel_rfl) (by go_simp) ?_
    simp only [Act.put, Ms.p1, Ms.p2, Ms.p3]
    refine LexT.wpList_val (.bool true) (by kernel_rfl) (by go_simp) ?_
    simp only [Act.put, Ms.p1, Ms.p2, Ms.p3]
    refine LexT.wpList_val (.bool true) (by kernel_rfl) (by go_simp) ?_
    simp only [Act.put, Ms.p1, Ms.p2, Ms.p3]
    refine LexT.orT_wp 157 _ [49] [] _ _ (by rfl) (by intro t ht; rw [List.mem_singleton.1 ht]; rfl) (by intro t ht; cases ht) (by rfl) ?_
    intro tm hsz hF
    have h120 : tm[120]? = some (.bool true) := hF 120 (by decide)
    clear hF
    go_wp2_with fail
    refine wp_cond_true (show tm.getD 120 undef = .bool true by simp [h120]) ?_
    go_wp2_with fail
    refine bodyPost_ret (results_tmp rfl _ _ _) rfl ?_
    exact ⟨by rw [HQT.out]; simp [hsz], HB.out⟩
  subst h5
  refine LexT.wpList_val (.pointer (some ⟨p1, 5, none⟩)) (by kernel_rfl) (by go_simp) ?_
  simp only [Act.put, Ms.p1, Ms.p2, Ms.p3]
  refine LexT.wpList_val (.int .i64 last) (by kernel_rfl) (by go_simp) ?_
  simp only [Act.put, Ms.p1, Ms.p2, Ms.p3]
  refine LexT.wpList_val (.pointer (some ⟨p2, 5, none⟩)) (by kernel_rfl) (by go_simp) ?_
  simp only [Act.put, Ms.p1, Ms.p2, Ms.p3]
  refine LexT.wpList_val (.int .i64 last) (by kernel_rfl) (by go_simp) ?_
  simp only [Act.put, Ms.p1, Ms.p2, Ms.p3]
  refine LexT.wpList_val (.bool false) (by kernel_rfl) (by go_simp) ?_
  simp only [Act.put, Ms.p1, Ms.p2, Ms.p3]
  refine LexT.wpList_val (.bool false) (by kernel_rfl) (by go_simp) ?_
  simp only [Act.put, Ms.p1, Ms.p2, Ms.p3]
  refine LexT.wpList_val (.bool false) (by kernel_rfl) (by go_simp) ?_
  simp only [Act.put, Ms.p1, Ms.p2, Ms.p3]
  clear x5 y5
  have x6 := cell_of_row _ _ 6 _ _ (0, 0) HX.out
  have y6 := cell_of_row _ _ 6 _ _ (0, 0) HY.out
  by_cases h6 : op = op2
  rotate_left
  · have HQT := Lib.hid (show q = false by rw [HQ.out, decide_eq_false h6]; simp)
    have k6 : (op == op2) = false := by simpa using h6
    refine LexT.wpList_val (.pointer (some ⟨p1, 6, none⟩)) (by kernel_rfl) (by go_simp) ?_
    simp only [Act.put, Ms.p1, Ms.p2, Ms.p3]
    refine LexT.wpList_val (.int .i64 op) (by kernel_rfl) (by go_simp) ?_
    simp only [Act.put, Ms.p1, Ms.p2, Ms.p3]
    refine LexT.wpList_val (.pointer (some ⟨p2, 6, none⟩)) (by kernel_rfl) (by go_simp) ?_
    simp only [Act.put, Ms.p1, Ms.p2, Ms.p3]
    refine LexT.wpList_val (.int .i64 op2) (by kernel_rfl) (by go_simp) ?_
    simp only [Act.put, Ms.p1, Ms.p2, Ms.p3]
    refine LexT.wpList_val (.bool true) (by kernel_rfl) (by go_simp) ?_
    simp only [Act.put, Ms.p1, Ms.p2, Ms.p3]
    refine LexT.wpList_val (.bool true) (by kernel_rfl) (by go_simp) ?_
    simp only [Act.put, Ms.p1, Ms.p2, Ms.p3]
    refine LexT.wpList_val (.bool true) (by kernel_rfl) (by go_simp) ?_
    simp only [Act.put, Ms.p1, Ms.p2, Ms.p3]
    refine LexT.orT_wp 157 _ [56] [] _ _ (by rfl) (by intro t ht; rw [List.mem_singleton.1 ht]; rfl) (by intro t ht; cases ht) (by rfl) ?_
    intro tm hsz hF
    have h120 : tm[120]? = some (.bool true) := hF 120 (by decide)
    clear hF
    go_wp2_with fail
    refine wp_cond_true (show tm.getD 120 undef = .bool true by simp [h120]) ?_
    go_wp2_with fail
    refine bodyPost_ret (results_tmp rfl _ _ _) rfl ?_
    exact ⟨by rw [HQT.out]; simp [hsz], HB.out⟩
  subst h6
  refine LexT.wpList_val (.pointer (some ⟨p1, 6, none⟩)) (by kernel_rfl) (by go_simp) ?_
  simp only [Act.put, Ms.p1, Ms.p2, Ms.p3]
  refine LexT.wpList_val (.int .i64 op) (by kernel_rfl) (by go_simp) ?_
  simp only [Act.put, Ms.p1, Ms.p2, Ms.p3]
  refine LexT.wpList_val (.pointer (some ⟨p2, 6, none⟩)) (by kernel_rfl) (by go_simp) ?_
  simp only [Act.put, Ms.p1, Ms.p2, Ms.p3]
  refine LexT.wpList_val (.int .i64 op) (by kernel_rfl) (by go_simp) ?_
  simp only [Act.put, Ms.p1, Ms.p2, Ms.p3]
  refine LexT.wpList_val (.bool false) (by kernel_rfl) (by go_simp) ?_
  simp only [Act.put, Ms.p1, Ms.p2, Ms.p3]
  refine LexT.wpList_val (.bool false) (by kernel_rfl) (by go_simp) ?_
  simp only [Act.put, Ms.p1, Ms.p2, Ms.p3]
  refine LexT.wpList_val (.bool false) (by kernel_rfl) (by go_simp) ?_
  simp only [Act.put, Ms.p1, Ms.p2, Ms.p3]
  clear x6 y6
  have x7 := cell_of_row _ _ 7 _ _ (0, 0) HX.out
  have y7 := cell_of_row _ _ 7 _ _ (0, 0) HY.out
  by_cases h7 : commit = commit2
  rotate_left
  · have HQT := Lib.hid (show q = false by rw [HQ.out, decide_eq_false h7]; simp)
    have k7 : (commit == commit2) = false := by simpa using h7
    refine LexT.wpList_val (.pointer (some ⟨p1, 7, none⟩)) (by kernel_rfl) (by go_simp) ?_
    simp only [Act.put, Ms.p1, Ms.p2, Ms.p3]
    refine LexT.wpList_val (.int .i64 commit) (by kernel_rfl) (by go_simp) ?_
    simp only [Act.put, Ms.p1, Ms.p2, Ms.p3]
    refine LexT.wpList_val (.pointer (some ⟨p2, 7, none⟩)) (by kernel_rfl) (by go_simp) ?_
    simp only [Act.put, Ms.p1, Ms.p2, Ms.p3]
    refine LexT.wpList_val (.int .i64 commit2) (by kernel_rfl) (by go_simp) ?_
    simp only [Act.put, Ms.p1, Ms.p2, Ms.p3]
    refine LexT.wpList_val (.bool true) (by kernel_rfl) (by go_simp) ?_
    simp only [Act.put, Ms.p1, Ms.p2, Ms.p3]
    refine LexT.wpList_val (.bool true) (by kernel_rfl) (by go_simp) ?_
    simp only [Act.put, Ms.p1, Ms.p2, Ms.p3]
    refine LexT.wpList_val (.bool true) (by kernel_rfl) (by go_simp) ?_
    simp only [Act.put, Ms.p1, Ms.p2, Ms.p3]
    refine LexT.orT_wp 157 _ [63] [] _ _ (by rfl) (by intro t ht; rw [List.mem_singleton.1 ht]; rfl) (by intro t ht; cases ht) (by rfl) ?_
    intro tm hsz hF
    have h120 : tm[120]? = some (.bool true) := hF 120 (by decide)
    clear hF
    go_wp2_with fail
    refine wp_cond_true (show tm.getD 120 undef = .bool true by simp [h120]) ?_
    go_wp2_with fail
    refine bodyPost_ret (results_tmp rfl _ _ _) rfl ?_
    exact ⟨by rw [HQT.out]; simp [hsz], HB.out⟩
  subst h7
  refine LexT.wpList_val (.pointer (some ⟨p1, 7, none⟩)) (by kernel_rfl) (by go_simp) ?_
  simp only [Act.put, Ms.p1, Ms.p2, Ms.p3]
  refine LexT.wpList_val (.int .i64 commit) (by kernel_rfl) (by go_simp) ?_
  simp only [Act.put, Ms.p1, Ms.p2, Ms.p3]
  refine LexT.wpList_val (.pointer (some ⟨p2, 7, none⟩)) (by kernel_rfl) (by go_simp) ?_
  simp only [Act.put, Ms.p1, Ms.p2, Ms.p3]
  refine LexT.wpList_val (.int .i64 commit) (by kernel_rfl) (by go_simp) ?_
  simp only [Act.put, Ms.p1, Ms.p2, Ms.p3]
  refine LexT.wpList_val (.bool false) (by kernel_rfl) (by go_simp) ?_
  simp only [Act.put, Ms.p1, Ms.p2, Ms.p3]
  refine LexT.wpList_val (.bool false) (by kernel_rfl) (by go_simp) ?_
  simp only [Act.put, Ms.p1, Ms.p2, Ms.p3]
  refine LexT.wpList_val (.bool false) (by kernel_rfl) (by go_simp) ?_
  simp only [Act.put, Ms.p1, Ms.p2, Ms.p3]
  clear x7 y7
  have x8 := cell_of_row _ _ 8 _ _ (0, 0) HX.out
  have y8 := cell_of_row _ _ 8 _ _ (0, 0) HY.out
  by_cases h8 : client = client2
  rotate_left
  · have HQT := Lib.hid (show q = false by rw [HQ.out, decide_eq_false h8]; simp)
    have k8 : (client == client2) = false := by simpa using h8
    refine LexT.wpList_val (.pointer (some ⟨p1, 8, none⟩)) (by kernel_rfl) (by go_simp) ?_
    simp only [Act.put, Ms.p1, Ms.p2, Ms.p3]
    refine LexT.wpList_val (.int .i64 client) (by kernel_rfl) (by go_simp) ?_
    simp only [Act.put, Ms.p1, Ms.p2, Ms.p3]
    refine LexT.wpList_val (.pointer (some ⟨p2, 8, none⟩)) (by kernel_rfl) (by go_simp) ?_
    simp only [Act.put, Ms.p1, Ms.p2, Ms.p3]
    refine LexT.wpList_val (.int .i64 client2) (by kernel_rfl) (by go_simp) ?_
    simp only [Act.put, Ms.p1, Ms.p2, Ms.p3]
    refine LexT.wpList_val (.bool true) (by kernel_rfl) (by go_simp) ?_
    simp only [Act.put, Ms.p1, Ms.p2, Ms.p3]
    refine LexT.wpList_val (.bool true) (by kernel_rfl) (by go_simp) ?_
    simp only [Act.put, Ms.p1, Ms.p2, Ms.p3]
    refine LexT.wpList_val (.bool true) (by kernel_rfl) (by go_simp) ?_
    simp only [Act.put, Ms.p1, Ms.p2, Ms.p3]
    refine LexT.orT_wp 157 _ [70] [] _ _ (by rfl) (by intro t ht; rw [List.mem_singleton.1 ht]; rfl) (by intro t ht; cases ht) (by rfl) ?_
    intro tm hsz hF
    have h120 : tm[120]? = some (.bool true) := hF 120 (by decide)
    clear hF
    go_wp2_with fail
    refine wp_cond_true (show tm.getD 120 undef = .bool true by simp [h120]) ?_
    go_wp2_with fail
    refine bodyPost_ret (results_tmp rfl _ _ _) rfl ?_
    exact ⟨by rw [HQT.out]; simp [hsz], HB.out⟩
  subst h8
  refine LexT.wpList_val (.pointer (some ⟨p1, 8, none⟩)) (by kernel_rfl) (by go_simp) ?_
  simp only [Act.put, Ms.p1, Ms.p2, Ms.p3]
  refine LexT.wpList_val (.int .i64 client) (by kernel_rfl) (by go_simp) ?_
  simp only [Act.put, Ms.p1, Ms.p2, Ms.p3]
  refine LexT.wpList_val (.pointer (some ⟨p2, 8, none⟩)) (by kernel_rfl) (by go_simp) ?_
  simp only [Act.put, Ms.p1, Ms.p2, Ms.p3]
  refine LexT.wpList_val (.int .i64 client) (by kernel_rfl) (by go_simp) ?_
  simp only [Act.put, Ms.p1, Ms.p2, Ms.p3]
  refine LexT.wpList_val (.bool false) (by kernel_rfl) (by go_simp) ?_
  simp only [Act.put, Ms.p1, Ms.p2, Ms.p3]
  refine LexT.wpList_val (.bool false) (by kernel_rfl) (by go_simp) ?_
  simp only [Act.put, Ms.p1, Ms.p2, Ms.p3]
  refine LexT.wpList_val (.bool false) (by kernel_rfl) (by go_simp) ?_
  simp only [Act.put, Ms.p1, Ms.p2, Ms.p3]
  clear x8 y8
  have x9 := cell_of_row _ _ 9 _ _ (0, 0) HX.out
  have y9 := cell_of_row _ _ 9 _ _ (0, 0) HY.out
  by_cases h9 : number = number2
  rotate_left
  · have HQT := Lib.hid (show q = false by rw [HQ.out, decide_eq_false h9]; simp)
    have k9 : (number == number2) = false := by simpa using h9
    refine LexT.wpList_val (.pointer (some ⟨p1, 9, none⟩)) (by kernel_rfl) (by go_simp) ?_
    simp only [Act.put, Ms.p1, Ms.p2, Ms.p3]
    refine LexT.wpList_val (.int .i64 number) (by kernel_rfl) (by go_simp) ?_
    simp only [Act.put, Ms.p1, Ms.p2, Ms.p3]
    refine LexT.wpList_val (.pointer (some ⟨p2, 9, none⟩)) (by kernel_rfl) (by go_simp) ?_
    simp only [Act.put, Ms.p1, Ms.p2, Ms.p3]
    refine LexT.wpList_val (.int .i64 number2) (by kernel_rfl) (by go_simp) ?_
    simp only [Act.put, Ms.p1, Ms.p2, Ms.p3]
    refine LexT.wpList_val (.bool true) (by kernel_rfl) (by go_simp) ?_
    simp only [Act.put, Ms.p1, Ms.p2, Ms.p3]
    refine LexT.wpList_val (.bool true) (by kernel_rfl) (by go_simp) ?_
    simp only [Act.put, Ms.p1, Ms.p2, Ms.p3]
    refine LexT.wpList_val (.bool true) (by kernel_rfl) (by go_simp) ?_
    simp only [Act.put, Ms.p1, Ms.p2, Ms.p3]
    refine LexT.orT_wp 157 _ [77] [] _ _ (by rfl) (by intro t ht; rw [List.mem_singleton.1 ht]; rfl) (by intro t ht; cases ht) (by rfl) ?_
    intro tm hsz hF
    have h120 : tm[120]? = some (.bool true) := hF 120 (by decide)
    clear hF
    go_wp2_with fail
    refine wp_cond_true (show tm.getD 120 undef = .bool true by simp [h120]) ?_
    go_wp2_with fail
    refine bodyPost_ret (results_tmp rfl _ _ _) rfl ?_
    exact ⟨by rw [HQT.out]; simp [hsz], HB.out⟩
  subst h9
  refine LexT.wpList_val (.pointer (some ⟨p1, 9, none⟩)) (by kernel_rfl) (by go_simp) ?_
  simp only [Act.put, Ms.p1, Ms.p2, Ms.p3]
  refine LexT.wpList_val (.int .i64 number) (by kernel_rfl) (by go_simp) ?_
  simp only [Act.put, Ms.p1, Ms.p2, Ms.p3]
  refine LexT.wpList_val (.pointer (some ⟨p2, 9, none⟩)) (by kernel_rfl) (by go_simp) ?_
  simp only [Act.put, Ms.p1, Ms.p2, Ms.p3]
  refine LexT.wpList_val (.int .i64 number) (by kernel_rfl) (by go_simp) ?_
  simp only [Act.put, Ms.p1, Ms.p2, Ms.p3]
  refine LexT.wpList_val (.bool false) (by kernel_rfl) (by go_simp) ?_
  simp only [Act.put, Ms.p1, Ms.p2, Ms.p3]
  refine LexT.wpList_val (.bool false) (by kernel_rfl) (by go_simp) ?_
  simp only [Act.put, Ms.p1, Ms.p2, Ms.p3]
  refine LexT.wpList_val (.bool false) (by kernel_rfl) (by go_simp) ?_
  simp only [Act.put, Ms.p1, Ms.p2, Ms.p3]
  clear x9 y9
  have x10 := cell_of_row _ _ 10 _ _ (0, 0) HX.out
  have y10 := cell_of_row _ _ 10 _ _ (0, 0) HY.out
  by_cases h10 : nonce = nonce2
  rotate_left
  · have HQT := Lib.hid (show q = false by rw [HQ.out, decide_eq_false h10]; simp)
    have k10 : (nonce == nonce2) = false := by simpa using h10
    refine LexT.wpList_val (.pointer (some ⟨p1, 10, none⟩)) (by kernel_rfl) (by go_simp) ?_
    simp only [Act.put, Ms.p1, Ms.p2, Ms.p3]
    refine LexT.wpList_val (.int .i64 nonce) (by kernel_rfl) (by go_simp) ?_
    simp only [Act.put, Ms.p1, Ms.p2, Ms.p3]
    refine LexT.wpList_val (.pointer (some ⟨p2, 10, none⟩)) (by kernel_rfl) (by go_simp) ?_
    simp only [Act.put, Ms.p1, Ms.p2, Ms.p3]
    refine LexT.wpList_val (.int .i64 nonce2) (by kernel_rfl) (by go_simp) ?_
    simp only [Act.put, Ms.p1, Ms.p2, Ms.p3]
    refine LexT.wpList_val (.bool true) (by kernel_rfl) (by go_simp) ?_
    simp only [Act.put, Ms.p1, Ms.p2, Ms.p3]
    refine LexT.wpList_val (.bool true) (by kernel_rfl) (by go_simp) ?_
    simp only [Act.put, Ms.p1, Ms.p2, Ms.p3]
    refine LexT.wpList_val (.bool true) (by kernel_rfl) (by go_simp) ?_
    simp only [Act.put, Ms.p1, Ms.p2, Ms.p3]
    refine LexT.orT_wp 157 _ [84] [] _ _ (by rfl) (by intro t ht; rw [List.mem_singleton.1 ht]; rfl) (by intro t ht; cases ht) (by rfl) ?_
    intro tm hsz hF
    have h120 : tm[120]? = some (.bool true) := hF 120 (by decide)
    clear hF
    go_wp2_with fail
    refine wp_cond_true (show tm.getD 120 undef = .bool true by simp [h120]) ?_
    go_wp2_with fail
    refine bodyPost_ret (results_tmp rfl _ _ _) rfl ?_
    exact ⟨by rw [HQT.out]; simp [hsz], HB.out⟩
  subst h10
  refine LexT.wpList_val (.pointer (some ⟨p1, 10, none⟩)) (by kernel_rfl) (by go_simp) ?_
  simp only [Act.put, Ms.p1, Ms.p2, Ms.p3]
  refine LexT.wpList_val (.int .i64 nonce) (by kernel_rfl) (by go_simp) ?_
  simp only [Act.put, Ms.p1, Ms.p2, Ms.p3]
  refine LexT.wpList_val (.pointer (some ⟨p2, 10, none⟩)) (by kernel_rfl) (by go_simp) ?_
  simp only [Act.put, Ms.p1, Ms.p2, Ms.p3]
  refine LexT.wpList_val (.int .i64 nonce) (by kernel_rfl) (by go_simp) ?_
  simp only [Act.put, Ms.p1, Ms.p2, Ms.p3]
  refine LexT.wpList_val (.bool false) (by kernel_rfl) (by go_simp) ?_
  simp only [Act.put, Ms.p1, Ms.p2, Ms.p3]
  refine LexT.wpList_val (.bool false) (by kernel_rfl) (by go_simp) ?_
  simp only [Act.put, Ms.p1, Ms.p2, Ms.p3]
  refine LexT.wpList_val (.bool false) (by kernel_rfl) (by go_simp) ?_
  simp only [Act.put, Ms.p1, Ms.p2, Ms.p3]
  clear x10 y10
  have x11 := cell_of_row _ _ 11 _ _ (0, 0) HX.out
  have y11 := cell_of_row _ _ 11 _ _ (0, 0) HY.out
  by_cases h11 : text = text2
  rotate_left
  · have HQT := Lib.hid (show q = false by rw [HQ.out, decide_eq_false h11]; simp)
    have k11 : (text.toList != text2.toList) = true := by rw [sneq, decide_eq_false h11]; rfl
    have m11 : ¬ text.toList = text2.toList := fun e => by rw [e] at k11; simp at k11
    clear h11
    refine LexT.wpList_val (.pointer (some ⟨p1, 11, none⟩)) (by kernel_rfl) (by go_simp) ?_
    simp only [Act.put, Ms.p1, Ms.p2, Ms.p3]
    refine LexT.wpList_val (.string text) (by kernel_rfl) (by go_simp) ?_
    simp only [Act.put, Ms.p1, Ms.p2, Ms.p3]
    refine LexT.wpList_val (.pointer (some ⟨p2, 11, none⟩)) (by kernel_rfl) (by go_simp) ?_
    simp only [Act.put, Ms.p1, Ms.p2, Ms.p3]
    refine LexT.wpList_val (.string text2) (by kernel_rfl) (by go_simp) ?_
    simp only [Act.put, Ms.p1, Ms.p2, Ms.p3]
    refine LexT.wpList_val (.bool true) (by kernel_rfl) (by go_simp) ?_
    simp only [Act.put, Ms.p1, Ms.p2, Ms.p3]
    refine LexT.wpList_val (.bool true) (by kernel_rfl) (by go_simp) ?_
    simp only [Act.put, Ms.p1, Ms.p2, Ms.p3]
    refine LexT.wpList_val (.bool true) (by kernel_rfl) (by go_simp) ?_
    simp only [Act.put, Ms.p1, Ms.p2, Ms.p3]
    refine LexT.orT_wp 157 _ [91] [] _ _ (by rfl) (by intro t ht; rw [List.mem_singleton.1 ht]; rfl) (by intro t ht; cases ht) (by rfl) ?_
    intro tm hsz hF
    have h120 : tm[120]? = some (.bool true) := hF 120 (by decide)
    clear hF
    go_wp2_with fail
    refine wp_cond_true (show tm.getD 120 undef = .bool true by simp [h120]) ?_
    go_wp2_with fail
    refine bodyPost_ret (results_tmp rfl _ _ _) rfl ?_
    exact ⟨by rw [HQT.out]; simp [hsz], HB.out⟩
  subst h11
  have k11 : (text.toList != text.toList) = false := by rw [sneq]; simp
  refine LexT.wpList_val (.pointer (some ⟨p1, 11, none⟩)) (by kernel_rfl) (by go_simp) ?_
  simp only [Act.put, Ms.p1, Ms.p2, Ms.p3]
  refine LexT.wpList_val (.string text) (by kernel_rfl) (by go_simp) ?_
  simp only [Act.put, Ms.p1, Ms.p2, Ms.p3]
  refine LexT.wpList_val (.pointer (some ⟨p2, 11, none⟩)) (by kernel_rfl) (by go_simp) ?_
  simp only [Act.put, Ms.p1, Ms.p2, Ms.p3]
  refine LexT.wpList_val (.string text) (by kernel_rfl) (by go_simp) ?_
  simp only [Act.put, Ms.p1, Ms.p2, Ms.p3]
  refine LexT.wpList_val (.bool false) (by kernel_rfl) (by go_simp) ?_
  simp only [Act.put, Ms.p1, Ms.p2, Ms.p3]
  refine LexT.wpList_val (.bool false) (by kernel_rfl) (by go_simp) ?_
  simp only [Act.put, Ms.p1, Ms.p2, Ms.p3]
  refine LexT.wpList_val (.bool false) (by kernel_rfl) (by go_simp) ?_
  simp only [Act.put, Ms.p1, Ms.p2, Ms.p3]
  clear x11 y11
  clear k11
  have x12 := cell_of_row _ _ 12 _ _ (0, 0) HX.out
  have y12 := cell_of_row _ _ 12 _ _ (0, 0) HY.out
  by_cases h12 : full = full2
  rotate_left
  · have HQT := Lib.hid (show q = false by rw [HQ.out, decide_eq_false h12]; simp)
    have k12 : (full != full2) = true := by revert h12; cases full <;> cases full2 <;> decide
    refine LexT.wpList_val (.pointer (some ⟨p1, 12, none⟩)) (by kernel_rfl) (by go_simp) ?_
    simp only [Act.put, Ms.p1, Ms.p2, Ms.p3]
    refine LexT.wpList_val (.bool full) (by kernel_rfl) (by go_simp) ?_
    simp only [Act.put, Ms.p1, Ms.p2, Ms.p3]
    refine LexT.wpList_val (.pointer (some ⟨p2, 12, none⟩)) (by kernel_rfl) (by go_simp) ?_
    simp only [Act.put, Ms.p1, Ms.p2, Ms.p3]
    refine LexT.wpList_val (.bool full2) (by kernel_rfl) (by go_simp) ?_
    simp only [Act.put, Ms.p1, Ms.p2, Ms.p3]
    refine LexT.wpList_val (.bool true) (by kernel_rfl) (by go_simp) ?_
    simp only [Act.put, Ms.p1, Ms.p2, Ms.p3]
    refine LexT.wpList_val (.bool true) (by kernel_rfl) (by go_simp) ?_
    simp only [Act.put, Ms.p1, Ms.p2, Ms.p3]
    refine LexT.wpList_val (.bool true) (by kernel_rfl) (by go_simp) ?_
    simp only [Act.put, Ms.p1, Ms.p2, Ms.p3]
    refine LexT.orT_wp 157 _ [98] [] _ _ (by rfl) (by intro t ht; rw [List.mem_singleton.1 ht]; rfl) (by intro t ht; cases ht) (by rfl) ?_
    intro tm hsz hF
    have h120 : tm[120]? = some (.bool true) := hF 120 (by decide)
    clear hF
    go_wp2_with fail
    refine wp_cond_true (show tm.getD 120 undef = .bool true by simp [h120]) ?_
    go_wp2_with fail
    refine bodyPost_ret (results_tmp rfl _ _ _) rfl ?_
    exact ⟨by rw [HQT.out]; simp [hsz], HB.out⟩
  subst h12
  have k12 : (full != full) = false := by cases full <;> rfl
  refine LexT.wpList_val (.pointer (some ⟨p1, 12, none⟩)) (by kernel_rfl) (by go_simp) ?_
  simp only [Act.put, Ms.p1, Ms.p2, Ms.p3]
  refine LexT.wpList_val (.bool full) (by kernel_rfl) (by go_simp) ?_
  simp only [Act.put, Ms.p1, Ms.p2, Ms.p3]
  refine LexT.wpList_val (.pointer (some ⟨p2, 12, none⟩)) (by kernel_rfl) (by go_simp) ?_
  simp only [Act.put, Ms.p1, Ms.p2, Ms.p3]
  refine LexT.wpList_val (.bool full) (by kernel_rfl) (by go_simp) ?_
  simp only [Act.put, Ms.p1, Ms.p2, Ms.p3]
  refine LexT.wpList_val (.bool false) (by kernel_rfl) (by go_simp) ?_
  simp only [Act.put, Ms.p1, Ms.p2, Ms.p3]
  refine LexT.wpList_val (.bool false) (by kernel_rfl) (by go_simp) ?_
  simp only [Act.put, Ms.p1, Ms.p2, Ms.p3]
  refine LexT.wpList_val (.bool false) (by kernel_rfl) (by go_simp) ?_
  simp only [Act.put, Ms.p1, Ms.p2, Ms.p3]
  clear x12 y12
  clear k12
  have x13 := cell_of_row _ _ 13 _ _ (0, 0) HX.out
  have y13 := cell_of_row _ _ 13 _ _ (0, 0) HY.out
  by_cases h13 : base = base2
  rotate_left
  · have HQT := Lib.hid (show q = false by rw [HQ.out, decide_eq_false h13]; simp)
    have k13 : (base == base2) = false := by simpa using h13
    refine LexT.wpList_val (.pointer (some ⟨p1, 13, none⟩)) (by kernel_rfl) (by go_simp) ?_
    simp only [Act.put, Ms.p1, Ms.p2, Ms.p3]
    refine LexT.wpList_val (.int .i64 base) (by kernel_rfl) (by go_simp) ?_
    simp only [Act.put, Ms.p1, Ms.p2, Ms.p3]
    refine LexT.wpList_val (.pointer (some ⟨p2, 13, none⟩)) (by kernel_rfl) (by go_simp) ?_
    simp only [Act.put, Ms.p1, Ms.p2, Ms.p3]
    refine LexT.wpList_val (.int .i64 base2) (by kernel_rfl) (by go_simp) ?_
    simp only [Act.put, Ms.p1, Ms.p2, Ms.p3]
    refine LexT.wpList_val (.bool true) (by kernel_rfl) (by go_simp) ?_
    simp only [Act.put, Ms.p1, Ms.p2, Ms.p3]
    refine LexT.wpList_val (.bool true) (by kernel_rfl) (by go_simp) ?_
    simp only [Act.put, Ms.p1, Ms.p2, Ms.p3]
    refine LexT.wpList_val (.bool true) (by kernel_rfl) (by go_simp) ?_
    simp only [Act.put, Ms.p1, Ms.p2, Ms.p3]
    refine LexT.orT_wp 157 _ [105] [] _ _ (by rfl) (by intro t ht; rw [List.mem_singleton.1 ht]; rfl) (by intro t ht; cases ht) (by rfl) ?_
    intro tm hsz hF
    have h120 : tm[120]? = some (.bool true) := hF 120 (by decide)
    clear hF
    go_wp2_with fail
    refine wp_cond_true (show tm.getD 120 undef = .bool true by simp [h120]) ?_
    go_wp2_with fail
    refine bodyPost_ret (results_tmp rfl _ _ _) rfl ?_
    exact ⟨by rw [HQT.out]; simp [hsz], HB.out⟩
  subst h13
  refine LexT.wpList_val (.pointer (some ⟨p1, 13, none⟩)) (by kernel_rfl) (by go_simp) ?_
  simp only [Act.put, Ms.p1, Ms.p2, Ms.p3]
  refine LexT.wpList_val (.int .i64 base) (by kernel_rfl) (by go_simp) ?_
  simp only [Act.put, Ms.p1, Ms.p2, Ms.p3]
  refine LexT.wpList_val (.pointer (some ⟨p2, 13, none⟩)) (by kernel_rfl) (by go_simp) ?_
  simp only [Act.put, Ms.p1, Ms.p2, Ms.p3]
  refine LexT.wpList_val (.int .i64 base) (by kernel_rfl) (by go_simp) ?_
  simp only [Act.put, Ms.p1, Ms.p2, Ms.p3]
  refine LexT.wpList_val (.bool false) (by kernel_rfl) (by go_simp) ?_
  simp only [Act.put, Ms.p1, Ms.p2, Ms.p3]
  refine LexT.wpList_val (.bool false) (by kernel_rfl) (by go_simp) ?_
  simp only [Act.put, Ms.p1, Ms.p2, Ms.p3]
  refine LexT.wpList_val (.bool false) (by kernel_rfl) (by go_simp) ?_
  simp only [Act.put, Ms.p1, Ms.p2, Ms.p3]
  clear x13 y13
  have x14 := cell_of_row _ _ 14 _ _ (0, 0) HX.out
  have y14 := cell_of_row _ _ 14 _ _ (0, 0) HY.out
  by_cases h14 : state = state2
  rotate_left
  · have HQT := Lib.hid (show q = false by rw [HQ.out, decide_eq_false h14]; simp)
    have k14 : (state.toList != state2.toList) = true := by rw [sneq, decide_eq_false h14]; rfl
    have m14 : ¬ state.toList = state2.toList := fun e => by rw [e] at k14; simp at k14
    clear h14
    refine LexT.wpList_val (.pointer (some ⟨p1, 14, none⟩)) (by kernel_rfl) (by go_simp) ?_
    simp only [Act.put, Ms.p1, Ms.p2, Ms.p3]
    refine LexT.wpList_val (.string state) (by kernel_rfl) (by go_simp) ?_
    simp only [Act.put, Ms.p1, Ms.p2, Ms.p3]
    refine LexT.wpList_val (.pointer (some ⟨p2, 14, none⟩)) (by kernel_rfl) (by go_simp) ?_
    simp only [Act.put, Ms.p1, Ms.p2, Ms.p3]
    refine LexT.wpList_val (.string state2) (by kernel_rfl) (by go_simp) ?_
    simp only [Act.put, Ms.p1, Ms.p2, Ms.p3]
    refine LexT.wpList_val (.bool true) (by kernel_rfl) (by go_simp) ?_
    simp only [Act.put, Ms.p1, Ms.p2, Ms.p3]
    refine LexT.wpList_val (.bool true) (by kernel_rfl) (by go_simp) ?_
    simp only [Act.put, Ms.p1, Ms.p2, Ms.p3]
    refine LexT.wpList_val (.bool true) (by kernel_rfl) (by go_simp) ?_
    simp only [Act.put, Ms.p1, Ms.p2, Ms.p3]
    refine LexT.orT_wp 157 _ [112] [] _ _ (by rfl) (by intro t ht; rw [List.mem_singleton.1 ht]; rfl) (by intro t ht; cases ht) (by rfl) ?_
    intro tm hsz hF
    have h120 : tm[120]? = some (.bool true) := hF 120 (by decide)
    clear hF
    go_wp2_with fail
    refine wp_cond_true (show tm.getD 120 undef = .bool true by simp [h120]) ?_
    go_wp2_with fail
    refine bodyPost_ret (results_tmp rfl _ _ _) rfl ?_
    exact ⟨by rw [HQT.out]; simp [hsz], HB.out⟩
  subst h14
  have k14 : (state.toList != state.toList) = false := by rw [sneq]; simp
  refine LexT.wpList_val (.pointer (some ⟨p1, 14, none⟩)) (by kernel_rfl) (by go_simp) ?_
  simp only [Act.put, Ms.p1, Ms.p2, Ms.p3]
  refine LexT.wpList_val (.string state) (by kernel_rfl) (by go_simp) ?_
  simp only [Act.put, Ms.p1, Ms.p2, Ms.p3]
  refine LexT.wpList_val (.pointer (some ⟨p2, 14, none⟩)) (by kernel_rfl) (by go_simp) ?_
  simp only [Act.put, Ms.p1, Ms.p2, Ms.p3]
  refine LexT.wpList_val (.string state) (by kernel_rfl) (by go_simp) ?_
  simp only [Act.put, Ms.p1, Ms.p2, Ms.p3]
  refine LexT.wpList_val (.bool false) (by kernel_rfl) (by go_simp) ?_
  simp only [Act.put, Ms.p1, Ms.p2, Ms.p3]
  refine LexT.wpList_val (.bool false) (by kernel_rfl) (by go_simp) ?_
  simp only [Act.put, Ms.p1, Ms.p2, Ms.p3]
  refine LexT.wpList_val (.bool false) (by kernel_rfl) (by go_simp) ?_
  simp only [Act.put, Ms.p1, Ms.p2, Ms.p3]
  clear x14 y14
  clear k14
  have x15 := cell_of_row _ _ 15 _ _ (0, 0) HX.out
  have y15 := cell_of_row _ _ 15 _ _ (0, 0) HY.out
  by_cases h15 : nn = nn2
  rotate_left
  · have HQT := Lib.hid (show q = false by rw [HQ.out, decide_eq_false h15]; simp)
    have k15 : ((nn : Int) == (nn2 : Int)) = false := by rw [beq_eq_false_iff_ne]; omega
    have m15 : ¬ ((nn : Int) = (nn2 : Int)) := by omega
    refine LexT.wpList_val (.pointer (some ⟨p1, 15, none⟩)) (by kernel_rfl) (by go_simp) ?_
    simp only [Act.put, Ms.p1, Ms.p2, Ms.p3]
    refine LexT.wpList_val (.slice b nn cap2) (by kernel_rfl) (by go_simp) ?_
    simp only [Act.put, Ms.p1, Ms.p2, Ms.p3]
    refine LexT.wpList_val (.int .i64 (nn : Nat)) (by kernel_rfl) (by go_simp) ?_
    simp only [Act.put, Ms.p1, Ms.p2, Ms.p3]
    refine LexT.wpList_val (.pointer (some ⟨p2, 15, none⟩)) (by kernel_rfl) (by go_simp) ?_
    simp only [Act.put, Ms.p1, Ms.p2, Ms.p3]
    refine LexT.wpList_val (.slice b2 nn2 cap4) (by kernel_rfl) (by go_simp) ?_
    simp only [Act.put, Ms.p1, Ms.p2, Ms.p3]
    refine LexT.wpList_val (.int .i64 ((nn2 : Nat))) (by kernel_rfl) (by go_simp) ?_
    simp only [Act.put, Ms.p1, Ms.p2, Ms.p3]
    refine LexT.wpList_val (.bool true) (by kernel_rfl) (by go_simp) ?_
    simp only [Act.put, Ms.p1, Ms.p2, Ms.p3]
    refine LexT.wpList_val (.bool true) (by kernel_rfl) (by go_simp) ?_
    simp only [Act.put, Ms.p1, Ms.p2, Ms.p3]
    go_wp2
    go_ret
    exact ⟨by rw [HQT.out]; rfl, HB.out⟩
  subst h15
  refine LexT.wpList_val (.pointer (some ⟨p1, 15, none⟩)) (by kernel_rfl) (by go_simp) ?_
  simp only [Act.put, Ms.p1, Ms.p2, Ms.p3]
  refine LexT.wpList_val (.slice b nn cap2) (by kernel_rfl) (by go_simp) ?_
  simp only [Act.put, Ms.p1, Ms.p2, Ms.p3]
  refine LexT.wpList_val (.int .i64 (nn : Nat)) (by kernel_rfl) (by go_simp) ?_
  simp only [Act.put, Ms.p1, Ms.p2, Ms.p3]
  refine LexT.wpList_val (.pointer (some ⟨p2, 15, none⟩)) (by kernel_rfl) (by go_simp) ?_
  simp only [Act.put, Ms.p1, Ms.p2, Ms.p3]
  refine LexT.wpList_val (.slice b2 nn cap4) (by kernel_rfl) (by go_simp) ?_
  simp only [Act.put, Ms.p1, Ms.p2, Ms.p3]
  refine LexT.wpList_val (.int .i64 ((nn : Nat))) (by kernel_rfl) (by go_simp) ?_
  simp only [Act.put, Ms.p1, Ms.p2, Ms.p3]
  refine LexT.wpList_val (.bool false) (by kernel_rfl) (by go_simp) ?_
  simp only [Act.put, Ms.p1, Ms.p2, Ms.p3]
  refine LexT.wpList_val (.bool false) (by kernel_rfl) (by go_simp) ?_
  simp only [Act.put, Ms.p1, Ms.p2, Ms.p3]
  clear x15 y15
  have HQE := Lib.hid (show q = (decide (known = known2) && decide (ents.map entK = ents2.map entK)) by rw [HQ.out]; simp)
  clear HQ
  go_wp2_with fail
  go_loopw [5] (fun i wr => ∃ k : Nat, i = .int .i64 k ∧ k ≤ n ∧ Below V.heap.size V wr ∧ known.take k = known2.take k) (fun i _ => n - (intOf i).toNat)
  case atStart => exact ⟨0, rfl, Nat.zero_le _, Below.refl _ _, rfl⟩
  case round =>
    obtain ⟨k, rfl, hk, hb, ht⟩ := hrel
    have x3 := cell_of_row _ _ 3 _ _ (0, 0) ((hb.block _ (Gn.heap_lt HX.out)).trans HX.out)
    have y3 := cell_of_row _ _ 3 _ _ (0, 0) ((hb.block _ (Gn.heap_lt HY.out)).trans HY.out)
    have HB1 := Lib.hid hb
    have HT := Lib.hid ht
    clear ht hb
    by_cases hlt : k < n
    · have hlt2 : (k : Int) < (n : Int) := by omega
      have HJX := Lib.hid (show k < known.length by rw [← HN.out]; exact hlt)
      have HJY := Lib.hid (show k < known2.length by rw [← HN2.out]; exact hlt)
      obtain ⟨b1, o1, rfl, hb1, c1⟩ := (HI.out.under HB1.out).get k hlt
      obtain ⟨b2x, o2, rfl, hb2, c2⟩ := (HI2.out.under HB1.out).get k hlt
      obtain ⟨x, hx⟩ : ∃ x, x = known[k]'HJX.out := ⟨_, rfl⟩
      obtain ⟨y, hy⟩ : ∃ y, y = known2[k]'HJY.out := ⟨_, rfl⟩
      rw [← hx] at c1
      rw [← hy] at c2
      have HKX := Lib.hid hx
      have HKY := Lib.hid hy
      clear hx hy
      by_cases hxy : x = y
      · have HNX := Lib.hid (show known.take (k + 1) = known2.take (k + 1) by
          rw [List.take_succ_eq_append_getElem HJX.out, List.take_succ_eq_append_getElem HJY.out, HT.out, ← HKX.out, ← HKY.out, hxy])
        subst hxy
        go_upto_region 6 with fail
        refine wp_region_noPanic ?_
        refine wp_region_held_drew (S := (fun w' : World => w'.cell? ⟨p1, 3, none⟩ = some (.slice (some ⟨b1, o1, none⟩) n cap) ∧ w'.cell? ⟨p2, 3, none⟩ = some (.slice (some ⟨b2x, o2, none⟩) n cap3) ∧ w'.cell? ⟨b1, o1 + k, none⟩ = some (.int .i64 x) ∧ w'.cell? ⟨b2x, o2 + k, none⟩ = some (.int .i64 x))) (by kernel_rfl) ?_ (fun hHeld => ?_)
        · exact ⟨x3, y3, c1, c2⟩
        conv in Array.replicate _ false => change #[false, false, false, false, false, false, false, false, false, false, false]
        refine wpAnyH_take (i := 0) (v := ?_) rfl (by kernel_rfl) (by kernel_rfl) (by kernel_rfl) (fun _ _ _ h => h) (Or.inl ⟨by rfl, ?_⟩) (by assumption) ?_
        rotate_left
        · intro w hSw
          try dsimp only at hSw
          go_simp
          try with_reducible rfl
        try simp only [Act.put, List.getElem_toArray, List.getElem_cons_zero, List.getElem_cons_succ, Ms.p1, Ms.p2, Ms.p3]
        refine wpAnyH_take (i := 1) (v := ?_) rfl (by kernel_rfl) (by kernel_rfl) (by kernel_rfl) (fun _ _ _ h => h) (Or.inl ⟨by rfl, ?_⟩) (by assumption) ?_
        rotate_left
        · intro w hSw
          try dsimp only at hSw
          go_simp
          try with_reducible rfl
        try simp only [Act.put, List.getElem_toArray, List.getElem_cons_zero, List.getElem_cons_succ, Ms.p1, Ms.p2, Ms.p3]
        refine wpAnyH_take (i := 2) (v := ?_) rfl (by kernel_rfl) (by kernel_rfl) (by kernel_rfl) (fun _ _ _ h => h) (Or.inl ⟨by rfl, ?_⟩) (by assumption) ?_
        rotate_left
        · intro w hSw
          try dsimp only at hSw
          go_simp
          try with_reducible rfl
        try simp only [Act.put, List.getElem_toArray, List.getElem_cons_zero, List.getElem_cons_succ, Ms.p1, Ms.p2, Ms.p3]
        refine wpAnyH_take (i := 3) (v := ?_) rfl (by kernel_rfl) (by kernel_rfl) (by kernel_rfl) (fun _ _ _ h => h) (Or.inl ⟨by rfl, ?_⟩) (by assumption) ?_
        rotate_left
        · intro w hSw
          try dsimp only at hSw
          go_simp
          try with_reducible rfl
        try simp only [Act.put, List.getElem_toArray, List.getElem_cons_zero, List.getElem_cons_succ, Ms.p1, Ms.p2, Ms.p3]
        refine wpAnyH_take (i := 4) (v := ?_) rfl (by kernel_rfl) (by kernel_rfl) (by kernel_rfl) (fun _ _ _ h => h) (Or.inl ⟨by rfl, ?_⟩) (by assumption) ?_
        rotate_left
        · intro w hSw
          try dsimp only at hSw
          go_simp
          try with_reducible rfl
        try simp only [Act.put, List.getElem_toArray, List.getElem_cons_zero, List.getElem_cons_succ, Ms.p1, Ms.p2, Ms.p3]
        refine wpAnyH_take (i := 5) (v := ?_) rfl (by kernel_rfl) (by kernel_rfl) (by kernel_rfl) (fun _ _ _ h => h) (Or.inl ⟨by rfl, ?_⟩) (by assumption) ?_
        rotate_left
        · intro w hSw
          try dsimp only at hSw
          go_simp
          try with_reducible rfl
        try simp only [Act.put, List.getElem_toArray, List.getElem_cons_zero, List.getElem_cons_succ, Ms.p1, Ms.p2, Ms.p3]
        refine wpAnyH_take (i := 6) (v := ?_) rfl (by kernel_rfl) (by kernel_rfl) (by kernel_rfl) (fun _ _ _ h => h) (Or.inl ⟨by rfl, ?_⟩) (by assumption) ?_
        rotate_left
        · intro w hSw
          try dsimp only at hSw
          go_simp
          try with_reducible rfl
        try simp only [Act.put, List.getElem_toArray, List.getElem_cons_zero, List.getElem_cons_succ, Ms.p1, Ms.p2, Ms.p3]
        refine wpAnyH_take (i := 7) (v := ?_) rfl (by kernel_rfl) (by kernel_rfl) (by kernel_rfl) (fun _ _ _ h => h) (Or.inl ⟨by rfl, ?_⟩) (by assumption) ?_
        rotate_left
        · intro w hSw
          try dsimp only at hSw
          go_simp
          try with_reducible rfl
        try simp only [Act.put, List.getElem_toArray, List.getElem_cons_zero, List.getElem_cons_succ, Ms.p1, Ms.p2, Ms.p3]
        refine wpAnyH_take (i := 8) (v := ?_) rfl (by kernel_rfl) (by kernel_rfl) (by kernel_rfl) (fun _ _ _ h => h) (Or.inl ⟨by rfl, ?_⟩) (by assumption) ?_
        rotate_left
        · intro w hSw
          try dsimp only at hSw
          go_simp
          try with_reducible rfl
        try simp only [Act.put, List.getElem_toArray, List.getElem_cons_zero, List.getElem_cons_succ, Ms.p1, Ms.p2, Ms.p3]
        refine wpAnyH_take (i := 9) (v := ?_) rfl (by kernel_rfl) (by kernel_rfl) (by kernel_rfl) (fun _ _ _ h => h) (Or.inl ⟨by rfl, ?_⟩) (by assumption) ?_
        rotate_left
        · intro w hSw
          try dsimp only at hSw
          go_simp
          try with_reducible rfl
        try simp only [Act.put, List.getElem_toArray, List.getElem_cons_zero, List.getElem_cons_succ, Ms.p1, Ms.p2, Ms.p3]
        refine wpAnyH_take (i := 10) (v := ?_) rfl (by kernel_rfl) (by kernel_rfl) (by kernel_rfl) (fun _ _ _ h => h) (Or.inl ⟨by rfl, ?_⟩) (by assumption) ?_
        rotate_left
        · intro w hSw
          try dsimp only at hSw
          go_simp
          try with_reducible rfl
        try simp only [Act.put, List.getElem_toArray, List.getElem_cons_zero, List.getElem_cons_succ, Ms.p1, Ms.p2, Ms.p3]
        refine wpAnyH_done (by kernel_rfl) ?_ _
        refine NoPanic.normal ?_
        clear x3 y3 c1 c2
        go_wp2_with fail
        go_roundw
        case rel => exact ⟨k + 1, by go_num, by omega, Gn.below_drew HB1.out, HNX.out⟩
        case measure => simp [intOf]; omega
      · have HF := Lib.hid (show q = false by
          rw [HQE.out, decide_eq_false (fun e => hxy (by
            have h0 := congrArg (fun l => l[k]?) e
            simp only [List.getElem?_eq_getElem HJX.out, List.getElem?_eq_getElem HJY.out] at h0
            injection h0 with h0
            rw [HKX.out, HKY.out, h0]))]
          rfl)
        go_upto_region 6 with fail
        refine wp_region_noPanic ?_
        refine wp_region_held_drew (S := (fun w' : World => w'.cell? ⟨p1, 3, none⟩ = some (.slice (some ⟨b1, o1, none⟩) n cap) ∧ w'.cell? ⟨p2, 3, none⟩ = some (.slice (some ⟨b2x, o2, none⟩) n cap3) ∧ w'.cell? ⟨b1, o1 + k, none⟩ = some (.int .i64 x) ∧ w'.cell? ⟨b2x, o2 + k, none⟩ = some (.int .i64 y))) (by kernel_rfl) ?_ (fun hHeld => ?_)
        · exact ⟨x3, y3, c1, c2⟩
        conv in Array.replicate _ false => change #[false, false, false, false, false, false, false, false, false, false, false]
        refine wpAnyH_take (i := 0) (v := ?_) rfl (by kernel_rfl) (by kernel_rfl) (by kernel_rfl) (fun _ _ _ h => h) (Or.inl ⟨by rfl, ?_⟩) (by assumption) ?_
        rotate_left
        · intro w hSw
          try dsimp only at hSw
          go_simp
          try with_reducible rfl
        try simp only [Act.put, List.getElem_toArray, List.getElem_cons_zero, List.getElem_cons_succ, Ms.p1, Ms.p2, Ms.p3]
        refine wpAnyH_take (i := 1) (v := ?_) rfl (by kernel_rfl) (by kernel_rfl) (by kernel_rfl) (fun _ _ _ h => h) (Or.inl ⟨by rfl, ?_⟩) (by assumption) ?_
        rotate_left
        · intro w hSw
          try dsimp only at hSw
          go_simp
          try with_reducible rfl
        try simp only [Act.put, List.getElem_toArray, List.getElem_cons_zero, List.getElem_cons_succ, Ms.p1, Ms.p2, Ms.p3]
        refine wpAnyH_take (i := 2) (v := ?_) rfl (by kernel_rfl) (by kernel_rfl) (by kernel_rfl) (fun _ _ _ h => h) (Or.inl ⟨by rfl, ?_⟩) (by assumption) ?_
        rotate_left
        · intro w hSw
          try dsimp only at hSw
          go_simp
          try with_reducible rfl
        try simp only [Act.put, List.getElem_toArray, List.getElem_cons_zero, List.getElem_cons_succ, Ms.p1, Ms.p2, Ms.p3]
        refine wpAnyH_take (i := 3) (v := ?_) rfl (by kernel_rfl) (by kernel_rfl) (by kernel_rfl) (fun _ _ _ h => h) (Or.inl ⟨by rfl, ?_⟩) (by assumption) ?_
        rotate_left
        · intro w hSw
          try dsimp only at hSw
          go_simp
          try with_reducible rfl
        try simp only [Act.put, List.getElem_toArray, List.getElem_cons_zero, List.getElem_cons_succ, Ms.p1, Ms.p2, Ms.p3]
        refine wpAnyH_take (i := 4) (v := ?_) rfl (by kernel_rfl) (by kernel_rfl) (by kernel_rfl) (fun _ _ _ h => h) (Or.inl ⟨by rfl, ?_⟩) (by assumption) ?_
        rotate_left
        · intro w hSw
          try dsimp only at hSw
          go_simp
          try with_reducible rfl
        try simp only [Act.put, List.getElem_toArray, List.getElem_cons_zero, List.getElem_cons_succ, Ms.p1, Ms.p2, Ms.p3]
        refine wpAnyH_take (i := 5) (v := ?_) rfl (by kernel_rfl) (by kernel_rfl) (by kernel_rfl) (fun _ _ _ h => h) (Or.inl ⟨by rfl, ?_⟩) (by assumption) ?_
        rotate_left
        · intro w hSw
          try dsimp only at hSw
          go_simp
          try with_reducible rfl
        try simp only [Act.put, List.getElem_toArray, List.getElem_cons_zero, List.getElem_cons_succ, Ms.p1, Ms.p2, Ms.p3]
        refine wpAnyH_take (i := 6) (v := ?_) rfl (by kernel_rfl) (by kernel_rfl) (by kernel_rfl) (fun _ _ _ h => h) (Or.inl ⟨by rfl, ?_⟩) (by assumption) ?_
        rotate_left
        · intro w hSw
          try dsimp only at hSw
          go_simp
          try with_reducible rfl
        try simp only [Act.put, List.getElem_toArray, List.getElem_cons_zero, List.getElem_cons_succ, Ms.p1, Ms.p2, Ms.p3]
        refine wpAnyH_take (i := 7) (v := ?_) rfl (by kernel_rfl) (by kernel_rfl) (by kernel_rfl) (fun _ _ _ h => h) (Or.inl ⟨by rfl, ?_⟩) (by assumption) ?_
        rotate_left
        · intro w hSw
          try dsimp only at hSw
          go_simp
          try with_reducible rfl
        try simp only [Act.put, List.getElem_toArray, List.getElem_cons_zero, List.getElem_cons_succ, Ms.p1, Ms.p2, Ms.p3]
        refine wpAnyH_take (i := 8) (v := ?_) rfl (by kernel_rfl) (by kernel_rfl) (by kernel_rfl) (fun _ _ _ h => h) (Or.inl ⟨by rfl, ?_⟩) (by assumption) ?_
        rotate_left
        · intro w hSw
          try dsimp only at hSw
          go_simp
          try with_reducible rfl
        try simp only [Act.put, List.getElem_toArray, List.getElem_cons_zero, List.getElem_cons_succ, Ms.p1, Ms.p2, Ms.p3]
        refine wpAnyH_take (i := 9) (v := ?_) rfl (by kernel_rfl) (by kernel_rfl) (by kernel_rfl) (fun _ _ _ h => h) (Or.inl ⟨by rfl, ?_⟩) (by assumption) ?_
        rotate_left
        · intro w hSw
          try dsimp only at hSw
          go_simp
          try with_reducible rfl
        try simp only [Act.put, List.getElem_toArray, List.getElem_cons_zero, List.getElem_cons_succ, Ms.p1, Ms.p2, Ms.p3]
        refine wpAnyH_take (i := 10) (v := ?_) rfl (by kernel_rfl) (by kernel_rfl) (by kernel_rfl) (fun _ _ _ h => h) (Or.inl ⟨by rfl, ?_⟩) (by assumption) ?_
        rotate_left
        · intro w hSw
          try dsimp only at hSw
          go_simp
          try with_reducible rfl
        try simp only [Act.put, List.getElem_toArray, List.getElem_cons_zero, List.getElem_cons_succ, Ms.p1, Ms.p2, Ms.p3]
        refine wpAnyH_done (by kernel_rfl) ?_ _
        refine NoPanic.normal ?_
        clear x3 y3 c1 c2
        go_wp2_with fail
        refine bodyPost_ret (results_tmp rfl _ _ _) rfl ?_
        exact ⟨by rw [HF.out]; rfl, HB.out.trans ((Gn.below_drew HB1.out).mono HB.out.size)⟩
    · have hke : k = n := by omega
      subst hke
      have HQF := Lib.hid (show q = decide (ents.map entK = ents2.map entK) by
        have := HT.out
        rw [List.take_of_length_le (by rw [← HN.out]; exact Nat.le_refl _), List.take_of_length_le (by rw [← HN2.out]; exact Nat.le_refl _)] at this
        rw [HQE.out, this, decide_eq_true rfl, Bool.true_and])
      clear HQE
      go_wp2_with fail
      go_loopw [6] (fun i wr => ∃ k : Nat, i = .int .i64 k ∧ k ≤ nn ∧ Below V.heap.size V wr ∧ (ents.take k).map entK = (ents2.take k).map entK) (fun i _ => nn - (intOf i).toNat)
      case atStart => exact ⟨0, rfl, Nat.zero_le _, HB1.out, rfl⟩
      case round =>
        obtain ⟨k2, rfl, hk2, hb, ht⟩ := hrel
        have x15 := cell_of_row _ _ 15 _ _ (0, 0) ((hb.block _ (Gn.heap_lt HX.out)).trans HX.out)
        have y15 := cell_of_row _ _ 15 _ _ (0, 0) ((hb.block _ (Gn.heap_lt HY.out)).trans HY.out)
        have HB2 := Lib.hid hb
        have HT2 := Lib.hid ht
        clear ht hb x3 y3
        by_cases hlt2 : k2 < nn
        · have hlt3 : (k2 : Int) < (nn : Int) := by omega
          have HJX := Lib.hid (show k2 < ents.length by rw [← HNN.out]; exact hlt2)
          have HJY := Lib.hid (show k2 < ents2.length by rw [← HNN2.out]; exact hlt2)
          obtain ⟨b1, o1, rfl, hb1, c0, c1, c2⟩ := (HE.out.under HB2.out).get k2 hlt2
          obtain ⟨b2x, o2, rfl, hb2, d0, d1, d2⟩ := (HE2.out.under HB2.out).get k2 hlt2
          obtain ⟨x, hx⟩ : ∃ x, x = ents[k2]'HJX.out := ⟨_, rfl⟩
          obtain ⟨y, hy⟩ : ∃ y, y = ents2[k2]'HJY.out := ⟨_, rfl⟩
          rw [← hx] at c0 c1 c2
          rw [← hy] at d0 d1 d2
          have HKX := Lib.hid hx
          have HKY := Lib.hid hy
          clear hx hy
          obtain ⟨x0, x1, x2⟩ := x
          obtain ⟨y0, y1, y2⟩ := y
          dsimp only at c0 c1 c2 d0 d1 d2
          have HDF := Lib.hid (fun (hne : ¬ (x0 = y0 ∧ x1 = y1 ∧ x2 = y2)) => show q = false by
            rw [HQF.out]
            refine decide_eq_false fun e => hne ?_
            have h0 := congrArg (fun l => l[k2]?) e
            simp only [List.getElem?_map, List.getElem?_eq_getElem HJX.out, List.getElem?_eq_getElem HJY.out, Option.map_some] at h0
            injection h0 with h0
            rw [← HKX.out, ← HKY.out] at h0
            injection h0 with h1 h2
            injection h2 with h2 h3
            exact ⟨h1, h2, h3⟩)
          by_cases hxy : x0 = y0 ∧ x1 = y1 ∧ x2 = y2
          · obtain ⟨e0, e1, e2⟩ := hxy
            subst e0 e1 e2
            have HNX := Lib.hid (show (ents.take (k2 + 1)).map entK = (ents2.take (k2 + 1)).map entK by
              rw [List.take_succ_eq_append_getElem HJX.out, List.take_succ_eq_append_getElem HJY.out, List.map_append, List.map_append, HT2.out, ← HKX.out, ← HKY.out])
            clear HDF
            go_upto_region 11 with fail
            refine wp_region_noPanic ?_
            refine wp_region_held_drew (S := (fun w' : World => w'.cell? ⟨p1, 15, none⟩ = some (.slice (some ⟨b1, o1, none⟩) nn cap2) ∧ w'.cell? ⟨p2, 15, none⟩ = some (.slice (some ⟨b2x, o2, none⟩) nn cap4) ∧ w'.cell? ⟨b1, o1 + k2 * 3, none⟩ = some (.int .i64 x0) ∧ w'.cell? ⟨b1, o1 + k2 * 3 + 1, none⟩ = some (.int .i64 x1) ∧ w'.cell? ⟨b1, o1 + k2 * 3 + 2, none⟩ = some (.string x2) ∧ w'.cell? ⟨b2x, o2 + k2 * 3, none⟩ = some (.int .i64 x0) ∧ w'.cell? ⟨b2x, o2 + k2 * 3 + 1, none⟩ = some (.int .i64 x1) ∧ w'.cell? ⟨b2x, o2 + k2 * 3 + 2, none⟩ = some (.string x2))) (by kernel_rfl) ?_ (fun hHeld => ?_)
            · exact ⟨x15, y15, c0, c1, c2, d0, d1, d2⟩
            conv in Array.replicate _ false => change #[false, false, false, false, false, false, false, false, false, false, false]
            refine wpAnyH_take (i := 0) (v := ?_) rfl (by kernel_rfl) (by kernel_rfl) (by kernel_rfl) (fun _ _ _ h => h) (Or.inl ⟨by rfl, ?_⟩) (by assumption) ?_
            rotate_left
            · intro w hSw
              try dsimp only at hSw
              go_simp
              try with_reducible rfl
            try simp only [Act.put, List.getElem_toArray, List.getElem_cons_zero, List.getElem_cons_succ, Ms.p1, Ms.p2, Ms.p3]
            refine wpAnyH_take (i := 1) (v := ?_) rfl (by kernel_rfl) (by kernel_rfl) (by kernel_rfl) (fun _ _ _ h => h) (Or.inl ⟨by rfl, ?_⟩) (by assumption) ?_
            rotate_left
            · intro w hSw
              try dsimp only at hSw
              go_simp
              try with_reducible rfl
            try simp only [Act.put, List.getElem_toArray, List.getElem_cons_zero, List.getElem_cons_succ, Ms.p1, Ms.p2, Ms.p3]
            refine wpAnyH_take (i := 2) (v := ?_) rfl (by kernel_rfl) (by kernel_rfl) (by kernel_rfl) (fun _ _ _ h => h) (Or.inl ⟨by rfl, ?_⟩) (by assumption) ?_
            rotate_left
            · intro w hSw
              try dsimp only at hSw
              go_simp
              try with_reducible rfl
            try simp only [Act.put, List.getElem_toArray, List.getElem_cons_zero, List.getElem_cons_succ, Ms.p1, Ms.p2, Ms.p3]
            refine wpAnyH_take (i := 3) (v := ?_) rfl (by kernel_rfl) (by kernel_rfl) (by kernel_rfl) (fun _ _ _ h => h) (Or.inl ⟨by rfl, ?_⟩) (by assumption) ?_
            rotate_left
            · intro w hSw
              try dsimp only at hSw
              go_simp
              try with_reducible rfl
            try simp only [Act.put, List.getElem_toArray, List.getElem_cons_zero, List.getElem_cons_succ, Ms.p1, Ms.p2, Ms.p3]
            refine wpAnyH_take (i := 4) (v := ?_) rfl (by kernel_rfl) (by kernel_rfl) (by kernel_rfl) (fun _ _ _ h => h) (Or.inl ⟨by rfl, ?_⟩) (by assumption) ?_
            rotate_left
            · intro w hSw
              try dsimp only at hSw
              go_simp
              try with_reducible rfl
            try simp only [Act.put, List.getElem_toArray, List.getElem_cons_zero, List.getElem_cons_succ, Ms.p1, Ms.p2, Ms.p3]
            refine wpAnyH_take (i := 5) (v := ?_) rfl (by kernel_rfl) (by kernel_rfl) (by kernel_rfl) (fun _ _ _ h => h) (Or.inl ⟨by rfl, ?_⟩) (by assumption) ?_
            rotate_left
            · intro w hSw
              try dsimp only at hSw
              go_simp
              try with_reducible rfl
            try simp only [Act.put, List.getElem_toArray, List.getElem_cons_zero, List.getElem_cons_succ, Ms.p1, Ms.p2, Ms.p3]
            refine wpAnyH_take (i := 6) (v := ?_) rfl (by kernel_rfl) (by kernel_rfl) (by kernel_rfl) (fun _ _ _ h => h) (Or.inl ⟨by rfl, ?_⟩) (by assumption) ?_
            rotate_left
            · intro w hSw
              try dsimp only at hSw
              go_simp
              try with_reducible rfl
            try simp only [Act.put, List.getElem_toArray, List.getElem_cons_zero, List.getElem_cons_succ, Ms.p1, Ms.p2, Ms.p3]
            refine wpAnyH_take (i := 7) (v := ?_) rfl (by kernel_rfl) (by kernel_rfl) (by kernel_rfl) (fun _ _ _ h => h) (Or.inl ⟨by rfl, ?_⟩) (by assumption) ?_
            rotate_left
            · intro w hSw
              try dsimp only at hSw
              go_simp
              try with_reducible rfl
            try simp only [Act.put, List.getElem_toArray, List.getElem_cons_zero, List.getElem_cons_succ, Ms.p1, Ms.p2, Ms.p3]
            refine wpAnyH_take (i := 8) (v := ?_) rfl (by kernel_rfl) (by kernel_rfl) (by kernel_rfl) (fun _ _ _ h => h) (Or.inl ⟨by rfl, ?_⟩) (by assumption) ?_
            rotate_left
            · intro w hSw
              try dsimp only at hSw
              go_simp
              try with_reducible rfl
            try simp only [Act.put, List.getElem_toArray, List.getElem_cons_zero, List.getElem_cons_succ, Ms.p1, Ms.p2, Ms.p3]
            refine wpAnyH_take (i := 9) (v := ?_) rfl (by kernel_rfl) (by kernel_rfl) (by kernel_rfl) (fun _ _ _ h => h) (Or.inl ⟨by rfl, ?_⟩) (by assumption) ?_
            rotate_left
            · intro w hSw
              try dsimp only at hSw
              go_simp
              try with_reducible rfl
            try simp only [Act.put, List.getElem_toArray, List.getElem_cons_zero, List.getElem_cons_succ, Ms.p1, Ms.p2, Ms.p3]
            refine wpAnyH_take (i := 10) (v := ?_) rfl (by kernel_rfl) (by kernel_rfl) (by kernel_rfl) (fun _ _ _ h => h) (Or.inl ⟨by rfl, ?_⟩) (by assumption) ?_
            rotate_left
            · intro w hSw
              try dsimp only at hSw
              go_simp
              try with_reducible rfl
            try simp only [Act.put, List.getElem_toArray, List.getElem_cons_zero, List.getElem_cons_succ, Ms.p1, Ms.p2, Ms.p3]
            refine wpAnyH_done (by kernel_rfl) ?_ _
            refine NoPanic.normal ?_
            clear x15 y15 c0 c1 c2 d0 d1 d2
            go_wp2_with fail
            go_roundw
            case rel => exact ⟨k2 + 1, by go_num, by omega, Gn.below_drew HB2.out, HNX.out⟩
            case measure => simp [intOf]; omega
          · have HF := Lib.hid (HDF.out hxy)
            have hbf : ((x0 == y0) && (x1 == y1) && (x2.toList == y2.toList)) = false := by
              rw [Bool.eq_false_iff]
              intro h
              rw [Bool.and_eq_true, Bool.and_eq_true, beq_iff_eq, beq_iff_eq, beq_iff_eq] at h
              exact hxy ⟨h.1.1, h.1.2, by have := sneq x2 y2; rw [h.2] at this; simpa using this⟩
            have HBF := Lib.hid hbf
            clear HDF hbf hxy
            go_upto_region 11 with fail
            refine wp_region_noPanic ?_
            refine wp_region_held_drew (S := (fun w' : World => w'.cell? ⟨p1, 15, none⟩ = some (.slice (some ⟨b1, o1, none⟩) nn cap2) ∧ w'.cell? ⟨p2, 15, none⟩ = some (.slice (some ⟨b2x, o2, none⟩) nn cap4) ∧ w'.cell? ⟨b1, o1 + k2 * 3, none⟩ = some (.int .i64 x0) ∧ w'.cell? ⟨b1, o1 + k2 * 3 + 1, none⟩ = some (.int .i64 x1) ∧ w'.cell? ⟨b1, o1 + k2 * 3 + 2, none⟩ = some (.string x2) ∧ w'.cell? ⟨b2x, o2 + k2 * 3, none⟩ = some (.int .i64 y0) ∧ w'.cell? ⟨b2x, o2 + k2 * 3 + 1, none⟩ = some (.int .i64 y1) ∧ w'.cell? ⟨b2x, o2 + k2 * 3 + 2, none⟩ = some (.string y2))) (by kernel_rfl) ?_ (fun hHeld => ?_)
            · exact ⟨x15, y15, c0, c1, c2, d0, d1, d2⟩
            conv in Array.replicate _ false => change #[false, false, false, false, false, false, false, false, false, false, false]
            refine wpAnyH_take (i := 0) (v := ?_) rfl (by kernel_rfl) (by kernel_rfl) (by kernel_rfl) (fun _ _ _ h => h) (Or.inl ⟨by rfl, ?_⟩) (by assumption) ?_
            rotate_left
            · intro w hSw
              try dsimp only at hSw
              go_simp
              try with_reducible rfl
            try simp only [Act.put, List.getElem_toArray, List.getElem_cons_zero, List.getElem_cons_succ, Ms.p1, Ms.p2, Ms.p3]
            refine wpAnyH_take (i := 1) (v := ?_) rfl (by kernel_rfl) (by kernel_rfl) (by kernel_rfl) (fun _ _ _ h => h) (Or.inl ⟨by rfl, ?_⟩) (by assumption) ?_
            rotate_left
            · intro w hSw
              try dsimp only at hSw
              go_simp
              try with_reducible rfl
            try simp only [Act.put, List.getElem_toArray, List.getElem_cons_zero, List.getElem_cons_succ, Ms.p1, Ms.p2, Ms.p3]
            refine wpAnyH_take (i := 2) (v := ?_) rfl (by kernel_rfl) (by kernel_rfl) (by kernel_rfl) (fun _ _ _ h => h) (Or.inl ⟨by rfl, ?_⟩) (by assumption) ?_
            rotate_left
            · intro w hSw
              try dsimp only at hSw
              go_simp
              try with_reducible rfl
            try simp only [Act.put, List.getElem_toArray, List.getElem_cons_zero, List.getElem_cons_succ, Ms.p1, Ms.p2, Ms.p3]
            refine wpAnyH_take (i := 3) (v := ?_) rfl (by kernel_rfl) (by kernel_rfl) (by kernel_rfl) (fun _ _ _ h => h) (Or.inl ⟨by rfl, ?_⟩) (by assumption) ?_
            rotate_left
            · intro w hSw
              try dsimp only at hSw
              go_simp
              try with_reducible rfl
            try simp only [Act.put, List.getElem_toArray, List.getElem_cons_zero, List.getElem_cons_succ, Ms.p1, Ms.p2, Ms.p3]
            refine wpAnyH_take (i := 4) (v := ?_) rfl (by kernel_rfl) (by kernel_rfl) (by kernel_rfl) (fun _ _ _ h => h) (Or.inl ⟨by rfl, ?_⟩) (by assumption) ?_
            rotate_left
            · intro w hSw
              try dsimp only at hSw
              go_simp
              try with_reducible rfl
            try simp only [Act.put, List.getElem_toArray, List.getElem_cons_zero, List.getElem_cons_succ, Ms.p1, Ms.p2, Ms.p3]
            refine wpAnyH_take (i := 5) (v := ?_) rfl (by kernel_rfl) (by kernel_rfl) (by kernel_rfl) (fun _ _ _ h => h) (Or.inl ⟨by rfl, ?_⟩) (by assumption) ?_
            rotate_left
            · intro w hSw
              try dsimp only at hSw
              go_simp
              try with_reducible rfl
            try simp only [Act.put, List.getElem_toArray, List.getElem_cons_zero, List.getElem_cons_succ, Ms.p1, Ms.p2, Ms.p3]
            refine wpAnyH_take (i := 6) (v := ?_) rfl (by kernel_rfl) (by kernel_rfl) (by kernel_rfl) (fun _ _ _ h => h) (Or.inl ⟨by rfl, ?_⟩) (by assumption) ?_
            rotate_left
            · intro w hSw
              try dsimp only at hSw
              go_simp
              try with_reducible rfl
            try simp only [Act.put, List.getElem_toArray, List.getElem_cons_zero, List.getElem_cons_succ, Ms.p1, Ms.p2, Ms.p3]
            refine wpAnyH_take (i := 7) (v := ?_) rfl (by kernel_rfl) (by kernel_rfl) (by kernel_rfl) (fun _ _ _ h => h) (Or.inl ⟨by rfl, ?_⟩) (by assumption) ?_
            rotate_left
            · intro w hSw
              try dsimp only at hSw
              go_simp
              try with_reducible rfl
            try simp only [Act.put, List.getElem_toArray, List.getElem_cons_zero, List.getElem_cons_succ, Ms.p1, Ms.p2, Ms.p3]
            refine wpAnyH_take (i := 8) (v := ?_) rfl (by kernel_rfl) (by kernel_rfl) (by kernel_rfl) (fun _ _ _ h => h) (Or.inl ⟨by rfl, ?_⟩) (by assumption) ?_
            rotate_left
            · intro w hSw
              try dsimp only at hSw
              go_simp
              try with_reducible rfl
            try simp only [Act.put, List.getElem_toArray, List.getElem_cons_zero, List.getElem_cons_succ, Ms.p1, Ms.p2, Ms.p3]
            refine wpAnyH_take (i := 9) (v := ?_) rfl (by kernel_rfl) (by kernel_rfl) (by kernel_rfl) (fun _ _ _ h => h) (Or.inl ⟨by rfl, ?_⟩) (by assumption) ?_
            rotate_left
            · intro w hSw
              try dsimp only at hSw
              go_simp
              try with_reducible rfl
            try simp only [Act.put, List.getElem_toArray, List.getElem_cons_zero, List.getElem_cons_succ, Ms.p1, Ms.p2, Ms.p3]
            refine wpAnyH_take (i := 10) (v := .bool true) rfl (by kernel_rfl) (by kernel_rfl) (by kernel_rfl) (fun _ _ _ h => h) (Or.inl ⟨by rfl, ?_⟩) (by assumption) ?_
            · intro w hSw
              clear hSw
              have hbf := HBF.out
              revert hbf
              generalize hu : (x2.toList == y2.toList) = u
              intro hbf
              by_cases g0 : x0 = y0
              · by_cases g1 : x1 = y1
                · cases u
                  · go_simp
                  · simp [g0, g1] at hbf
                · go_simp
              · go_simp
            try simp only [Act.put, List.getElem_toArray, List.getElem_cons_zero, List.getElem_cons_succ, Ms.p1, Ms.p2, Ms.p3]
            refine wpAnyH_done (by kernel_rfl) ?_ _
            refine NoPanic.normal ?_
            clear x15 y15 c0 c1 c2 d0 d1 d2
            go_wp2_with fail
            refine bodyPost_ret (results_tmp rfl _ _ _) rfl ?_
            exact ⟨by rw [HF.out]; rfl, HB.out.trans ((Gn.below_drew HB2.out).mono HB.out.size)⟩
        · have hke : k2 = nn := by omega
          subst hke
          have HF := Lib.hid (show q = true by
            rw [HQF.out]
            refine decide_eq_true ?_
            have := HT2.out
            rwa [List.take_of_length_le (by rw [← HNN.out]; exact Nat.le_refl _), List.take_of_length_le (by rw [← HNN2.out]; exact Nat.le_refl _)] at this)
          go_wp2_with fail
          go_ret
          exact ⟨by rw [HF.out]; rfl, HB.out.trans (HB2.out.mono HB.out.size)⟩
end Go.Proofs.YtfeelmblnkpfdaaDoor.Ms
