/-
  Layer 23: the walk of MessageApart.
-/
import Derived.Test.YtfeelmblnkpfdaaDoorMsMd
import Derived.Test.YtfeelmblnkpfdaaDoorMsSa
import Derived.Test.YtfeelmblnkpfdaaDoorMsSk
import Derived.Test.YtfeelmblnkpfdaaDoorLooseD
namespace Go.Proofs.YtfeelmblnkpfdaaDoor.Ms
open Go.RowKit
set_option maxRecDepth 100000
set_option linter.unusedSimpArgs false
set_option linter.unusedVariables false
theorem good_at (m : Msg) (v : Value) (w : World) (h : MsgAt w m v) (h1 : m.known.length ≤ 1000) (h2 : m.ents.length ≤ 1000) : Calls Tryd.prog 11 #[v, .int .i64 3] w (Says (goodM m 3) w) := by
  obtain ⟨a, cap, b, cap2, rfl, hi, he⟩ := h
  exact good_any m.kind m.frm m.born m.known m.view m.last m.op m.commit m.client m.number m.nonce m.text m.full m.base m.state m.ents a m.known.length cap b m.ents.length cap2 3 w rfl rfl hi he (by omega) (by omega)
theorem put_at (m : Msg) (v : Value) (w : World) (h : MsgAt w m v) (h1 : m.known.length ≤ 1000) (h2 : m.ents.length ≤ 1000) (hst : Crc.Steps w) (h0 : 0 < w.heap.size) : Calls Tryd.prog 10 #[v, .int .i64 3] w (fun e w' => e = .returned (.string (putM m 3)) ∧ Below w.heap.size w w') := by
  obtain ⟨a, cap, b, cap2, rfl, hi, he⟩ := h
  exact put_any m.kind m.frm m.born m.known m.view m.last m.op m.commit m.client m.number m.nonce m.text m.full m.base m.state m.ents a m.known.length cap b m.ents.length cap2 3 w hst h0 rfl rfl hi he h1 h2
theorem same_at (m p : Msg) (v u : Value) (w : World) (h : MsgAt w m v) (k : MsgAt w p u) (h1 : m.known.length ≤ 1000) (h2 : m.ents.length ≤ 1000) : Calls Tryd.prog 14 #[v, u] w (Says (sameB m p) w) := by
  obtain ⟨a, cap, b, cap2, rfl, hi, he⟩ := h
  obtain ⟨a2, cap3, b2, cap4, rfl, hi2, he2⟩ := k
  exact same_any m p a cap b cap2 a2 cap3 b2 cap4 w hi he hi2 he2 h1 h2
set_option maxHeartbeats 64000000 in
theorem apart_walk (m p : Msg) (v u : Value) (w : World) (hv : RawAt w m v) (hu : RawAt w p u) (hs : Short m) (ht : Short p) (hst : Crc.Steps w) (h0 : 0 < w.heap.size) :
    Calls Tryd.prog 5 #[v, u] w fun e w' => e = .returned (.bool true) ∧ Below w.heap.size w w' := by
  have HST := Lib.hid (fun (w' : World) (b : Below w.heap.size w w') => (⟨hst.of b h0, Nat.lt_of_lt_of_le h0 b.size⟩ : Crc.Steps w' ∧ 0 < w'.heap.size))
  have HLG1 := Lib.hid (fun (w' : World) (b : Below w.heap.size w w') => large_any m v w' (hv.under b) hs)
  have HLG2 := Lib.hid (fun (w' : World) (b : Below w.heap.size w w') => large_any p u w' (hu.under b) ht)
  have HMD1 := Lib.hid (fun (h1 : m.known.length ≤ 1000) (h2 : m.ents.length ≤ 1000) (w' : World) (b : Below w.heap.size w w') => made_any m v w' (hv.under b) h1 h2)
  have HMD2 := Lib.hid (fun (h1 : p.known.length ≤ 1000) (h2 : p.ents.length ≤ 1000) (w' : World) (b : Below w.heap.size w w') => made_any p u w' (hu.under b) h1 h2)
  clear hst h0 hs ht
  obtain ⟨ra, rca, rb, rcb, rfl, -, -⟩ := hv
  obtain ⟨sa, sca, sb, scb, rfl, -, -⟩ := hu
  unfold cellsR at HLG1 HLG2 HMD1 HMD2 ⊢
  obtain ⟨V0, hV⟩ : ∃ V, V = (w.alloc (.cells #[.int .i64 m.kind, .int .i64 m.frm, .int .i64 m.born, .int .i64 m.view, .int .i64 m.last, .int .i64 m.op, .int .i64 m.commit, .int .i64 m.client, .int .i64 m.number, .int .i64 m.nonce, .int .i64 m.base, .slice ra m.known.length rca, .string m.text, .bool m.full, .string m.state, .slice rb m.ents.length rcb] 26)).alloc (.cells #[.int .i64 p.kind, .int .i64 p.frm, .int .i64 p.born, .int .i64 p.view, .int .i64 p.last, .int .i64 p.op, .int .i64 p.commit, .int .i64 p.client, .int .i64 p.number, .int .i64 p.nonce, .int .i64 p.base, .slice sa p.known.length sca, .string p.text, .bool p.full, .string p.state, .slice sb p.ents.length scb] 26) := ⟨_, rfl⟩
  have hb : Below w.heap.size w V0 := by rw [hV]; exact ((Below.refl _ w).alloc (Nat.le_refl _) _).alloc (by simp) _
  have hx : V0.heap[w.heap.size]? = some (.cells #[.int .i64 m.kind, .int .i64 m.frm, .int .i64 m.born, .int .i64 m.view, .int .i64 m.last, .int .i64 m.op, .int .i64 m.commit, .int .i64 m.client, .int .i64 m.number, .int .i64 m.nonce, .int .i64 m.base, .slice ra m.known.length rca, .string m.text, .bool m.full, .string m.state, .slice rb m.ents.length rcb] 26 (0, 0)) := by rw [hV]; exact (heap_alloc_old _ _ (by simp)).trans (heap_alloc_new w _)
  have hy : V0.heap[w.heap.size + 1]? = some (.cells #[.int .i64 p.kind, .int .i64 p.frm, .int .i64 p.born, .int .i64 p.view, .int .i64 p.last, .int .i64 p.op, .int .i64 p.commit, .int .i64 p.client, .int .i64 p.number, .int .i64 p.nonce, .int .i64 p.base, .slice sa p.known.length sca, .string p.text, .bool p.full, .string p.state, .slice sb p.ents.length scb] 26 (0, 0)) := by
    rw [hV]; have := heap_alloc_new (w.alloc (.cells #[.int .i64 m.kind, .int .i64 m.frm, .int .i64 m.born, .int .i64 m.view, .int .i64 m.last, .int .i64 m.op, .int .i64 m.commit, .int .i64 m.client, .int .i64 m.number, .int .i64 m.nonce, .int .i64 m.base, .slice ra m.known.length rca, .string m.text, .bool m.full, .string m.state, .slice rb m.ents.length rcb] 26)) (.cells #[.int .i64 p.kind, .int .i64 p.frm, .int .i64 p.born, .int .i64 p.view, .int .i64 p.last, .int .i64 p.op, .int .i64 p.commit, .int .i64 p.client, .int .i64 p.number, .int .i64 p.nonce, .int .i64 p.base, .slice sa p.known.length sca, .string p.text, .bool p.full, .string p.state, .slice sb p.ents.length scb] 26); simpa using this
  obtain ⟨b2, hb2⟩ : ∃ r, r = w.heap.size + 1 := ⟨_, rfl⟩
  rw [← hb2] at hy
  obtain ⟨b1, hb1⟩ : ∃ r, r = w.heap.size := ⟨_, rfl⟩
  rw [← hb1] at hx
  obtain ⟨R1, hR1⟩ : ∃ v, v = Value.agg #[.int .i64 m.kind, .int .i64 m.frm, .int .i64 m.born, .int .i64 m.view, .int .i64 m.last, .int .i64 m.op, .int .i64 m.commit, .int .i64 m.client, .int .i64 m.number, .int .i64 m.nonce, .int .i64 m.base, .slice ra m.known.length rca, .string m.text, .bool m.full, .string m.state, .slice rb m.ents.length rcb] := ⟨_, rfl⟩
  have HLR1 := Lib.hid (fun (w' : World) (h : w'.heap[b1]? = some (.cells #[.int .i64 m.kind, .int .i64 m.frm, .int .i64 m.born, .int .i64 m.view, .int .i64 m.last, .int .i64 m.op, .int .i64 m.commit, .int .i64 m.client, .int .i64 m.number, .int .i64 m.nonce, .int .i64 m.base, .slice ra m.known.length rca, .string m.text, .bool m.full, .string m.state, .slice rb m.ents.length rcb] 26 (0, 0))) => show (loadVar 26 ⟨b1, 0, none⟩).run Tryd.prog w' = .ok R1 w' by
    rw [hR1]; exact run_loadVar_row w' _ _ 26 _ _ _ h Tryd.underlying26 rfl (by kernel_rfl))
  obtain ⟨R2, hR2⟩ : ∃ v, v = Value.agg #[.int .i64 p.kind, .int .i64 p.frm, .int .i64 p.born, .int .i64 p.view, .int .i64 p.last, .int .i64 p.op, .int .i64 p.commit, .int .i64 p.client, .int .i64 p.number, .int .i64 p.nonce, .int .i64 p.base, .slice sa p.known.length sca, .string p.text, .bool p.full, .string p.state, .slice sb p.ents.length scb] := ⟨_, rfl⟩
  have HLR2 := Lib.hid (fun (w' : World) (h : w'.heap[b2]? = some (.cells #[.int .i64 p.kind, .int .i64 p.frm, .int .i64 p.born, .int .i64 p.view, .int .i64 p.last, .int .i64 p.op, .int .i64 p.commit, .int .i64 p.client, .int .i64 p.number, .int .i64 p.nonce, .int .i64 p.base, .slice sa p.known.length sca, .string p.text, .bool p.full, .string p.state, .slice sb p.ents.length scb] 26 (0, 0))) => show (loadVar 26 ⟨b2, 0, none⟩).run Tryd.prog w' = .ok R2 w' by
    rw [hR2]; exact run_loadVar_row w' _ _ 26 _ _ _ h Tryd.underlying26 rfl (by kernel_rfl))
  rw [← hR1] at HLG1 HMD1
  rw [← hR2] at HLG2 HMD2
  have HX0 := Lib.hid hx
  have HY0 := Lib.hid hy
  have HB0 := Lib.hid hb
  have HV0 := Lib.hid hV
  have HE1 := Lib.hid hb1
  have HE2 := Lib.hid hb2
  clear hV hb hx hy hb1 hb2 hR1 hR2
  go_enter Tryd.func5, Tryd.ntmps5
  go_upto_region 1 with fail
  rw [← HV0.out, ← HE2.out, ← HE1.out]
  go_wp2_with fail
  refine (speaks_any _ (HST.out _ HB0.out).1 (HST.out _ HB0.out).2).mono ?_
  rintro e w1 ⟨rfl, b⟩
  have HB1 := Lib.hid (HB0.out.trans (b.mono HB0.out.size))
  have HX1 := Lib.hid ((b.block _ (Gn.heap_lt HX0.out)).trans HX0.out)
  have HY1 := Lib.hid ((b.block _ (Gn.heap_lt HY0.out)).trans HY0.out)
  clear b HX0 HY0
  have hl := HLR1.out _ HX1.out
  go_wp2_with (first | (refine LexT.wpList_val _ (by rfl) (exec_load _ _ 26 _ _ _ _ rfl rfl hl) ?_) | fail)
  refine (HLG1.out _ HB1.out).mono ?_
  rintro e w2 ⟨q, rfl, hq, b⟩
  have HB2 := Lib.hid (HB1.out.trans (b.mono HB1.out.size))
  have HX2 := Lib.hid ((b.block _ (Gn.heap_lt HX1.out)).trans HX1.out)
  have HY2 := Lib.hid ((b.block _ (Gn.heap_lt HY1.out)).trans HY1.out)
  clear b hl
  cases q with
  | true =>
    go_wp2
    go_ret
    exact ⟨rfl, HB2.out⟩
  | false =>
    obtain ⟨hn1, hn2⟩ := hq rfl
    have HN1 := Lib.hid (show m.known.length ≤ 1000 by omega)
    have HN2 := Lib.hid (show m.ents.length ≤ 1000 by omega)
    clear hn1 hn2 hq
    have hl := HLR2.out _ HY2.out
    go_wp2_with (first | (refine LexT.wpList_val _ (by rfl) (exec_load _ _ 26 _ _ _ _ rfl rfl hl) ?_) | fail)
    refine (HLG2.out _ HB2.out).mono ?_
    rintro e w3 ⟨q, rfl, hq, b⟩
    have HB3 := Lib.hid (HB2.out.trans (b.mono HB2.out.size))
    have HX3 := Lib.hid ((b.block _ (Gn.heap_lt HX2.out)).trans HX2.out)
    have HY3 := Lib.hid ((b.block _ (Gn.heap_lt HY2.out)).trans HY2.out)
    clear b hl
    cases q with
    | true =>
      go_wp2
      go_ret
      exact ⟨rfl, HB3.out⟩
    | false =>
      obtain ⟨hn1, hn2⟩ := hq rfl
      have HN3 := Lib.hid (show p.known.length ≤ 1000 by omega)
      have HN4 := Lib.hid (show p.ents.length ≤ 1000 by omega)
      clear hn1 hn2 hq
      have hl := HLR1.out _ HX3.out
      go_wp2_with (first | (refine LexT.wpList_val _ (by rfl) (exec_load _ _ 26 _ _ _ _ rfl rfl hl) ?_) | fail)
      refine (HMD1.out HN1.out HN2.out _ HB3.out).mono ?_
      rintro e w4 ⟨pv, pu, rfl, hpv, hpu, b⟩
      have HB4 := Lib.hid (HB3.out.trans (b.mono HB3.out.size))
      have HY4 := Lib.hid ((b.block _ (Gn.heap_lt HY3.out)).trans HY3.out)
      have HPV := Lib.hid hpv
      have HPU := Lib.hid hpu
      clear b hl
      obtain ⟨a1, k1, c1, l1, rfl, -, -⟩ := hpv
      obtain ⟨a2, k2, c2, l2, rfl, -, -⟩ := hpu
      unfold cellsM at HPV HPU ⊢
      obtain ⟨V1, hV⟩ : ∃ V, V = (w4.alloc (.cells #[.int .i64 m.kind, .int .i64 m.frm, .int .i64 m.born, .slice a1 m.known.length k1, .int .i64 m.view, .int .i64 m.last, .int .i64 m.op, .int .i64 m.commit, .int .i64 m.client, .int .i64 m.number, .int .i64 m.nonce, .string m.text, .bool m.full, .int .i64 m.base, .string m.state, .slice c1 m.ents.length l1] 31)).alloc (.cells #[.int .i64 m.kind, .int .i64 m.frm, .int .i64 m.born, .slice a2 m.known.length k2, .int .i64 m.view, .int .i64 m.last, .int .i64 m.op, .int .i64 m.commit, .int .i64 m.client, .int .i64 m.number, .int .i64 m.nonce, .string m.text, .bool m.full, .int .i64 m.base, .string m.state, .slice c2 m.ents.length l2] 34) := ⟨_, rfl⟩
      have hb : Below w4.heap.size w4 V1 := by rw [hV]; exact ((Below.refl _ w4).alloc (Nat.le_refl _) _).alloc (by simp) _
      have hx : V1.heap[w4.heap.size]? = some (.cells #[.int .i64 m.kind, .int .i64 m.frm, .int .i64 m.born, .slice a1 m.known.length k1, .int .i64 m.view, .int .i64 m.last, .int .i64 m.op, .int .i64 m.commit, .int .i64 m.client, .int .i64 m.number, .int .i64 m.nonce, .string m.text, .bool m.full, .int .i64 m.base, .string m.state, .slice c1 m.ents.length l1] 31 (0, 0)) := by rw [hV]; exact (heap_alloc_old _ _ (by simp)).trans (heap_alloc_new w4 _)
      have hy : V1.heap[w4.heap.size + 1]? = some (.cells #[.int .i64 m.kind, .int .i64 m.frm, .int .i64 m.born, .slice a2 m.known.length k2, .int .i64 m.view, .int .i64 m.last, .int .i64 m.op, .int .i64 m.commit, .int .i64 m.client, .int .i64 m.number, .int .i64 m.nonce, .string m.text, .bool m.full, .int .i64 m.base, .string m.state, .slice c2 m.ents.length l2] 34 (0, 0)) := by
        rw [hV]; have := heap_alloc_new (w4.alloc (.cells #[.int .i64 m.kind, .int .i64 m.frm, .int .i64 m.born, .slice a1 m.known.length k1, .int .i64 m.view, .int .i64 m.last, .int .i64 m.op, .int .i64 m.commit, .int .i64 m.client, .int .i64 m.number, .int .i64 m.nonce, .string m.text, .bool m.full, .int .i64 m.base, .string m.state, .slice c1 m.ents.length l1] 31)) (.cells #[.int .i64 m.kind, .int .i64 m.frm, .int .i64 m.born, .slice a2 m.known.length k2, .int .i64 m.view, .int .i64 m.last, .int .i64 m.op, .int .i64 m.commit, .int .i64 m.client, .int .i64 m.number, .int .i64 m.nonce, .string m.text, .bool m.full, .int .i64 m.base, .string m.state, .slice c2 m.ents.length l2] 34); simpa using this
      obtain ⟨p2, hq⟩ : ∃ r, r = w4.heap.size + 1 := ⟨_, rfl⟩
      rw [← hq] at hy
      obtain ⟨p1, hp⟩ : ∃ r, r = w4.heap.size := ⟨_, rfl⟩
      rw [← hp] at hx
      have HV1 := Lib.hid hV
      have HW1 := Lib.hid hb
      have HCp1 := Lib.hid hx
      have HCp2 := Lib.hid hy
      have HEp1 := Lib.hid hp
      have HEp2 := Lib.hid hq
      clear hV hb hx hy hp hq
      have HPV1 := Lib.hid (HPV.out.under HW1.out)
      have HPU1 := Lib.hid (HPU.out.under HW1.out)
      have HB5 := Lib.hid (HB4.out.trans (HW1.out.mono HB4.out.size))
      have HY5 := Lib.hid ((HW1.out.block _ (Gn.heap_lt HY4.out)).trans HY4.out)
      clear HPV HPU HX1 HX2 HX3 HY1 HY2 HY3
      go_upto_region 6 with fail
      rw [← HV1.out, ← HEp2.out, ← HEp1.out]
      have hl := HLR2.out _ HY5.out
      go_wp2_with (first | (refine LexT.wpList_val _ (by rfl) (exec_load _ _ 26 _ _ _ _ rfl rfl hl) ?_) | fail)
      refine (HMD2.out HN3.out HN4.out _ HB5.out).mono ?_
      rintro e w5 ⟨pv, pu, rfl, hpv, hpu, b⟩
      have HB6 := Lib.hid (HB5.out.trans (b.mono HB5.out.size))
      have HD1 := Lib.hid ((b.block _ (Gn.heap_lt HCp1.out)).trans HCp1.out)
      have HD2 := Lib.hid ((b.block _ (Gn.heap_lt HCp2.out)).trans HCp2.out)
      have HPV2 := Lib.hid (HPV1.out.under b)
      have HPU2 := Lib.hid (HPU1.out.under b)
      have HQV := Lib.hid hpv
      have HQU := Lib.hid hpu
      clear b hl
      obtain ⟨a3, k3, c3, l3, rfl, -, -⟩ := hpv
      obtain ⟨a4, k4, c4, l4, rfl, -, -⟩ := hpu
      unfold cellsM at HQV HQU ⊢
      obtain ⟨V2, hV⟩ : ∃ V, V = (w5.alloc (.cells #[.int .i64 p.kind, .int .i64 p.frm, .int .i64 p.born, .slice a3 p.known.length k3, .int .i64 p.view, .int .i64 p.last, .int .i64 p.op, .int .i64 p.commit, .int .i64 p.client, .int .i64 p.number, .int .i64 p.nonce, .string p.text, .bool p.full, .int .i64 p.base, .string p.state, .slice c3 p.ents.length l3] 31)).alloc (.cells #[.int .i64 p.kind, .int .i64 p.frm, .int .i64 p.born, .slice a4 p.known.length k4, .int .i64 p.view, .int .i64 p.last, .int .i64 p.op, .int .i64 p.commit, .int .i64 p.client, .int .i64 p.number, .int .i64 p.nonce, .string p.text, .bool p.full, .int .i64 p.base, .string p.state, .slice c4 p.ents.length l4] 34) := ⟨_, rfl⟩
      have hb : Below w5.heap.size w5 V2 := by rw [hV]; exact ((Below.refl _ w5).alloc (Nat.le_refl _) _).alloc (by simp) _
      have hx : V2.heap[w5.heap.size]? = some (.cells #[.int .i64 p.kind, .int .i64 p.frm, .int .i64 p.born, .slice a3 p.known.length k3, .int .i64 p.view, .int .i64 p.last, .int .i64 p.op, .int .i64 p.commit, .int .i64 p.client, .int .i64 p.number, .int .i64 p.nonce, .string p.text, .bool p.full, .int .i64 p.base, .string p.state, .slice c3 p.ents.length l3] 31 (0, 0)) := by rw [hV]; exact (heap_alloc_old _ _ (by simp)).trans (heap_alloc_new w5 _)
      have hy : V2.heap[w5.heap.size + 1]? = some (.cells #[.int .i64 p.kind, .int .i64 p.frm, .int .i64 p.born, .slice a4 p.known.length k4, .int .i64 p.view, .int .i64 p.last, .int .i64 p.op, .int .i64 p.commit, .int .i64 p.client, .int .i64 p.number, .int .i64 p.nonce, .string p.text, .bool p.full, .int .i64 p.base, .string p.state, .slice c4 p.ents.length l4] 34 (0, 0)) := by
        rw [hV]; have := heap_alloc_new (w5.alloc (.cells #[.int .i64 p.kind, .int .i64 p.frm, .int .i64 p.born, .slice a3 p.known.length k3, .int .i64 p.view, .int .i64 p.last, .int .i64 p.op, .int .i64 p.commit, .int .i64 p.client, .int .i64 p.number, .int .i64 p.nonce, .string p.text, .bool p.full, .int .i64 p.base, .string p.state, .slice c3 p.ents.length l3] 31)) (.cells #[.int .i64 p.kind, .int .i64 p.frm, .int .i64 p.born, .slice a4 p.known.length k4, .int .i64 p.view, .int .i64 p.last, .int .i64 p.op, .int .i64 p.commit, .int .i64 p.client, .int .i64 p.number, .int .i64 p.nonce, .string p.text, .bool p.full, .int .i64 p.base, .string p.state, .slice c4 p.ents.length l4] 34); simpa using this
      obtain ⟨p4, hq⟩ : ∃ r, r = w5.heap.size + 1 := ⟨_, rfl⟩
      rw [← hq] at hy
      obtain ⟨p3, hp⟩ : ∃ r, r = w5.heap.size := ⟨_, rfl⟩
      rw [← hp] at hx
      have HV2 := Lib.hid hV
      have HW2 := Lib.hid hb
      have HCp3 := Lib.hid hx
      have HCp4 := Lib.hid hy
      have HEp3 := Lib.hid hp
      have HEp4 := Lib.hid hq
      clear hV hb hx hy hp hq
      have HB7 := Lib.hid (HB6.out.trans (HW2.out.mono HB6.out.size))
      have HF1 := Lib.hid ((HW2.out.block _ (Gn.heap_lt HD1.out)).trans HD1.out)
      have HF2 := Lib.hid ((HW2.out.block _ (Gn.heap_lt HD2.out)).trans HD2.out)
      have HAV := Lib.hid (HPV2.out.under HW2.out)
      have HAU := Lib.hid (HPU2.out.under HW2.out)
      have HBV := Lib.hid (HQV.out.under HW2.out)
      have HBU := Lib.hid (HQU.out.under HW2.out)
      go_upto_region 7 with fail
      rw [← HV2.out, ← HEp4.out, ← HEp3.out]
      clear HV1 HV2 HEp1 HEp2 HEp3 HEp4 HPV1 HPU1 HPV2 HPU2 HQV HQU HD1 HD2 HY4 HY5 HCp1 HCp2 HLR1 HLR2 HLG1 HLG2 HMD1 HMD2 HB0 HB1 HB2 HB3 HB4 HB5 HB6
      obtain ⟨P1, hP1⟩ : ∃ v, v = Value.agg #[.int .i64 m.kind, .int .i64 m.frm, .int .i64 m.born, .slice a1 m.known.length k1, .int .i64 m.view, .int .i64 m.last, .int .i64 m.op, .int .i64 m.commit, .int .i64 m.client, .int .i64 m.number, .int .i64 m.nonce, .string m.text, .bool m.full, .int .i64 m.base, .string m.state, .slice c1 m.ents.length l1] := ⟨_, rfl⟩
      have HLP1 := Lib.hid (fun (w' : World) (h : w'.heap[p1]? = some (.cells #[.int .i64 m.kind, .int .i64 m.frm, .int .i64 m.born, .slice a1 m.known.length k1, .int .i64 m.view, .int .i64 m.last, .int .i64 m.op, .int .i64 m.commit, .int .i64 m.client, .int .i64 m.number, .int .i64 m.nonce, .string m.text, .bool m.full, .int .i64 m.base, .string m.state, .slice c1 m.ents.length l1] 31 (0, 0))) => show (loadVar 31 ⟨p1, 0, none⟩).run Tryd.prog w' = .ok P1 w' by
        rw [hP1]; exact run_loadVar_row w' _ _ 31 _ _ _ h Tryd.underlying31 rfl (by kernel_rfl))
      obtain ⟨P2, hP2⟩ : ∃ v, v = Value.agg #[.int .i64 m.kind, .int .i64 m.frm, .int .i64 m.born, .slice a2 m.known.length k2, .int .i64 m.view, .int .i64 m.last, .int .i64 m.op, .int .i64 m.commit, .int .i64 m.client, .int .i64 m.number, .int .i64 m.nonce, .string m.text, .bool m.full, .int .i64 m.base, .string m.state, .slice c2 m.ents.length l2] := ⟨_, rfl⟩
      have HLP2 := Lib.hid (fun (w' : World) (h : w'.heap[p2]? = some (.cells #[.int .i64 m.kind, .int .i64 m.frm, .int .i64 m.born, .slice a2 m.known.length k2, .int .i64 m.view, .int .i64 m.last, .int .i64 m.op, .int .i64 m.commit, .int .i64 m.client, .int .i64 m.number, .int .i64 m.nonce, .string m.text, .bool m.full, .int .i64 m.base, .string m.state, .slice c2 m.ents.length l2] 34 (0, 0))) => show (loadVar 34 ⟨p2, 0, none⟩).run Tryd.prog w' = .ok P2 w' by
        rw [hP2]; exact run_loadVar_row w' _ _ 34 _ _ _ h Tryd.underlying34 rfl (by kernel_rfl))
      obtain ⟨P3, hP3⟩ : ∃ v, v = Value.agg #[.int .i64 p.kind, .int .i64 p.frm, .int .i64 p.born, .slice a3 p.known.length k3, .int .i64 p.view, .int .i64 p.last, .int .i64 p.op, .int .i64 p.commit, .int .i64 p.client, .int .i64 p.number, .int .i64 p.nonce, .string p.text, .bool p.full, .int .i64 p.base, .string p.state, .slice c3 p.ents.length l3] := ⟨_, rfl⟩
      have HLP3 := Lib.hid (fun (w' : World) (h : w'.heap[p3]? = some (.cells #[.int .i64 p.kind, .int .i64 p.frm, .int .i64 p.born, .slice a3 p.known.length k3, .int .i64 p.view, .int .i64 p.last, .int .i64 p.op, .int .i64 p.commit, .int .i64 p.client, .int .i64 p.number, .int .i64 p.nonce, .string p.text, .bool p.full, .int .i64 p.base, .string p.state, .slice c3 p.ents.length l3] 31 (0, 0))) => show (loadVar 31 ⟨p3, 0, none⟩).run Tryd.prog w' = .ok P3 w' by
        rw [hP3]; exact run_loadVar_row w' _ _ 31 _ _ _ h Tryd.underlying31 rfl (by kernel_rfl))
      obtain ⟨P4, hP4⟩ : ∃ v, v = Value.agg #[.int .i64 p.kind, .int .i64 p.frm, .int .i64 p.born, .slice a4 p.known.length k4, .int .i64 p.view, .int .i64 p.last, .int .i64 p.op, .int .i64 p.commit, .int .i64 p.client, .int .i64 p.number, .int .i64 p.nonce, .string p.text, .bool p.full, .int .i64 p.base, .string p.state, .slice c4 p.ents.length l4] := ⟨_, rfl⟩
      have HLP4 := Lib.hid (fun (w' : World) (h : w'.heap[p4]? = some (.cells #[.int .i64 p.kind, .int .i64 p.frm, .int .i64 p.born, .slice a4 p.known.length k4, .int .i64 p.view, .int .i64 p.last, .int .i64 p.op, .int .i64 p.commit, .int .i64 p.client, .int .i64 p.number, .int .i64 p.nonce, .string p.text, .bool p.full, .int .i64 p.base, .string p.state, .slice c4 p.ents.length l4] 34 (0, 0))) => show (loadVar 34 ⟨p4, 0, none⟩).run Tryd.prog w' = .ok P4 w' by
        rw [hP4]; exact run_loadVar_row w' _ _ 34 _ _ _ h Tryd.underlying34 rfl (by kernel_rfl))
      rw [← hP1] at HAV
      rw [← hP2] at HAU
      rw [← hP3] at HBV
      rw [← hP4] at HBU
      clear hP1 hP2 hP3 hP4
      have HGA := good_at m P1 V2 HAV.out HN1.out HN2.out
      have HGB := Lib.hid (fun (w' : World) (b : Below V2.heap.size V2 w') => good_at p P3 w' (HBV.out.under b) HN3.out HN4.out)
      obtain ⟨g1, hg1⟩ : ∃ g, g = goodM m 3 := ⟨_, rfl⟩
      obtain ⟨g2, hg2⟩ : ∃ g, g = goodM p 3 := ⟨_, rfl⟩
      rw [← hg1] at HGA
      rw [← hg2] at HGB
      have HG1 := Lib.hid hg1
      have HG2 := Lib.hid hg2
      have HGA := Lib.hid HGA
      clear hg1 hg2
      have hl := HLP1.out _ HF1.out
      go_wp2_with (first | (refine LexT.wpList_val _ (by rfl) (exec_load _ _ 31 _ _ _ _ rfl rfl hl) ?_) | fail)
      refine HGA.out.mono ?_
      rintro e U1 ⟨rfl, b⟩
      have HU1 := Lib.hid b
      have HB8 := Lib.hid (HB7.out.trans (b.mono HB7.out.size))
      clear b hl HGA
      cases g1 with
      | false =>
        go_wp2
        go_ret
        exact ⟨rfl, HB8.out⟩
      | true =>
        have hl := HLP3.out _ ((HU1.out.block _ (Gn.heap_lt HCp3.out)).trans HCp3.out)
        go_wp2_with (first | (refine LexT.wpList_val _ (by rfl) (exec_load _ _ 31 _ _ _ _ rfl rfl hl) ?_) | fail)
        refine (HGB.out _ HU1.out).mono ?_
        rintro e U ⟨rfl, b⟩
        have HU := Lib.hid (HU1.out.trans (b.mono HU1.out.size))
        have HB9 := Lib.hid (HB8.out.trans (b.mono HB8.out.size))
        clear b hl HGB
        cases g2 with
        | false =>
          go_wp2
          go_ret
          exact ⟨rfl, HB9.out⟩
        | true =>
          have HM1 := Lib.hid ((HU.out.block _ (Gn.heap_lt HF1.out)).trans HF1.out)
          have HM2 := Lib.hid ((HU.out.block _ (Gn.heap_lt HF2.out)).trans HF2.out)
          have HM3 := Lib.hid ((HU.out.block _ (Gn.heap_lt HCp3.out)).trans HCp3.out)
          have HM4 := Lib.hid ((HU.out.block _ (Gn.heap_lt HCp4.out)).trans HCp4.out)
          have HLA := Lib.hid (fun (w' : World) (b : Below U.heap.size U w') => HLP1.out w' ((b.block _ (Gn.heap_lt HM1.out)).trans HM1.out))
          have HLB := Lib.hid (fun (w' : World) (b : Below U.heap.size U w') => HLP2.out w' ((b.block _ (Gn.heap_lt HM2.out)).trans HM2.out))
          have HLC := Lib.hid (fun (w' : World) (b : Below U.heap.size U w') => HLP3.out w' ((b.block _ (Gn.heap_lt HM3.out)).trans HM3.out))
          have HLE := Lib.hid (fun (w' : World) (b : Below U.heap.size U w') => HLP4.out w' ((b.block _ (Gn.heap_lt HM4.out)).trans HM4.out))
          obtain ⟨s1, hs1⟩ : ∃ s, s = putM m 3 := ⟨_, rfl⟩
          obtain ⟨s2, hs2⟩ : ∃ s, s = putM p 3 := ⟨_, rfl⟩
          obtain ⟨t, ht⟩ : ∃ t, t = sameB m p := ⟨_, rfl⟩
          have hst : (s1.toList == s2.toList) = t := by
            have h1 := put_inj HG1.out.symm HG2.out.symm
            have h2 := sameB_iff m p
            rw [← hs1, ← hs2] at h1
            rw [← ht] at h2
            have h3 : s1.toList = s2.toList ↔ s1 = s2 := by
              rw [ByteArray.toList_eq, ByteArray.toList_eq]
              exact ⟨fun h => ByteArray.ext (Array.toList_inj.1 h), fun h => by rw [h]⟩
            rw [Bool.eq_iff_iff, beq_iff_eq, h3, h1, h2]
          have htt : (t == t) = true := by cases t <;> rfl
          have HPA := Lib.hid (fun (w' : World) (b : Below U.heap.size U w') => show Calls Tryd.prog 10 #[P1, .int .i64 3] w' (fun e w2 => e = .returned (.string s1) ∧ Below w'.heap.size w' w2) by
            have hbw := HB9.out.trans (b.mono HB9.out.size)
            rw [hs1]; exact put_at m P1 w' ((HAV.out.under HU.out).under b) HN1.out HN2.out (HST.out _ hbw).1 (HST.out _ hbw).2)
          have HPB := Lib.hid (fun (w' : World) (b : Below U.heap.size U w') => show Calls Tryd.prog 10 #[P3, .int .i64 3] w' (fun e w2 => e = .returned (.string s2) ∧ Below w'.heap.size w' w2) by
            have hbw := HB9.out.trans (b.mono HB9.out.size)
            rw [hs2]; exact put_at p P3 w' ((HBV.out.under HU.out).under b) HN3.out HN4.out (HST.out _ hbw).1 (HST.out _ hbw).2)
          have HSA := Lib.hid (fun (w' : World) (b : Below U.heap.size U w') => show Calls Tryd.prog 14 #[P2, P4] w' (fun e w2 => e = .returned (.bool t) ∧ Below w'.heap.size w' w2) by
            rw [ht]; exact same_at m p P2 P4 w' ((HAU.out.under HU.out).under b) ((HBU.out.under HU.out).under b) HN1.out HN2.out)
          clear hs1 hs2 ht HG1 HG2
          go_upto_region 9 with fail
          refine LooseD.region_loose (fun w9 => Below U.heap.size U w9) _ _ (by kernel_rfl) (by kernel_rfl)
            (LooseD.waits (D := [[], [], [], [], [], [], [], [], [], []]) (by kernel_rfl))
            (LooseD.stays (ts := [none, some (.is (.string s1)), none, some (.is (.string s2)), none, none, none, some (.is (.bool t)), none, none]) (fun w w' h b => h.trans (b.mono h.size)) (.none (.is (.none (.is (.none (.none (.none (.is (.none (.none .nil)))))))))))
            (Gn.below_drew (Below.refl _ _)) ?_
          refine LooseD.reads P1 rfl rfl ?_ ?_
          · intro w9 hw
            exact exec_load _ _ 31 _ _ P1 _ rfl rfl (HLA.out _ hw)
          try simp only [Act.put, List.setIfInBounds_toArray, List.set_cons_zero, List.set_cons_succ]
          refine LooseD.gives (.string s1) 10 #[P1, .int .i64 3] rfl rfl ?_ (fun w9 hw hH => HPA.out w9 hw) ?_
          · intro w9 hw
            clear hw
            go_simp
          try simp only [Act.put, List.setIfInBounds_toArray, List.set_cons_zero, List.set_cons_succ]
          refine LooseD.reads P3 rfl rfl ?_ ?_
          · intro w9 hw
            exact exec_load _ _ 31 _ _ P3 _ rfl rfl (HLC.out _ hw)
          try simp only [Act.put, List.setIfInBounds_toArray, List.set_cons_zero, List.set_cons_succ]
          refine LooseD.gives (.string s2) 10 #[P3, .int .i64 3] rfl rfl ?_ (fun w9 hw hH => HPB.out w9 hw) ?_
          · intro w9 hw
            clear hw
            go_simp
          try simp only [Act.put, List.setIfInBounds_toArray, List.set_cons_zero, List.set_cons_succ]
          refine LooseD.reads (.bool t) rfl rfl ?_ ?_
          · intro w9 hw
            clear hw
            go_simp
          try simp only [Act.put, List.setIfInBounds_toArray, List.set_cons_zero, List.set_cons_succ]
          refine LooseD.reads P2 rfl rfl ?_ ?_
          · intro w9 hw
            exact exec_load _ _ 34 _ _ P2 _ rfl rfl (HLB.out _ hw)
          try simp only [Act.put, List.setIfInBounds_toArray, List.set_cons_zero, List.set_cons_succ]
          refine LooseD.reads P4 rfl rfl ?_ ?_
          · intro w9 hw
            exact exec_load _ _ 34 _ _ P4 _ rfl rfl (HLE.out _ hw)
          try simp only [Act.put, List.setIfInBounds_toArray, List.set_cons_zero, List.set_cons_succ]
          refine LooseD.gives (.bool t) 14 #[P2, P4] rfl rfl ?_ (fun w9 hw hH => HSA.out w9 hw) ?_
          · intro w9 hw
            clear hw
            go_simp
          try simp only [Act.put, List.setIfInBounds_toArray, List.set_cons_zero, List.set_cons_succ]
          refine LooseD.reads (.bool true) rfl rfl ?_ ?_
          · intro w9 hw
            clear hw
            go_simp
          try simp only [Act.put, List.setIfInBounds_toArray, List.set_cons_zero, List.set_cons_succ]
          refine LooseD.reads (.bool true) rfl rfl ?_ ?_
          · intro w9 hw
            clear hw
            go_simp
          try simp only [Act.put, List.setIfInBounds_toArray, List.set_cons_zero, List.set_cons_succ]
          refine LooseD.done ?_
          intro w7 hw7 _
          go_wp2_with fail
          refine bodyPost_ret (results_tmp rfl _ _ _) rfl ?_
          exact ⟨rfl, HB9.out.trans (hw7.mono HB9.out.size)⟩
end Go.Proofs.YtfeelmblnkpfdaaDoor.Ms
