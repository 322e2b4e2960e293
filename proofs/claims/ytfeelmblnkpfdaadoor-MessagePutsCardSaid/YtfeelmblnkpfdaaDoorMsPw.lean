/-
  Layer 23: the document's Put; the walk of MessagePuts.
-/
import Derived.Test.YtfeelmblnkpfdaaDoorMsMd
import Derived.Test.YtfeelmblnkpfdaaDoorMsSa
import Derived.Test.YtfeelmblnkpfdaaDoorMsSk
import Derived.Test.YtfeelmblnkpfdaaDoorMsDb
import Derived.Test.YtfeelmblnkpfdaaDoorMsDy
import Derived.Test.YtfeelmblnkpfdaaDoorMsTo
import Derived.Test.YtfeelmblnkpfdaaDoorLooseD
namespace Go.Proofs.YtfeelmblnkpfdaaDoor.Mp
open Go.RowKit Ms
set_option maxRecDepth 100000
set_option linter.unusedSimpArgs false
set_option linter.unusedVariables false

theorem good_at (m : Msg) (r : Int) (v : Value) (w : World) (h : MsgAt w m v) (h1 : m.known.length ≤ 1000) (h2 : m.ents.length ≤ 1000) : Calls Tryd.prog 11 #[v, .int .i64 r] w (Says (goodM m r) w) := by
  obtain ⟨a, cap, b, cap2, rfl, hi, he⟩ := h
  exact good_any m.kind m.frm m.born m.known m.view m.last m.op m.commit m.client m.number m.nonce m.text m.full m.base m.state m.ents a m.known.length cap b m.ents.length cap2 r w rfl rfl hi he (by omega) (by omega)
theorem put_at (m : Msg) (r : Int) (v : Value) (w : World) (h : MsgAt w m v) (h1 : m.known.length ≤ 1000) (h2 : m.ents.length ≤ 1000) (hst : Crc.Steps w) (h0 : 0 < w.heap.size) : Calls Tryd.prog 10 #[v, .int .i64 r] w (fun e w' => e = .returned (.string (putM m r)) ∧ Below w.heap.size w w') := by
  obtain ⟨a, cap, b, cap2, rfl, hi, he⟩ := h
  exact put_any m.kind m.frm m.born m.known m.view m.last m.op m.commit m.client m.number m.nonce m.text m.full m.base m.state m.ents a m.known.length cap b m.ents.length cap2 r w hst h0 rfl rfl hi he h1 h2
theorem same_at (m p : Msg) (v u : Value) (w : World) (h : MsgAt w m v) (k : MsgAt w p u) (h1 : m.known.length ≤ 1000) (h2 : m.ents.length ≤ 1000) : Calls Tryd.prog 14 #[v, u] w (Says (sameB m p) w) := by
  obtain ⟨a, cap, b, cap2, rfl, hi, he⟩ := h
  obtain ⟨a2, cap3, b2, cap4, rfl, hi2, he2⟩ := k
  exact same_any m p a cap b cap2 a2 cap3 b2 cap4 w hi he hi2 he2 h1 h2
theorem docgood_at (m : Msg) (r : Int) (v : Value) (w : World) (h : MsgAt w m v) (h1 : m.known.length ≤ 1000) (h2 : m.ents.length ≤ 1000) : Calls Tryd.prog 9 #[v, .int .i64 r] w (Says (goodM m r) w) := by
  rw [← doc_eq]
  exact rgood_any m r v w h h1 h2 (.inr trivial)
set_option maxHeartbeats 8000000 in
theorem docput_at (m : Msg) (r : Int) (v : Value) (w : World) (h : MsgAt w m v) (h1 : m.known.length ≤ 1000) (h2 : m.ents.length ≤ 1000) : Calls Tryd.prog 12 #[v, .int .i64 r] w (fun e w' => e = .returned (.string (putM m r)) ∧ Below w.heap.size w w') := by
  have HG := Lib.hid (fun (w' : World) (b : Below w.heap.size w w') => docgood_at m r v w' (h.under b) h1 h2)
  have HY := Lib.hid (fun (hg : goodM m r = true) (w' : World) (b : Below w.heap.size w w') => rbody_any m r hg v w' (h.under b))
  obtain ⟨a, cap, b, cap2, rfl, -, -⟩ := h
  unfold cellsM at HG HY ⊢
  obtain ⟨V, hV⟩ : ∃ V, V = w.alloc (.cells #[.int .i64 m.kind, .int .i64 m.frm, .int .i64 m.born, .slice a m.known.length cap, .int .i64 m.view, .int .i64 m.last, .int .i64 m.op, .int .i64 m.commit, .int .i64 m.client, .int .i64 m.number, .int .i64 m.nonce, .string m.text, .bool m.full, .int .i64 m.base, .string m.state, .slice b m.ents.length cap2] 34) := ⟨_, rfl⟩
  have hb : Below w.heap.size w V := by rw [hV]; exact (Below.refl _ w).alloc (Nat.le_refl _) _
  have hx : V.heap[w.heap.size]? = some (.cells #[.int .i64 m.kind, .int .i64 m.frm, .int .i64 m.born, .slice a m.known.length cap, .int .i64 m.view, .int .i64 m.last, .int .i64 m.op, .int .i64 m.commit, .int .i64 m.client, .int .i64 m.number, .int .i64 m.nonce, .string m.text, .bool m.full, .int .i64 m.base, .string m.state, .slice b m.ents.length cap2] 34 (0, 0)) := by rw [hV]; exact heap_alloc_new w _
  obtain ⟨b1, hb1⟩ : ∃ r, r = w.heap.size := ⟨_, rfl⟩
  rw [← hb1] at hx
  obtain ⟨R1, hR1⟩ : ∃ v, v = Value.agg #[.int .i64 m.kind, .int .i64 m.frm, .int .i64 m.born, .slice a m.known.length cap, .int .i64 m.view, .int .i64 m.last, .int .i64 m.op, .int .i64 m.commit, .int .i64 m.client, .int .i64 m.number, .int .i64 m.nonce, .string m.text, .bool m.full, .int .i64 m.base, .string m.state, .slice b m.ents.length cap2] := ⟨_, rfl⟩
  have HLR1 := Lib.hid (fun (w' : World) (h : w'.heap[b1]? = some (.cells #[.int .i64 m.kind, .int .i64 m.frm, .int .i64 m.born, .slice a m.known.length cap, .int .i64 m.view, .int .i64 m.last, .int .i64 m.op, .int .i64 m.commit, .int .i64 m.client, .int .i64 m.number, .int .i64 m.nonce, .string m.text, .bool m.full, .int .i64 m.base, .string m.state, .slice b m.ents.length cap2] 34 (0, 0))) => show (loadVar 34 ⟨b1, 0, none⟩).run Tryd.prog w' = .ok R1 w' by
    rw [hR1]; exact run_loadVar_row w' _ _ 34 _ _ _ h Tryd.underlying34 rfl (by kernel_rfl))
  rw [← hR1] at HG HY
  have HX := Lib.hid hx
  have HB := Lib.hid hb
  have HV := Lib.hid hV
  have HE1 := Lib.hid hb1
  clear hV hb hx hb1 hR1
  obtain ⟨g, hg⟩ : ∃ g, g = goodM m r := ⟨_, rfl⟩
  rw [← hg] at HG
  have HGD := Lib.hid hg
  clear hg
  go_enter Tryd.func12, Tryd.ntmps12
  go_upto_region 1 with fail
  rw [← HV.out, ← HE1.out]
  have hl := HLR1.out _ HX.out
  go_wp2_with (first | (refine LexT.wpList_val _ (by rfl) (exec_load _ _ 34 _ _ _ _ rfl rfl hl) ?_) | fail)
  refine (HG.out _ HB.out).mono ?_
  rintro e w1 ⟨rfl, bb⟩
  have HB1 := Lib.hid (HB.out.trans (bb.mono HB.out.size))
  have HX1 := Lib.hid ((bb.block _ (Gn.heap_lt HX.out)).trans HX.out)
  clear bb hl
  cases g with
  | false =>
    have HP := Lib.hid (put_bad HGD.out.symm)
    go_wp2
    go_ret
    exact ⟨by rw [HP.out]; rfl, HB1.out⟩
  | true =>
    have HP := Lib.hid (put_good HGD.out.symm)
    have HYC := Lib.hid (HY.out HGD.out.symm)
    have hl := HLR1.out _ HX1.out
    go_wp2_with (first | (refine LexT.wpList_val _ (by rfl) (exec_load _ _ 34 _ _ _ _ rfl rfl hl) ?_) | fail)
    refine (HYC.out _ HB1.out).mono ?_
    rintro e w2 ⟨rfl, bb⟩
    have HB2 := Lib.hid (HB1.out.trans (bb.mono HB1.out.size))
    clear bb hl
    go_wp2_with fail
    refine (Crc.rwrap_any _ _).mono ?_
    rintro e w3 ⟨rfl, bb⟩
    have HB3 := Lib.hid (HB2.out.trans (bb.mono HB2.out.size))
    clear bb
    go_wp2
    go_ret
    exact ⟨by rw [HP.out]; rfl, HB3.out⟩
set_option maxHeartbeats 64000000 in
theorem puts_walk (m : Msg) (r : Int) (v : Value) (w : World) (hv : RawAt w m v) (hs : Short m) (_ : (Lit.int .i64 r).wf = true) (hst : Crc.Steps w) (h0 : 0 < w.heap.size) :
    Calls Tryd.prog 3 #[v, .int .i64 r] w fun e w' => e = .returned (.bool true) ∧ Below w.heap.size w w' := by
  have HST := Lib.hid (fun (w' : World) (b : Below w.heap.size w w') => (⟨hst.of b h0, Nat.lt_of_lt_of_le h0 b.size⟩ : Crc.Steps w' ∧ 0 < w'.heap.size))
  have HLG1 := Lib.hid (fun (w' : World) (b : Below w.heap.size w w') => large_any m v w' (hv.under b) hs)
  have HMD1 := Lib.hid (fun (h1 : m.known.length ≤ 1000) (h2 : m.ents.length ≤ 1000) (w' : World) (b : Below w.heap.size w w') => made_any m v w' (hv.under b) h1 h2)
  clear hst h0 hs
  obtain ⟨ra, rca, rb, rcb, rfl, -, -⟩ := hv
  unfold cellsR at HLG1 HMD1 ⊢
  obtain ⟨V0, hV⟩ : ∃ V, V = w.alloc (.cells #[.int .i64 m.kind, .int .i64 m.frm, .int .i64 m.born, .int .i64 m.view, .int .i64 m.last, .int .i64 m.op, .int .i64 m.commit, .int .i64 m.client, .int .i64 m.number, .int .i64 m.nonce, .int .i64 m.base, .slice ra m.known.length rca, .string m.text, .bool m.full, .string m.state, .slice rb m.ents.length rcb] 26) := ⟨_, rfl⟩
  have hb : Below w.heap.size w V0 := by rw [hV]; exact (Below.refl _ w).alloc (Nat.le_refl _) _
  have hx : V0.heap[w.heap.size]? = some (.cells #[.int .i64 m.kind, .int .i64 m.frm, .int .i64 m.born, .int .i64 m.view, .int .i64 m.last, .int .i64 m.op, .int .i64 m.commit, .int .i64 m.client, .int .i64 m.number, .int .i64 m.nonce, .int .i64 m.base, .slice ra m.known.length rca, .string m.text, .bool m.full, .string m.state, .slice rb m.ents.length rcb] 26 (0, 0)) := by rw [hV]; exact heap_alloc_new w _
  obtain ⟨b1, hb1⟩ : ∃ r, r = w.heap.size := ⟨_, rfl⟩
  rw [← hb1] at hx
  obtain ⟨R1, hR1⟩ : ∃ v, v = Value.agg #[.int .i64 m.kind, .int .i64 m.frm, .int .i64 m.born, .int .i64 m.view, .int .i64 m.last, .int .i64 m.op, .int .i64 m.commit, .int .i64 m.client, .int .i64 m.number, .int .i64 m.nonce, .int .i64 m.base, .slice ra m.known.length rca, .string m.text, .bool m.full, .string m.state, .slice rb m.ents.length rcb] := ⟨_, rfl⟩
  have HLR1 := Lib.hid (fun (w' : World) (h : w'.heap[b1]? = some (.cells #[.int .i64 m.kind, .int .i64 m.frm, .int .i64 m.born, .int .i64 m.view, .int .i64 m.last, .int .i64 m.op, .int .i64 m.commit, .int .i64 m.client, .int .i64 m.number, .int .i64 m.nonce, .int .i64 m.base, .slice ra m.known.length rca, .string m.text, .bool m.full, .string m.state, .slice rb m.ents.length rcb] 26 (0, 0))) => show (loadVar 26 ⟨b1, 0, none⟩).run Tryd.prog w' = .ok R1 w' by
    rw [hR1]; exact run_loadVar_row w' _ _ 26 _ _ _ h Tryd.underlying26 rfl (by kernel_rfl))
  rw [← hR1] at HLG1 HMD1
  have HX0 := Lib.hid hx
  have HB0 := Lib.hid hb
  have HV0 := Lib.hid hV
  have HE1 := Lib.hid hb1
  clear hV hb hx hb1 hR1
  go_enter Tryd.func3, Tryd.ntmps3
  go_upto_region 1 with fail
  rw [← HV0.out, ← HE1.out]
  go_wp2_with fail
  refine (speaks_any _ (HST.out _ HB0.out).1 (HST.out _ HB0.out).2).mono ?_
  rintro e w1 ⟨rfl, b⟩
  have HB1 := Lib.hid (HB0.out.trans (b.mono HB0.out.size))
  have HX1 := Lib.hid ((b.block _ (Gn.heap_lt HX0.out)).trans HX0.out)
  clear b HX0
  have hl := HLR1.out _ HX1.out
  go_wp2_with (first | (refine LexT.wpList_val _ (by rfl) (exec_load _ _ 26 _ _ _ _ rfl rfl hl) ?_) | fail)
  refine (HLG1.out _ HB1.out).mono ?_
  rintro e w2 ⟨q, rfl, hq, b⟩
  have HB2 := Lib.hid (HB1.out.trans (b.mono HB1.out.size))
  have HX2 := Lib.hid ((b.block _ (Gn.heap_lt HX1.out)).trans HX1.out)
  clear b hl
  cases q with
  | true =>
    go_wp2
    go_ret
    exact ⟨rfl, HB2.out⟩
  | false =>
    obtain ⟨hn1, hn2⟩ := hq rfl
    have HN1 := Lib.hid (show m.known.length ≤ 1000 by omega)
    have HN2 := Lib.hid (show m.ents.length ≤ 1000 by omega)
    clear hn1 hn2 hq
    have hl := HLR1.out _ HX2.out
    go_wp2_with (first | (refine LexT.wpList_val _ (by rfl) (exec_load _ _ 26 _ _ _ _ rfl rfl hl) ?_) | fail)
    refine (HMD1.out HN1.out HN2.out _ HB2.out).mono ?_
    rintro e w4 ⟨pv, pu, rfl, hpv, hpu, b⟩
    have HB4 := Lib.hid (HB2.out.trans (b.mono HB2.out.size))
    have HPV := Lib.hid hpv
    have HPU := Lib.hid hpu
    clear b hl
    obtain ⟨a1, k1, c1, l1, rfl, -, -⟩ := hpv
    obtain ⟨a2, k2, c2, l2, rfl, -, -⟩ := hpu
    unfold cellsM at HPV HPU ⊢
    obtain ⟨V1, hV⟩ : ∃ V, V = (w4.alloc (.cells #[.int .i64 m.kind, .int .i64 m.frm, .int .i64 m.born, .slice a1 m.known.length k1, .int .i64 m.view, .int .i64 m.last, .int .i64 m.op, .int .i64 m.commit, .int .i64 m.client, .int .i64 m.number, .int .i64 m.nonce, .string m.text, .bool m.full, .int .i64 m.base, .string m.state, .slice c1 m.ents.length l1] 31)).alloc (.cells #[.int .i64 m.kind, .int .i64 m.frm, .int .i64 m.born, .slice a2 m.known.length k2, .int .i64 m.view, .int .i64 m.last, .int .i64 m.op, .int .i64 m.commit, .int .i64 m.client, .int .i64 m.number, .int .i64 m.nonce, .string m.text, .bool m.full, .int .i64 m.base, .string m.state, .slice c2 m.ents.length l2] 34) := ⟨_, rfl⟩
    have hb : Below w4.heap.size w4 V1 := by rw [hV]; exact ((Below.refl _ w4).alloc (Nat.le_refl _) _).alloc (by simp) _
    have hx : V1.heap[w4.heap.size]? = some (.cells #[.int .i64 m.kind, .int .i64 m.frm, .int .i64 m.born, .slice a1 m.known.length k1, .int .i64 m.view, .int .i64 m.last, .int .i64 m.op, .int .i64 m.commit, .int .i64 m.client, .int .i64 m.number, .int .i64 m.nonce, .string m.text, .bool m.full, .int .i64 m.base, .string m.state, .slice c1 m.ents.length l1] 31 (0, 0)) := by rw [hV]; exact (heap_alloc_old _ _ (by simp)).trans (heap_alloc_new w4 _)
    have hy : V1.heap[w4.heap.size + 1]? = some (.cells #[.int .i64 m.kind, .int .i64 m.frm, .int .i64 m.born, .slice a2 m.known.length k2, .int .i64 m.view, .int .i64 m.last, .int .i64 m.op, .int .i64 m.commit, .int .i64 m.client, .int .i64 m.number, .int .i64 m.nonce, .string m.text, .bool m.full, .int .i64 m.base, .string m.state, .slice c2 m.ents.length l2] 34 (0, 0)) := by
      rw [hV]; have := heap_alloc_new (w4.alloc (.cells #[.int .i64 m.kind, .int .i64 m.frm, .int .i64 m.born, .slice a1 m.known.length k1, .int .i64 m.view, .int .i64 m.last, .int .i64 m.op, .int .i64 m.commit, .int .i64 m.client, .int .i64 m.number, .int .i64 m.nonce, .string m.text, .bool m.full, .int .i64 m.base, .string m.state, .slice c1 m.ents.length l1] 31)) (.cells #[.int .i64 m.kind, .int .i64 m.frm, .int .i64 m.born, .slice a2 m.known.length k2, .int .i64 m.view, .int .i64 m.last, .int .i64 m.op, .int .i64 m.commit, .int .i64 m.client, .int .i64 m.number, .int .i64 m.nonce, .string m.text, .bool m.full, .int .i64 m.base, .string m.state, .slice c2 m.ents.length l2] 34); simpa using this
    obtain ⟨p2, hq⟩ : ∃ r, r = w4.heap.size + 1 := ⟨_, rfl⟩
    rw [← hq] at hy
    obtain ⟨p1, hp⟩ : ∃ r, r = w4.heap.size := ⟨_, rfl⟩
    rw [← hp] at hx
    have HV1 := Lib.hid hV
    have HW1 := Lib.hid hb
    have HCp1 := Lib.hid hx
    have HCp2 := Lib.hid hy
    have HEp1 := Lib.hid hp
    have HEp2 := Lib.hid hq
    clear hV hb hx hy hp hq
    have HPV1 := Lib.hid (HPV.out.under HW1.out)
    have HPU1 := Lib.hid (HPU.out.under HW1.out)
    have HB5 := Lib.hid (HB4.out.trans (HW1.out.mono HB4.out.size))
    clear HPV HPU HX1 HX2
    go_upto_region 6 with fail
    rw [← HV1.out, ← HEp2.out, ← HEp1.out]
    clear HV1 HEp1 HEp2 HW1
    obtain ⟨P1, hP1⟩ : ∃ v, v = Value.agg #[.int .i64 m.kind, .int .i64 m.frm, .int .i64 m.born, .slice a1 m.known.length k1, .int .i64 m.view, .int .i64 m.last, .int .i64 m.op, .int .i64 m.commit, .int .i64 m.client, .int .i64 m.number, .int .i64 m.nonce, .string m.text, .bool m.full, .int .i64 m.base, .string m.state, .slice c1 m.ents.length l1] := ⟨_, rfl⟩
    have HLP1 := Lib.hid (fun (w' : World) (h : w'.heap[p1]? = some (.cells #[.int .i64 m.kind, .int .i64 m.frm, .int .i64 m.born, .slice a1 m.known.length k1, .int .i64 m.view, .int .i64 m.last, .int .i64 m.op, .int .i64 m.commit, .int .i64 m.client, .int .i64 m.number, .int .i64 m.nonce, .string m.text, .bool m.full, .int .i64 m.base, .string m.state, .slice c1 m.ents.length l1] 31 (0, 0))) => show (loadVar 31 ⟨p1, 0, none⟩).run Tryd.prog w' = .ok P1 w' by
      rw [hP1]; exact run_loadVar_row w' _ _ 31 _ _ _ h Tryd.underlying31 rfl (by kernel_rfl))
    obtain ⟨P2, hP2⟩ : ∃ v, v = Value.agg #[.int .i64 m.kind, .int .i64 m.frm, .int .i64 m.born, .slice a2 m.known.length k2, .int .i64 m.view, .int .i64 m.last, .int .i64 m.op, .int .i64 m.commit, .int .i64 m.client, .int .i64 m.number, .int .i64 m.nonce, .string m.text, .bool m.full, .int .i64 m.base, .string m.state, .slice c2 m.ents.length l2] := ⟨_, rfl⟩
    have HLP2 := Lib.hid (fun (w' : World) (h : w'.heap[p2]? = some (.cells #[.int .i64 m.kind, .int .i64 m.frm, .int .i64 m.born, .slice a2 m.known.length k2, .int .i64 m.view, .int .i64 m.last, .int .i64 m.op, .int .i64 m.commit, .int .i64 m.client, .int .i64 m.number, .int .i64 m.nonce, .string m.text, .bool m.full, .int .i64 m.base, .string m.state, .slice c2 m.ents.length l2] 34 (0, 0))) => show (loadVar 34 ⟨p2, 0, none⟩).run Tryd.prog w' = .ok P2 w' by
      rw [hP2]; exact run_loadVar_row w' _ _ 34 _ _ _ h Tryd.underlying34 rfl (by kernel_rfl))
    rw [← hP1] at HPV1
    rw [← hP2] at HPU1
    clear hP1 hP2 HLR1 HLG1 HMD1 HB0 HB1 HB2 HB4
    have HZ := Lib.hid (fun (w' : World) (b : Below V1.heap.size V1 w') => (⟨HPV1.out.under b, HPU1.out.under b, HB5.out.trans (b.mono HB5.out.size), HLP1.out w' ((b.block _ (Gn.heap_lt HCp1.out)).trans HCp1.out), HLP2.out w' ((b.block _ (Gn.heap_lt HCp2.out)).trans HCp2.out)⟩ : MsgAt w' m P1 ∧ MsgAt w' m P2 ∧ Below w.heap.size w w' ∧ (loadVar 31 ⟨p1, 0, none⟩).run Tryd.prog w' = .ok P1 w' ∧ (loadVar 34 ⟨p2, 0, none⟩).run Tryd.prog w' = .ok P2 w'))
    clear HPV1 HPU1 HLP1 HLP2 HCp1 HCp2
    obtain ⟨g, hg⟩ : ∃ g, g = goodM m r := ⟨_, rfl⟩
    obtain ⟨f, hf⟩ : ∃ f, f = putM m r := ⟨_, rfl⟩
    have HDG := Lib.hid (fun (w' : World) (b : Below V1.heap.size V1 w') => show Calls Tryd.prog 9 #[P2, .int .i64 r] w' (Says g w') by rw [hg]; exact docgood_at m r P2 w' (HZ.out _ b).2.1 HN1.out HN2.out)
    have HPT := Lib.hid (fun (w' : World) (b : Below V1.heap.size V1 w') => show Calls Tryd.prog 10 #[P1, .int .i64 r] w' (fun e w2 => e = .returned (.string f) ∧ Below w'.heap.size w' w2) by
      have hbw := (HZ.out _ b).2.2.1
      rw [hf]; exact put_at m r P1 w' (HZ.out _ b).1 HN1.out HN2.out (HST.out _ hbw).1 (HST.out _ hbw).2)
    have HGD := Lib.hid (fun (w' : World) (b : Below V1.heap.size V1 w') => show Calls Tryd.prog 11 #[P1, .int .i64 r] w' (Says g w') by rw [hg]; exact good_at m r P1 w' (HZ.out _ b).1 HN1.out HN2.out)
    have HDP := Lib.hid (fun (w' : World) (b : Below V1.heap.size V1 w') => show Calls Tryd.prog 12 #[P2, .int .i64 r] w' (fun e w2 => e = .returned (.string f) ∧ Below w'.heap.size w' w2) by rw [hf]; exact docput_at m r P2 w' (HZ.out _ b).2.1 HN1.out HN2.out)
    have HGM := Lib.hid hg
    have HFM := Lib.hid hf
    clear hg hf
    have hl := (HZ.out _ (Below.refl _ _)).2.2.2.2
    go_wp2_with (first | (refine LexT.wpList_val _ (by rfl) (exec_load _ _ 34 _ _ _ _ rfl rfl hl) ?_) | fail)
    refine (HDG.out _ (Below.refl _ _)).mono ?_
    rintro e w5 ⟨rfl, b⟩
    have HW5 := Lib.hid b
    clear b hl
    have hl := (HZ.out _ HW5.out).2.2.2.1
    go_wp2_with (first | (refine LexT.wpList_val _ (by rfl) (exec_load _ _ 31 _ _ _ _ rfl rfl hl) ?_) | fail)
    refine (HPT.out _ HW5.out).mono ?_
    rintro e w6 ⟨rfl, b⟩
    have HW6 := Lib.hid (HW5.out.trans (b.mono HW5.out.size))
    clear b hl
    have hl := (HZ.out _ HW6.out).2.2.2.1
    go_wp2_with (first | (refine LexT.wpList_val _ (by rfl) (exec_load _ _ 31 _ _ _ _ rfl rfl hl) ?_) | fail)
    refine (HGD.out _ HW6.out).mono ?_
    rintro e w7 ⟨rfl, b⟩
    have HW7 := Lib.hid (HW6.out.trans (b.mono HW6.out.size))
    clear b hl
    have hgg : (g != g) = false := by cases g <;> rfl
    have hff : (f.toList != f.toList) = false := by unfold bne; rw [beq_self_eq_true]; rfl
    have hl := (HZ.out _ HW7.out).2.2.2.2
    go_wp2_with (first | (refine LexT.wpList_val _ (by rfl) (exec_load _ _ 34 _ _ _ _ rfl rfl hl) ?_) | fail)
    refine (HDP.out _ HW7.out).mono ?_
    rintro e w8 ⟨rfl, b⟩
    have HW8 := Lib.hid (HW7.out.trans (b.mono HW7.out.size))
    clear b hl HDG HPT HGD HDP HW5 HW6 HW7
    have HBW := Lib.hid (HZ.out _ HW8.out).2.2.1
    cases g with
    | false =>
      have hs1 : f.toList = [] := by rw [HFM.out, put_bad HGM.out.symm, ByteArray.toList_eq]
      have hs2 : f.toList.isEmpty = true := by rw [hs1]; rfl
      go_wp2
      go_ret
      exact ⟨rfl, HBW.out⟩
    | true =>
      have HGT := Lib.hid (show Calls Tryd.prog 13 #[.string f, .int .i64 r] w8 (Ms.Told m w8) by
        rw [HFM.out, put_good HGM.out.symm]
        exact get_good m r HGM.out.symm w8 (HST.out _ HBW.out).1 (HST.out _ HBW.out).2)
      go_wp2_with fail
      refine HGT.out.mono ?_
      rintro e w9 ⟨A7, c7, B7, d7, rfl, ho1, ho2, b9⟩
      have HW9 := Lib.hid (HW8.out.trans (b9.mono HW8.out.size))
      have HM9 := Lib.hid (show MsgAt w9 m (.agg (cellsM m A7 c7 B7 d7)) from ⟨A7, c7, B7, d7, rfl, ints_own ho1 rfl, ents_own ho2 rfl⟩)
      clear b9 ho1 ho2 hgg hff HGT
      unfold cellsM at HM9 ⊢
      obtain ⟨V2, hV2⟩ : ∃ V, V = w9.alloc (.cells #[.int .i64 m.kind, .int .i64 m.frm, .int .i64 m.born, .slice A7 m.known.length c7, .int .i64 m.view, .int .i64 m.last, .int .i64 m.op, .int .i64 m.commit, .int .i64 m.client, .int .i64 m.number, .int .i64 m.nonce, .string m.text, .bool m.full, .int .i64 m.base, .string m.state, .slice B7 m.ents.length d7] 31) := ⟨_, rfl⟩
      have hb2 : Below w9.heap.size w9 V2 := by rw [hV2]; exact (Below.refl _ _).alloc (Nat.le_refl _) _
      have hx2 : V2.heap[w9.heap.size]? = some (.cells #[.int .i64 m.kind, .int .i64 m.frm, .int .i64 m.born, .slice A7 m.known.length c7, .int .i64 m.view, .int .i64 m.last, .int .i64 m.op, .int .i64 m.commit, .int .i64 m.client, .int .i64 m.number, .int .i64 m.nonce, .string m.text, .bool m.full, .int .i64 m.base, .string m.state, .slice B7 m.ents.length d7] 31 (0, 0)) := by rw [hV2]; exact heap_alloc_new _ _
      obtain ⟨p9, hp9⟩ : ∃ q, q = w9.heap.size := ⟨_, rfl⟩
      rw [← hp9] at hx2
      obtain ⟨P9, hP9⟩ : ∃ v, v = Value.agg #[.int .i64 m.kind, .int .i64 m.frm, .int .i64 m.born, .slice A7 m.known.length c7, .int .i64 m.view, .int .i64 m.last, .int .i64 m.op, .int .i64 m.commit, .int .i64 m.client, .int .i64 m.number, .int .i64 m.nonce, .string m.text, .bool m.full, .int .i64 m.base, .string m.state, .slice B7 m.ents.length d7] := ⟨_, rfl⟩
      have HLP9 := Lib.hid (fun (w' : World) (h : w'.heap[p9]? = some (.cells #[.int .i64 m.kind, .int .i64 m.frm, .int .i64 m.born, .slice A7 m.known.length c7, .int .i64 m.view, .int .i64 m.last, .int .i64 m.op, .int .i64 m.commit, .int .i64 m.client, .int .i64 m.number, .int .i64 m.nonce, .string m.text, .bool m.full, .int .i64 m.base, .string m.state, .slice B7 m.ents.length d7] 31 (0, 0))) => show (loadVar 31 ⟨p9, 0, none⟩).run Tryd.prog w' = .ok P9 w' by
        rw [hP9]; exact run_loadVar_row w' _ _ 31 _ _ _ h Tryd.underlying31 rfl (by kernel_rfl))
      have HMV := Lib.hid (show MsgAt V2 m P9 by rw [hP9]; exact HM9.out.under hb2)
      have HWV := Lib.hid (HW9.out.trans (hb2.mono HW9.out.size))
      have HX2 := Lib.hid hx2
      have HV2 := Lib.hid hV2
      have HP9 := Lib.hid hp9
      clear hb2 hx2 hV2 hp9 hP9 HM9
      go_upto_region 13 with fail
      rw [← HV2.out, ← HP9.out]
      clear HV2
      have HL9 := Lib.hid (fun (w' : World) (b : Below V2.heap.size V2 w') => HLP9.out w' ((b.block _ (Gn.heap_lt HX2.out)).trans HX2.out))
      have HL2 := Lib.hid (fun (w' : World) (b : Below V2.heap.size V2 w') => (HZ.out _ (HWV.out.trans (b.mono HWV.out.size))).2.2.2.2)
      have HTO := Lib.hid (fun (w' : World) (b : Below V2.heap.size V2 w') => told_any m P9 w' (HMV.out.under b) HN2.out)
      have HSA := Lib.hid (fun (w' : World) (b : Below V2.heap.size V2 w') (v : Value) (h : MsgAt w' m v) => show Calls Tryd.prog 14 #[v, P2] w' (fun e w2 => e = .returned (.bool true) ∧ Below w'.heap.size w' w2) by
        have h2 := same_at m m v P2 w' h (HZ.out _ (HWV.out.trans (b.mono HWV.out.size))).2.1 HN1.out HN2.out
        rw [(sameB_iff m m).2 rfl] at h2
        exact h2)
      refine LooseD.region_loose (fun w9 => Below V2.heap.size V2 w9) _ _ (by kernel_rfl) (by kernel_rfl)
        (LooseD.waits (D := [[], [], [], [], [], [], [4], [], []]) (by kernel_rfl))
        (LooseD.stays (ts := [none, none, none, none, some (.told (fun v w => MsgAt w m v)), none, some (.is (.bool true)), none, none]) (fun w w' h b => h.trans (b.mono h.size)) (.none (.none (.none (.none (.told (fun v w w2 h b => MsgAt.under h b) (.none (.is (.none (.none .nil))))))))))
        (Gn.below_drew (Below.refl _ _)) ?_
      refine LooseD.reads (.int .i64 0) rfl rfl (fun _ _ => by rfl) ?_
      try simp only [Act.put, List.setIfInBounds_toArray, List.set_cons_zero, List.set_cons_succ]
      refine LooseD.reads (.bool true) rfl rfl ?_ ?_
      · intro w9 hw
        clear hw
        go_simp
      try simp only [Act.put, List.setIfInBounds_toArray, List.set_cons_zero, List.set_cons_succ]
      refine LooseD.reads (.bool true) rfl rfl (fun _ _ => by rfl) ?_
      try simp only [Act.put, List.setIfInBounds_toArray, List.set_cons_zero, List.set_cons_succ]
      refine LooseD.reads P9 rfl rfl ?_ ?_
      · intro w9 hw
        exact exec_load _ _ 31 _ _ P9 _ rfl rfl (HL9.out _ hw)
      try simp only [Act.put, List.setIfInBounds_toArray, List.set_cons_zero, List.set_cons_succ]
      refine LooseD.calls (fun v w => MsgAt w m v) 15 #[P9] rfl rfl ?_ (fun w9 hw hH => (HTO.out w9 hw).mono fun e w2 ⟨u, h1, h2, h3⟩ => ⟨u, h1, h3, h2⟩) ?_
      · intro w9 hw
        clear hw
        go_simp
      intro nv
      try simp only [Act.put, List.setIfInBounds_toArray, List.set_cons_zero, List.set_cons_succ]
      refine LooseD.reads P2 rfl rfl ?_ ?_
      · intro w9 hw
        exact exec_load _ _ 34 _ _ P2 _ rfl rfl (HL2.out _ hw)
      try simp only [Act.put, List.setIfInBounds_toArray, List.set_cons_zero, List.set_cons_succ]
      refine LooseD.gives (.bool true) 14 #[nv, P2] rfl rfl ?_ (fun w9 hw hH => HSA.out w9 hw nv (hH 4 (by decide) nv _ rfl (by rfl))) ?_
      · intro w9 hw
        clear hw
        go_simp
      try simp only [Act.put, List.setIfInBounds_toArray, List.set_cons_zero, List.set_cons_succ]
      refine LooseD.reads (.bool true) rfl rfl ?_ ?_
      · intro w9 hw
        clear hw
        go_simp
      try simp only [Act.put, List.setIfInBounds_toArray, List.set_cons_zero, List.set_cons_succ]
      refine LooseD.reads (.bool true) rfl rfl ?_ ?_
      · intro w9 hw
        clear hw
        go_simp
      try simp only [Act.put, List.setIfInBounds_toArray, List.set_cons_zero, List.set_cons_succ]
      refine LooseD.done ?_
      intro w10 hw10 _
      go_wp2_with fail
      refine bodyPost_ret (results_tmp rfl _ _ _) rfl ?_
      exact ⟨rfl, (HZ.out _ (HWV.out.trans (hw10.mono HWV.out.size))).2.2.1⟩
end Go.Proofs.YtfeelmblnkpfdaaDoor.Mp
