/-
  Layer 23: the walk of MessageSpoilt.
-/
import Derived.Test.YtfeelmblnkpfdaaDoorMsMd
import Derived.Test.YtfeelmblnkpfdaaDoorMsSk
import Derived.Test.YtfeelmblnkpfdaaDoorMsGb
import Derived.Test.YtfeelmblnkpfdaaDoorMFrSp
import Derived.Test.YtfeelmblnkpfdaaDoorLexT
namespace Go.Proofs.YtfeelmblnkpfdaaDoor.Sp
open Go.RowKit Ms
open Oct (bs)
set_option maxRecDepth 100000
set_option linter.unusedSimpArgs false
set_option linter.unusedVariables false
theorem good_at (m : Msg) (v : Value) (w : World) (h : MsgAt w m v) (h1 : m.known.length ≤ 1000) (h2 : m.ents.length ≤ 1000) : Calls Tryd.prog 11 #[v, .int .i64 3] w (Says (goodM m 3) w) := by
  obtain ⟨a, cap, b, cap2, rfl, hi, he⟩ := h
  exact good_any m.kind m.frm m.born m.known m.view m.last m.op m.commit m.client m.number m.nonce m.text m.full m.base m.state m.ents a m.known.length cap b m.ents.length cap2 3 w rfl rfl hi he (by omega) (by omega)
theorem put_at (m : Msg) (v : Value) (w : World) (h : MsgAt w m v) (h1 : m.known.length ≤ 1000) (h2 : m.ents.length ≤ 1000) (hst : Crc.Steps w) (h0 : 0 < w.heap.size) : Calls Tryd.prog 10 #[v, .int .i64 3] w (fun e w' => e = .returned (.string (putM m 3)) ∧ Below w.heap.size w w') := by
  obtain ⟨a, cap, b, cap2, rfl, hi, he⟩ := h
  exact put_any m.kind m.frm m.born m.known m.view m.last m.op m.commit m.client m.number m.nonce m.text m.full m.base m.state m.ents a m.known.length cap b m.ents.length cap2 3 w hst h0 rfl rfl hi he h1 h2
/-- The byte of a number that turns the k-th. -/
def turns (v : Nat) (k : Nat) : UInt8 := UInt8.ofNat (v / 256 ^ k)
theorem turns_eq (v k : Nat) : (v : Int) / 2 ^ (8 * k) % 256 = ((turns v k).toNat : Int) := by
  have h := Oct.u8v_ofNat v (v : Int) k rfl
  unfold Oct.u8v at h
  injection h

/-- The row of the bytes, whatever their capacity. -/
theorem bytesRow_eq (s : ByteArray) (cap : Nat) : bytesRow s cap = ((Oct.bs s).map Oct.u8v ++ List.replicate (cap - s.size) (Value.int .u8 0)).toArray := by
  unfold bytesRow
  apply Array.ext'
  simp [Oct.bs]
  exact fun _ _ => rfl

theorem row_sp (l : List UInt8) (A : Nat) (x : Nat → UInt8) (k : Nat) (rest : List Value) (h : A + k < l.length) (c xk : UInt8) (hc : c = l.getD (A + k) 0) (hx : xk = x k) :
    ((Crc.sp l A x k).map Oct.u8v ++ rest).set (A + k) (Value.int .u8 ((c.toNat ^^^ xk.toNat : Nat) : Int)) = (Crc.sp l A x (k + 1)).map Oct.u8v ++ rest := by
  rw [List.set_append_left _ _ (by rw [List.length_map, Crc.sp_len]; exact h), Crc.sp, List.map_set, ← hc, ← hx]
  congr 2

set_option maxHeartbeats 64000000 in
theorem spoilt_walk (m : Msg) (at0 : Int) (by0 : Nat) (v : Value) (w : World) (hv : RawAt w m v) (hs : Short m) (hst : Crc.Steps w) (h0 : 0 < w.heap.size) :
    Calls Tryd.prog 4 #[v, .int .i64 at0, .int .u32 by0] w fun e w' => e = .returned (.bool true) ∧ Below w.heap.size w w' := by
  have HST := Lib.hid (fun (w' : World) (b : Below w.heap.size w w') => (⟨hst.of b h0, Nat.lt_of_lt_of_le h0 b.size⟩ : Crc.Steps w' ∧ 0 < w'.heap.size))
  have HLG1 := Lib.hid (fun (w' : World) (b : Below w.heap.size w w') => large_any m v w' (hv.under b) hs)
  have HMD1 := Lib.hid (fun (h1 : m.known.length ≤ 1000) (h2 : m.ents.length ≤ 1000) (w' : World) (b : Below w.heap.size w w') => made_any m v w' (hv.under b) h1 h2)
  have HH0 := Lib.hid h0
  clear hst h0 hs
  obtain ⟨ra, rca, rb, rcb, rfl, -, -⟩ := hv
  unfold cellsR at HLG1 HMD1 ⊢
  obtain ⟨V0, hV⟩ : ∃ V, V = w.alloc (.cells #[.int .i64 m.kind, .int .i64 m.frm, .int .i64 m.born, .int .i64 m.view, .int .i64 m.last, .int .i64 m.op, .int .i64 m.commit, .int .i64 m.client, .int .i64 m.number, .int .i64 m.nonce, .int .i64 m.base, .slice ra m.known.length rca, .string m.text, .bool m.full, .string m.state, .slice rb m.ents.length rcb] 26) := ⟨_, rfl⟩
  have hb : Below w.heap.size w V0 := by rw [hV]; exact (Below.refl _ w).alloc (Nat.le_refl _) _
  have hx : V0.heap[w.heap.size]? = some (.cells #[.int .i64 m.kind, .int .i64 m.frm, .int .i64 m.born, .int .i64 m.view, .int .i64 m.last, .int .i64 m.op, .int .i64 m.commit, .int .i64 m.client, .int .i64 m.number, .int .i64 m.nonce, .int .i64 m.base, .slice ra m.known.length rca, .string m.text, .bool m.full, .string m.state, .slice rb m.ents.length rcb] 26 (0, 0)) := by rw [hV]; exact heap_alloc_new w _
  obtain ⟨b1, hb1⟩ : ∃ r, r = w.heap.size := ⟨_, rfl⟩
  rw [← hb1] at hx
  obtain ⟨R1, hR1⟩ : ∃ v, v = Value.agg #[.int .i64 m.kind, .int .i64 m.frm, .int .i64 m.born, .int .i64 m.view, .int .i64 m.last, .int .i64 m.op, .int .i64 m.commit, .int .i64 m.client, .int .i64 m.number, .int .i64 m.nonce, .int .i64 m.base, .slice ra m.known.length rca, .string m.text, .bool m.full, .string m.state, .slice rb m.ents.length rcb] := ⟨_, rfl⟩
  have HLR1 := Lib.hid (fun (w' : World) (h : w'.heap[b1]? = some (.cells #[.int .i64 m.kind, .int .i64 m.frm, .int .i64 m.born, .int .i64 m.view, .int .i64 m.last, .int .i64 m.op, .int .i64 m.commit, .int .i64 m.client, .int .i64 m.number, .int .i64 m.nonce, .int .i64 m.base, .slice ra m.known.length rca, .string m.text, .bool m.full, .string m.state, .slice rb m.ents.length rcb] 26 (0, 0))) => show (loadVar 26 ⟨b1, 0, none⟩).run Tryd.prog w' = .ok R1 w' by
    rw [hR1]; exact run_loadVar_row w' _ _ 26 _ _ _ h Tryd.underlying26 rfl (by kernel_rfl))
  rw [← hR1] at HLG1 HMD1
  have HX0 := Lib.hid hx
  have HB0 := Lib.hid hb
  have HV0 := Lib.hid hV
  have HE1 := Lib.hid hb1
  clear hV hb hx hb1 hR1
  go_enter Tryd.func4, Tryd.ntmps4
  go_upto_region 1 with fail
  rw [← HV0.out, ← HE1.out]
  go_wp2_with fail
  refine (speaks_any _ (HST.out _ HB0.out).1 (HST.out _ HB0.out).2).mono ?_
  rintro e w1 ⟨rfl, b⟩
  have HB1 := Lib.hid (HB0.out.trans (b.mono HB0.out.size))
  have HX1 := Lib.hid ((b.block _ (Gn.heap_lt HX0.out)).trans HX0.out)
  clear b HX0
  have hl := HLR1.out _ HX1.out
  go_wp2_with (first | (refine LexT.wpList_val _ (by rfl) (exec_load _ _ 26 _ _ _ _ rfl rfl hl) ?_) | fail)
  refine (HLG1.out _ HB1.out).mono ?_
  rintro e w2 ⟨q, rfl, hq, b⟩
  have HB2 := Lib.hid (HB1.out.trans (b.mono HB1.out.size))
  have HX2 := Lib.hid ((b.block _ (Gn.heap_lt HX1.out)).trans HX1.out)
  clear b hl
  cases q with
  | true =>
    go_wp2
    go_ret
    exact ⟨rfl, HB2.out⟩
  | false =>
    obtain ⟨hn1, hn2⟩ := hq rfl
    have HN1 := Lib.hid (show m.known.length ≤ 1000 by omega)
    have HN2 := Lib.hid (show m.ents.length ≤ 1000 by omega)
    clear hn1 hn2 hq
    have hl := HLR1.out _ HX2.out
    go_wp2_with (first | (refine LexT.wpList_val _ (by rfl) (exec_load _ _ 26 _ _ _ _ rfl rfl hl) ?_) | fail)
    refine (HMD1.out HN1.out HN2.out _ HB2.out).mono ?_
    rintro e w4 ⟨pv, pu, rfl, hpv, hpu, b⟩
    have HB4 := Lib.hid (HB2.out.trans (b.mono HB2.out.size))
    have HPV := Lib.hid hpv
    clear b hl
    obtain ⟨a1, k1, c1, l1, rfl, -, -⟩ := hpv
    obtain ⟨a2, k2, c2, l2, rfl, -, -⟩ := hpu
    unfold cellsM at HPV ⊢
    obtain ⟨V1, hV⟩ : ∃ V, V = (w4.alloc (.cells #[.int .i64 m.kind, .int .i64 m.frm, .int .i64 m.born, .slice a1 m.known.length k1, .int .i64 m.view, .int .i64 m.last, .int .i64 m.op, .int .i64 m.commit, .int .i64 m.client, .int .i64 m.number, .int .i64 m.nonce, .string m.text, .bool m.full, .int .i64 m.base, .string m.state, .slice c1 m.ents.length l1] 31)).alloc (.cells #[.int .i64 m.kind, .int .i64 m.frm, .int .i64 m.born, .slice a2 m.known.length k2, .int .i64 m.view, .int .i64 m.last, .int .i64 m.op, .int .i64 m.commit, .int .i64 m.client, .int .i64 m.number, .int .i64 m.nonce, .string m.text, .bool m.full, .int .i64 m.base, .string m.state, .slice c2 m.ents.length l2] 34) := ⟨_, rfl⟩
    have hb : Below w4.heap.size w4 V1 := by rw [hV]; exact ((Below.refl _ w4).alloc (Nat.le_refl _) _).alloc (by simp) _
    have hx : V1.heap[w4.heap.size]? = some (.cells #[.int .i64 m.kind, .int .i64 m.frm, .int .i64 m.born, .slice a1 m.known.length k1, .int .i64 m.view, .int .i64 m.last, .int .i64 m.op, .int .i64 m.commit, .int .i64 m.client, .int .i64 m.number, .int .i64 m.nonce, .string m.text, .bool m.full, .int .i64 m.base, .string m.state, .slice c1 m.ents.length l1] 31 (0, 0)) := by rw [hV]; exact (heap_alloc_old _ _ (by simp)).trans (heap_alloc_new w4 _)
    have hy : V1.heap[w4.heap.size + 1]? = some (.cells #[.int .i64 m.kind, .int .i64 m.frm, .int .i64 m.born, .slice a2 m.known.length k2, .int .i64 m.view, .int .i64 m.last, .int .i64 m.op, .int .i64 m.commit, .int .i64 m.client, .int .i64 m.number, .int .i64 m.nonce, .string m.text, .bool m.full, .int .i64 m.base, .string m.state, .slice c2 m.ents.length l2] 34 (0, 0)) := by
      rw [hV]; have := heap_alloc_new (w4.alloc (.cells #[.int .i64 m.kind, .int .i64 m.frm, .int .i64 m.born, .slice a1 m.known.length k1, .int .i64 m.view, .int .i64 m.last, .int .i64 m.op, .int .i64 m.commit, .int .i64 m.client, .int .i64 m.number, .int .i64 m.nonce, .string m.text, .bool m.full, .int .i64 m.base, .string m.state, .slice c1 m.ents.length l1] 31)) (.cells #[.int .i64 m.kind, .int .i64 m.frm, .int .i64 m.born, .slice a2 m.known.length k2, .int .i64 m.view, .int .i64 m.last, .int .i64 m.op, .int .i64 m.commit, .int .i64 m.client, .int .i64 m.number, .int .i64 m.nonce, .string m.text, .bool m.full, .int .i64 m.base, .string m.state, .slice c2 m.ents.length l2] 34); simpa using this
    obtain ⟨p2, hq⟩ : ∃ r, r = w4.heap.size + 1 := ⟨_, rfl⟩
    rw [← hq] at hy
    obtain ⟨p1, hp⟩ : ∃ r, r = w4.heap.size := ⟨_, rfl⟩
    rw [← hp] at hx
    have HV1 := Lib.hid hV
    have HW1 := Lib.hid hb
    have HCp1 := Lib.hid hx
    have HCp2 := Lib.hid hy
    have HEp1 := Lib.hid hp
    have HEp2 := Lib.hid hq
    clear hV hb hx hy hp hq
    have HPV1 := Lib.hid (HPV.out.under HW1.out)
    have HB5 := Lib.hid (HB4.out.trans (HW1.out.mono HB4.out.size))
    clear HPV HX1 HX2
    go_upto_region 6 with fail
    rw [← HV1.out, ← HEp2.out, ← HEp1.out]
    clear HV1 HEp1 HEp2 HCp2 HW1
    obtain ⟨P1, hP1⟩ : ∃ v, v = Value.agg #[.int .i64 m.kind, .int .i64 m.frm, .int .i64 m.born, .slice a1 m.known.length k1, .int .i64 m.view, .int .i64 m.last, .int .i64 m.op, .int .i64 m.commit, .int .i64 m.client, .int .i64 m.number, .int .i64 m.nonce, .string m.text, .bool m.full, .int .i64 m.base, .string m.state, .slice c1 m.ents.length l1] := ⟨_, rfl⟩
    have HLP1 := Lib.hid (fun (w' : World) (h : w'.heap[p1]? = some (.cells #[.int .i64 m.kind, .int .i64 m.frm, .int .i64 m.born, .slice a1 m.known.length k1, .int .i64 m.view, .int .i64 m.last, .int .i64 m.op, .int .i64 m.commit, .int .i64 m.client, .int .i64 m.number, .int .i64 m.nonce, .string m.text, .bool m.full, .int .i64 m.base, .string m.state, .slice c1 m.ents.length l1] 31 (0, 0))) => show (loadVar 31 ⟨p1, 0, none⟩).run Tryd.prog w' = .ok P1 w' by
      rw [hP1]; exact run_loadVar_row w' _ _ 31 _ _ _ h Tryd.underlying31 rfl (by kernel_rfl))
    rw [← hP1] at HPV1
    clear hP1
    obtain ⟨f, hf⟩ : ∃ f, f = putM m 3 := ⟨_, rfl⟩
    have HPA := Lib.hid (show Calls Tryd.prog 10 #[P1, .int .i64 3] V1 (fun e w2 => e = .returned (.string f) ∧ Below V1.heap.size V1 w2) by
      rw [hf]; exact put_at m P1 V1 HPV1.out HN1.out HN2.out (HST.out _ HB5.out).1 (HST.out _ HB5.out).2)
    have hl := HLP1.out _ HCp1.out
    have HF := Lib.hid hf
    clear hf
    go_wp2_with (first | (refine LexT.wpList_val _ (by rfl) (exec_load _ _ 31 _ _ _ _ rfl rfl hl) ?_) | fail)
    refine HPA.out.mono ?_
    rintro e w2 ⟨rfl, b⟩
    have HB6 := Lib.hid (HB5.out.trans (b.mono HB5.out.size))
    clear b hl HPA HCp1 HLP1 HLR1 HLG1 HMD1 HPV1 HB0 HB1 HB2 HB4 HB5
    obtain ⟨g1, hg1⟩ : ∃ g, g = goodM m 3 := ⟨_, rfl⟩
    cases g1 with
    | false =>
      have hs1 : f.toList = [] := by rw [HF.out, put_bad hg1.symm, ByteArray.toList_eq]
      have hs2 : f.toList.isEmpty = true := by rw [hs1]; rfl
      clear hg1
      go_wp2
      go_ret
      exact ⟨rfl, HB6.out⟩
    | true =>
      have hgd := hg1.symm
      have hbl : (bodyM m).length ≤ 1048576 := body_len (good_of hgd)
      obtain ⟨bd, hbd⟩ : ∃ l, l = bodyM m := ⟨_, rfl⟩
      rw [← hbd] at hbl
      obtain ⟨l, hl⟩ : ∃ l, l = Crc.wr bd := ⟨_, rfl⟩
      have hf : f = ⟨l.toArray⟩ := by rw [hl, hbd, HF.out]; exact put_good hgd
      have hbf : Oct.bs f = l := by rw [hf]
      have hll : l.length = f.size := by rw [← hbf, Oct.bs_length]
      have hfs : f.size ≤ 2000000 := by rw [← hll, hl]; have := Crc.wr_le bd; omega
      have hf5 : 4 ≤ f.size := by rw [← hll, hl, Crc.wr_len _ hbl]; omega
      have hs1 : ¬ f.toList = [] := fun h => by
        have h2 : f.toList.length = 0 := by rw [h]; rfl
        rw [ByteArray.toList_eq, Array.length_toList] at h2
        have h3 : f.size = f.data.size := rfl
        omega
      have hs2 : f.toList.isEmpty = false := by rw [List.isEmpty_eq_false_iff]; exact hs1
      have HGE := Lib.hid (fun (W : World) (b : Below w.heap.size w W) => show Calls Tryd.prog 13 #[.string ⟨l.toArray⟩, .int .i64 3] W (Ms.Told m W) by
        rw [hl, hbd]; exact get_good m 3 hgd W (HST.out _ b).1 (HST.out _ b).2)
      clear hgd hg1 HF
      obtain ⟨r, hr⟩ : ∃ r, Int.tmod at0 (f.size : Int) = r := ⟨_, rfl⟩
      have hr1 : -(f.size : Int) < r := by rw [← hr]; have := Int.lt_tmod_of_pos at0 (show (0 : Int) < f.size by omega); omega
      have hr2 : r < (f.size : Int) := by rw [← hr]; exact Int.tmod_lt_of_pos at0 (by omega)
      obtain ⟨A, hA⟩ : ∃ A : Nat, (r + (f.size : Int)) % (f.size : Int) = (A : Int) := ⟨((r + (f.size : Int)) % (f.size : Int)).toNat, by
        have := Int.emod_nonneg (r + (f.size : Int)) (show (f.size : Int) ≠ 0 by omega); omega⟩
      have hA2 : A < f.size := by
        have := Int.emod_lt_of_pos (r + (f.size : Int)) (show (0 : Int) < f.size by omega); omega
      have hcv := fun W : World => run_bytes_of_string (P := Tryd.prog) W 9 48 5 f Tryd.underlying9 Tryd.underlying48 Tryd.underlying5
      have HL := Lib.hid hl
      have HFE := Lib.hid hf
      have HBF := Lib.hid hbf
      have HLL := Lib.hid hll
      have HBL := Lib.hid hbl
      have HBD := Lib.hid hbd
      clear hl hf hbf hll hbl hbd
      go_wp2_with fail
      simp only [hA]
      have HA := Lib.hid hA
      have HR := Lib.hid hr
      clear hA hr hr1 hr2 hcv hs1 hs2
      obtain ⟨cap, hcap⟩ : ∃ cap, cap = grownCap w2 f.size 0 5 := ⟨_, rfl⟩
      rw [← hcap]
      clear hcap
      obtain ⟨x, hx⟩ : ∃ x, x = turns by0 := ⟨_, rfl⟩
      obtain ⟨fr, hfr⟩ : ∃ fr : Nat × Nat, fr = ((bytesRow f cap).size, (bytesRow f cap).size + 1) := ⟨_, rfl⟩
      have hfr1 : f.size ≤ fr.1 := by
        rw [hfr, bytesRow_eq]
        simp [Oct.bs]
      obtain ⟨rest, hrest⟩ : ∃ rest, bytesRow f cap = (l.map Oct.u8v ++ rest).toArray := ⟨_, by rw [bytesRow_eq, HBF.out]⟩
      rw [← hfr, hrest]
      obtain ⟨w3, hw3⟩ : ∃ w3, w3 = (w2.alloc (.cells (l.map Oct.u8v ++ rest).toArray 5 fr)).drew := ⟨_, rfl⟩
      have hrow0 : w3.heap[w2.heap.size]? = some (.cells (l.map Oct.u8v ++ rest).toArray 5 fr) := by
        rw [hw3]; exact heap_alloc_new w2 _
      have b3 : Below w.heap.size w w3 := by
        rw [hw3]; exact ((HB6.out.alloc HB6.out.size _).drew)
      have hB : w.heap.size ≤ w2.heap.size := HB6.out.size
      obtain ⟨B, hBB⟩ : ∃ B, B = w2.heap.size := ⟨_, rfl⟩
      rw [← hw3]
      rw [← hBB] at hrow0 hB ⊢
      clear hw3 hfr hrest hBB
      have HROW0 := Lib.hid hrow0
      have HX := Lib.hid hx
      clear hrow0 hx
      go_loopw [11, 12] (fun ch i wr => ∃ k : Nat, k ≤ 4 ∧ A + k ≤ f.size ∧ i = .int .i64 k ∧ ch = .bool (Crc.chg x k) ∧ wr.heap[B]? = some (.cells ((Crc.sp l A x k).map Oct.u8v ++ rest).toArray 5 fr) ∧ Below w.heap.size w wr) (fun _ i _ => 4 - (intOf i).toNat)
      case atStart => exact ⟨0, by omega, by omega, rfl, rfl, HROW0.out, b3⟩
      case round =>
        obtain ⟨k, hk, hkA, rfl, rfl, hrow, hbel⟩ := hrel
        obtain ⟨cb, hcb⟩ : ∃ cb, cb = Crc.chg x k := ⟨_, rfl⟩
        rw [← hcb]
        by_cases hgo : k < 4 ∧ A + k < f.size
        · obtain ⟨hk4, hkf⟩ := hgo
          have hkl : A + k < l.length := by rw [HLL.out]; exact hkf
          obtain ⟨c, hc⟩ : ∃ c, c = l.getD (A + k) 0 := ⟨_, rfl⟩
          have hget : ((Crc.sp l A x k).map Oct.u8v ++ rest)[A + k]? = some (.int .u8 (c.toNat : Int)) := by
            rw [List.getElem?_append_left (by rw [List.length_map, Crc.sp_len]; exact hkl), List.getElem?_map, Crc.sp_at l A x k hkl, ← hc]; rfl
          have hcell : wr.cell? ⟨B, A + k, none⟩ = some (.int .u8 (c.toNat : Int)) := by
            rw [cell_of_row _ _ _ _ _ _ hrow, List.getElem?_toArray, hget]
          have hfz : wr.frozen? ⟨B, A + k, none⟩ = false := by simp [World.frozen?, hrow]; omega
          have hxk := turns_eq by0 k
          rw [← HX.out] at hxk
          obtain ⟨xk, hxx⟩ : ∃ xk, xk = x k := ⟨_, rfl⟩
          rw [← hxx] at hxk
          have hc2 := c.toNat_lt
          have hx2 := xk.toNat_lt
          have hxor := u8_xor_nat c.toNat xk.toNat (by omega) (by omega)
          have hg1 : (k : Int) < (f.size : Int) - (A : Int) := by omega
          have hnew := row_sp l A x k rest hkl c xk hc hxx
          have hch : Crc.chg x (k + 1) = (cb || (xk != 0)) := by rw [Crc.chg, ← hcb, ← hxx]
          have HROW := Lib.hid hrow
          have HNEW := Lib.hid hnew
          have HCH := Lib.hid hch
          clear hrow hget hc hxx hcb hnew hch
          obtain ⟨d, hd⟩ : ∃ d : Nat, d = c.toNat ^^^ xk.toNat := ⟨_, rfl⟩
          rw [← hd] at hxor HNEW
          clear hd
          go_upto_region 15 with fail
          refine wp_region_noPanic ?_
          refine HeldU.wp_region_until (F := fun _ => True) (G := (fun w9 : World => w9.cell? ⟨B, A + k, none⟩ = some (.int .u8 (c.toNat : Int)))) (k := 13) (by kernel_rfl) (trivial) ?_ (fun hHeld => ?_)
          · exact hcell
          conv in Array.replicate _ false => change #[false, false, false, false, false, false, false, false, false, false, false, false, false, false]
          obtain ⟨wd, hwd⟩ : ∃ x, x = wr.drew := ⟨_, rfl⟩
          have hbd2 : Below w.heap.size w wd := by rw [hwd]; exact Gn.below_drew hbel
          have HRD := Lib.hid ((show wd.heap[B]? = wr.heap[B]? by rw [hwd]; rfl).trans HROW.out)
          have hw1 : IntKind.i64.wrap ((A : Int) + (k : Int)) = ((A + k : Nat) : Int) := IntWalk.i64_in _ (by omega)
          have hw2 : IntKind.i64.wrap (8 * (k : Int)) = ((8 * k : Nat) : Int) := IntWalk.i64_in _ (by omega)
          have hlk : (A : Int) + (k : Int) < (f.size : Int) := by omega
          have hlk0 : (0 : Int) ≤ (A : Int) + (k : Int) := by omega
          have hl1 : ((A : Int) + (k : Int)).toNat = A + k := by omega
          have hl2 : (8 * (k : Int)).toNat = 8 * k := by omega
          have hxw : IntKind.u8.wrap ((by0 : Int) / 2 ^ (8 * k)) = (xk.toNat : Int) := by rw [← hxk]; rfl
          have hcd : wd.cell? ⟨B, A + k, none⟩ = some (.int .u8 (c.toNat : Int)) := by rw [hwd]; exact hcell
          have hfd : wd.frozen? ⟨B, A + k, none⟩ = false := by rw [hwd]; exact hfz
          rw [← hwd] at hHeld ⊢
          clear hwd hcell hfz
          refine HeldU.wpAnyU_take (i := 0) (v := ?_) rfl (by kernel_rfl) (by kernel_rfl) (by kernel_rfl) (by kernel_rfl) (by rfl) (fun _ _ _ h => h) (Or.inl ⟨by rfl, ?_⟩) (by assumption) ?_
          rotate_left
          · intro w hSw
            try dsimp only at hSw
            go_simp
            try with_reducible rfl
          try simp only [Act.put, List.getElem_toArray, List.getElem_cons_zero, List.getElem_cons_succ, List.setIfInBounds_toArray, List.set_cons_zero, List.set_cons_succ]
          refine HeldU.wpAnyU_take (i := 1) (v := ?_) rfl (by kernel_rfl) (by kernel_rfl) (by kernel_rfl) (by kernel_rfl) (by rfl) (fun _ _ _ h => h) (Or.inl ⟨by rfl, ?_⟩) (by assumption) ?_
          rotate_left
          · intro w hSw
            try dsimp only at hSw
            go_simp
            try with_reducible rfl
          try simp only [Act.put, List.getElem_toArray, List.getElem_cons_zero, List.getElem_cons_succ, List.setIfInBounds_toArray, List.set_cons_zero, List.set_cons_succ]
          refine HeldU.wpAnyU_take (i := 2) (v := ?_) rfl (by kernel_rfl) (by kernel_rfl) (by kernel_rfl) (by kernel_rfl) (by rfl) (fun _ _ _ h => h) (Or.inl ⟨by rfl, ?_⟩) (by assumption) ?_
          rotate_left
          · intro w hSw
            try dsimp only at hSw
            go_simp
            try with_reducible rfl
          try simp only [Act.put, List.getElem_toArray, List.getElem_cons_zero, List.getElem_cons_succ, List.setIfInBounds_toArray, List.set_cons_zero, List.set_cons_succ]
          refine HeldU.wpAnyU_take (i := 3) (v := ?_) rfl (by kernel_rfl) (by kernel_rfl) (by kernel_rfl) (by kernel_rfl) (by rfl) (fun _ _ _ h => h) (Or.inl ⟨by rfl, ?_⟩) (by assumption) ?_
          rotate_left
          · intro w hSw
            try dsimp only at hSw
            go_simp
            try with_reducible rfl
          try simp only [Act.put, List.getElem_toArray, List.getElem_cons_zero, List.getElem_cons_succ, List.setIfInBounds_toArray, List.set_cons_zero, List.set_cons_succ]
          refine HeldU.wpAnyU_take (i := 4) (v := ?_) rfl (by kernel_rfl) (by kernel_rfl) (by kernel_rfl) (by kernel_rfl) (by rfl) (fun _ _ _ h => h) (Or.inl ⟨by rfl, ?_⟩) (by assumption) ?_
          rotate_left
          · intro w hSw
            try dsimp only at hSw
            go_simp
            try with_reducible rfl
          try simp only [Act.put, List.getElem_toArray, List.getElem_cons_zero, List.getElem_cons_succ, List.setIfInBounds_toArray, List.set_cons_zero, List.set_cons_succ]
          refine HeldU.wpAnyU_early (i := 5) (v := ?_) rfl (by kernel_rfl) (by kernel_rfl) (by kernel_rfl) (by kernel_rfl) (by rfl) (by kernel_rfl) (fun _ _ _ h => h) (Or.inl ⟨by rfl, ?_⟩) (by assumption) ?_
          rotate_left
          · intro w hSw
            have hG := hSw.2
            clear hSw
            try dsimp only at hG
            go_simp
            try with_reducible rfl
          try simp only [Act.put, List.getElem_toArray, List.getElem_cons_zero, List.getElem_cons_succ, List.setIfInBounds_toArray, List.set_cons_zero, List.set_cons_succ]
          refine HeldU.wpAnyU_take (i := 6) (v := ?_) rfl (by kernel_rfl) (by kernel_rfl) (by kernel_rfl) (by kernel_rfl) (by rfl) (fun _ _ _ h => h) (Or.inl ⟨by rfl, ?_⟩) (by assumption) ?_
          rotate_left
          · intro w hSw
            try dsimp only at hSw
            go_simp
            try with_reducible rfl
          try simp only [Act.put, List.getElem_toArray, List.getElem_cons_zero, List.getElem_cons_succ, List.setIfInBounds_toArray, List.set_cons_zero, List.set_cons_succ]
          refine HeldU.wpAnyU_take (i := 7) (v := ?_) rfl (by kernel_rfl) (by kernel_rfl) (by kernel_rfl) (by kernel_rfl) (by rfl) (fun _ _ _ h => h) (Or.inl ⟨by rfl, ?_⟩) (by assumption) ?_
          rotate_left
          · intro w hSw
            try dsimp only at hSw
            go_simp
            try with_reducible rfl
          try simp only [Act.put, List.getElem_toArray, List.getElem_cons_zero, List.getElem_cons_succ, List.setIfInBounds_toArray, List.set_cons_zero, List.set_cons_succ]
          refine HeldU.wpAnyU_take (i := 8) (v := ?_) rfl (by kernel_rfl) (by kernel_rfl) (by kernel_rfl) (by kernel_rfl) (by rfl) (fun _ _ _ h => h) (Or.inl ⟨by rfl, ?_⟩) (by assumption) ?_
          rotate_left
          · intro w hSw
            try dsimp only at hSw
            go_simp
            try with_reducible rfl
          try simp only [Act.put, List.getElem_toArray, List.getElem_cons_zero, List.getElem_cons_succ, List.setIfInBounds_toArray, List.set_cons_zero, List.set_cons_succ]
          refine HeldU.wpAnyU_take (i := 9) (v := ?_) rfl (by kernel_rfl) (by kernel_rfl) (by kernel_rfl) (by kernel_rfl) (by rfl) (fun _ _ _ h => h) (Or.inl ⟨by rfl, ?_⟩) (by assumption) ?_
          rotate_left
          · intro w hSw
            try dsimp only at hSw
            go_simp
            try with_reducible rfl
          try simp only [Act.put, List.getElem_toArray, List.getElem_cons_zero, List.getElem_cons_succ, List.setIfInBounds_toArray, List.set_cons_zero, List.set_cons_succ]
          refine HeldU.wpAnyU_take (i := 10) (v := ?_) rfl (by kernel_rfl) (by kernel_rfl) (by kernel_rfl) (by kernel_rfl) (by rfl) (fun _ _ _ h => h) (Or.inl ⟨by rfl, ?_⟩) (by assumption) ?_
          rotate_left
          · intro w hSw
            try dsimp only at hSw
            go_simp
            try with_reducible rfl
          try simp only [Act.put, List.getElem_toArray, List.getElem_cons_zero, List.getElem_cons_succ, List.setIfInBounds_toArray, List.set_cons_zero, List.set_cons_succ]
          refine HeldU.wpAnyU_take (i := 11) (v := ?_) rfl (by kernel_rfl) (by kernel_rfl) (by kernel_rfl) (by kernel_rfl) (by rfl) (fun _ _ _ h => h) (Or.inl ⟨by rfl, ?_⟩) (by assumption) ?_
          rotate_left
          · intro w hSw
            try dsimp only at hSw
            go_simp
            try with_reducible rfl
          try simp only [Act.put, List.getElem_toArray, List.getElem_cons_zero, List.getElem_cons_succ, List.setIfInBounds_toArray, List.set_cons_zero, List.set_cons_succ]
          refine HeldU.wpAnyU_take (i := 12) (v := ?_) rfl (by kernel_rfl) (by kernel_rfl) (by kernel_rfl) (by kernel_rfl) (by rfl) (fun _ _ _ h => h) (Or.inl ⟨by rfl, ?_⟩) (by assumption) ?_
          rotate_left
          · intro w hSw
            try dsimp only at hSw
            go_simp
            try with_reducible rfl
          try simp only [Act.put, List.getElem_toArray, List.getElem_cons_zero, List.getElem_cons_succ, List.setIfInBounds_toArray, List.set_cons_zero, List.set_cons_succ]
          refine HeldU.wpAnyU_ready (rs := [13]) (by kernel_rfl) (by simp) ?_
          refine HeldU.AllReadyU.cons rfl (fun K hK => ?_) HeldU.AllReadyU.nil
          go_simp
          refine hK.out _ _ ⟨trivial, fun h => Bool.noConfusion (show true = false from h)⟩ (fun hHeld => ?_)
          clear hK K
          try simp only [Act.put, List.getElem_toArray, List.getElem_cons_zero, List.getElem_cons_succ, List.setIfInBounds_toArray, List.set_cons_zero, List.set_cons_succ]
          refine HeldU.wpAnyU_done (by kernel_rfl) ?_ _
          refine NoPanic.normal ?_
          clear hcd hfd hxor hw1 hlk hlk0 hl1
          cases cb
          · by_cases hz : xk = 0
            · have t1 : ((xk.toNat : Int) == 0) = true := by rw [hz]; rfl
              have t2 : ((xk.toNat : Int) != 0) = false := by rw [hz]; rfl
              have HZ := Lib.hid hz
              clear hz
              go_wp2_with fail
              go_roundw
              case rel =>
                refine ⟨k + 1, by omega, by omega, by go_num, ?_, ?_, hbd2.setCell hB _⟩
                · rw [HCH.out, HZ.out]; rfl
                · have hrow := HRD.out
                  rw [← HNEW.out]
                  simp [World.setCell, Array.getElem?_modify, hrow]
              case measure => simp [intOf]; omega
            · have hz' : xk.toNat ≠ 0 := fun h => hz (UInt8.toNat_inj.1 h)
              have t1 : ((xk.toNat : Int) == 0) = false := by rw [beq_eq_false_iff_ne]; omega
              have t2 : ((xk.toNat : Int) != 0) = true := by rw [bne_iff_ne]; omega
              have t3 : (false || (xk != 0)) = true := by simpa using hz
              have HT := Lib.hid t3
              clear hz hz' t3
              go_wp2_with fail
              go_roundw
              case rel =>
                refine ⟨k + 1, by omega, by omega, by go_num, ?_, ?_, hbd2.setCell hB _⟩
                · rw [HCH.out, HT.out]
                · have hrow := HRD.out
                  rw [← HNEW.out]
                  simp [World.setCell, Array.getElem?_modify, hrow]
              case measure => simp [intOf]; omega
          · go_wp2_with fail
            go_roundw
            case rel =>
              refine ⟨k + 1, by omega, by omega, by go_num, ?_, ?_, hbd2.setCell hB _⟩
              · rw [HCH.out]; rfl
              · have hrow := HRD.out
                rw [← HNEW.out]
                simp [World.setCell, Array.getElem?_modify, hrow]
            case measure => simp [intOf]; omega
        · have hlen := Crc.sp_len l A x k
          obtain ⟨g, hg⟩ : ∃ g : ByteArray, g = ⟨(Crc.sp l A x k).toArray⟩ := ⟨_, rfl⟩
          have hcv : (convert 48 9 (.slice (some ⟨B, 0, none⟩) f.size cap)).run Tryd.prog wr = .ok (.string g) wr := by
            have := run_convert_bytes_back (P := Tryd.prog) wr 48 9 5 ⟨B, 0, none⟩ cap (Crc.sp l A x k) Tryd.underlying48 Tryd.underlying5 Tryd.underlying9 (fun j hj => by
              have e : (⟨B, 0, none⟩ : Addr).add j = ⟨B, j, none⟩ := by unfold Addr.add; split <;> simp_all
              rw [e, cell_of_row _ _ _ _ _ _ hrow, List.getElem?_toArray, List.getElem?_append_left (by rw [List.length_map]; exact hj), List.getElem?_map, List.getElem?_eq_getElem hj]
              rfl)
            rw [hlen, HLL.out] at this
            rw [hg]; exact this
          have hgs : g.size ≤ 2000000 := by rw [hg, Crc.size_mk, hlen, HLL.out]; exact hfs
          have hmA : A + k ≤ (Crc.wr bd).length := by rw [← HL.out, HLL.out]; exact hkA
          have HGB := Lib.hid (fun (hno : (Crc.op (Crc.sp l A x k)).2 ≠ 0) (W : World) (b : Below w.heap.size w W) => show Calls Tryd.prog 13 #[.string g, .int .i64 3] W (Ms.Refused W) from
            get_bad g 3 (by decide) (by omega) (by rw [hg, Crc.bs_mk]; exact hno) W (HST.out _ b).1 (HST.out _ b).2)
          have hexit : k < 4 → ¬ ((k : Int) < (f.size : Int) - (A : Int)) := fun h => by omega
          have HGG := Lib.hid hg
          clear hrow hg hgo
          cases cb
          · have hsame := Crc.sp_same l A x k (Crc.chg_false hcb.symm)
            have HGT := Lib.hid (fun (W : World) (b : Below w.heap.size w W) => show Calls Tryd.prog 13 #[.string g, .int .i64 3] W (Ms.Told m W) by
              rw [HGG.out, hsame]; exact HGE.out W b)
            have HBL2 := Lib.hid hbel
            clear hsame hmA hcb hlen hbel
            by_cases hk4 : k < 4
            · have hx4 := hexit hk4
              clear hexit
              go_wp2_with fail
              refine (HGT.out _ HBL2.out).mono ?_
              rintro e w5 ⟨A7, c7, B7, d7, rfl, -, -, b5⟩
              have b5 := (HBL2.out.trans (b5.mono HBL2.out.size)).alloc (by have := HBL2.out.size; have := b5.size; omega) (.cells #[.int .i64 m.kind, .int .i64 m.frm, .int .i64 m.born, .slice A7 m.known.length c7, .int .i64 m.view, .int .i64 m.last, .int .i64 m.op, .int .i64 m.commit, .int .i64 m.client, .int .i64 m.number, .int .i64 m.nonce, .string m.text, .bool m.full, .int .i64 m.base, .string m.state, .slice B7 m.ents.length d7] 31)
              unfold cellsM
              go_wp2_with fail
              go_ret
              exact ⟨rfl, b5⟩
            · clear hexit
              go_wp2_with fail
              refine (HGT.out _ HBL2.out).mono ?_
              rintro e w5 ⟨A7, c7, B7, d7, rfl, -, -, b5⟩
              have b5 := (HBL2.out.trans (b5.mono HBL2.out.size)).alloc (by have := HBL2.out.size; have := b5.size; omega) (.cells #[.int .i64 m.kind, .int .i64 m.frm, .int .i64 m.born, .slice A7 m.known.length c7, .int .i64 m.view, .int .i64 m.last, .int .i64 m.op, .int .i64 m.commit, .int .i64 m.client, .int .i64 m.number, .int .i64 m.nonce, .string m.text, .bool m.full, .int .i64 m.base, .string m.state, .slice B7 m.ents.length d7] 31)
              unfold cellsM
              go_wp2_with fail
              go_ret
              exact ⟨rfl, b5⟩
          · have hno := Crc.spoilt bd HBL.out A x k hk hmA hcb.symm
            rw [← HL.out] at hno
            have HGT := Lib.hid (HGB.out hno)
            have HBL2 := Lib.hid hbel
            clear hno hmA hcb hlen hbel
            by_cases hk4 : k < 4
            · have hx4 := hexit hk4
              clear hexit
              go_wp2_with fail
              refine (HGT.out _ HBL2.out).mono ?_
              rintro e w5 ⟨e4, he4, rfl, b5⟩
              have t1 : ((e4 : Int) == 0) = false := by rw [beq_eq_false_iff_ne]; omega
              have t3 : ¬ (e4 : Int) = 0 := by omega
              have t2 : ((e4 : Int) != 0) = true := by rw [bne_iff_ne]; omega
              have b5 := (HBL2.out.trans (b5.mono HBL2.out.size)).alloc (by have := HBL2.out.size; have := b5.size; omega) (.cells #[.int .i64 0, .int .i64 0, .int .i64 0, .slice none 0 0, .int .i64 0, .int .i64 0, .int .i64 0, .int .i64 0, .int .i64 0, .int .i64 0, .int .i64 0, .string ⟨#[]⟩, .bool false, .int .i64 0, .string ⟨#[]⟩, .slice none 0 0] 31)
              go_wp2_with fail
              go_ret
              exact ⟨rfl, b5⟩
            · clear hexit
              go_wp2_with fail
              refine (HGT.out _ HBL2.out).mono ?_
              rintro e w5 ⟨e4, he4, rfl, b5⟩
              have t1 : ((e4 : Int) == 0) = false := by rw [beq_eq_false_iff_ne]; omega
              have t3 : ¬ (e4 : Int) = 0 := by omega
              have t2 : ((e4 : Int) != 0) = true := by rw [bne_iff_ne]; omega
              have b5 := (HBL2.out.trans (b5.mono HBL2.out.size)).alloc (by have := HBL2.out.size; have := b5.size; omega) (.cells #[.int .i64 0, .int .i64 0, .int .i64 0, .slice none 0 0, .int .i64 0, .int .i64 0, .int .i64 0, .int .i64 0, .int .i64 0, .int .i64 0, .int .i64 0, .string ⟨#[]⟩, .bool false, .int .i64 0, .string ⟨#[]⟩, .slice none 0 0] 31)
              go_wp2_with fail
              go_ret
              exact ⟨rfl, b5⟩
theorem u32_nat {n : Int} (h : (Lit.int .u32 n).wf = true) : ∃ m : Nat, n = (m : Int) := by
  refine ⟨n.toNat, ?_⟩
  simp [Lit.wf, IntKind.min, IntKind.max, IntKind.signed, IntKind.bits] at h
  omega
theorem spoilt_any (m : Msg) (at0 by0 : Int) (v : Value) (w : World) (hv : RawAt w m v) (hs : Short m) (_ : (Lit.int .i64 at0).wf = true) (w2 : (Lit.int .u32 by0).wf = true) (hst : Crc.Steps w) (h0 : 0 < w.heap.size) :
    Calls Tryd.prog 4 #[v, .int .i64 at0, .int .u32 by0] w fun e w' => e = .returned (.bool true) ∧ Below w.heap.size w w' := by
  obtain ⟨k, rfl⟩ := u32_nat w2
  exact spoilt_walk m at0 k v w hv hs hst h0
end Go.Proofs.YtfeelmblnkpfdaaDoor.Sp
