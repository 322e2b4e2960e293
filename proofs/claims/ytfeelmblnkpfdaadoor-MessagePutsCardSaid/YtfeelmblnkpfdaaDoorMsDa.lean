/-
  Layer 23: the document's small answers: numbers, fields, a text, an entry.
-/
import Derived.Test.YtfeelmblnkpfdaaDoorMsGp
import Derived.Test.YtfeelmblnkpfdaaDoorOctRefPut
import Derived.Test.YtfeelmblnkpfdaaDoorLooseD
namespace Go.Proofs.YtfeelmblnkpfdaaDoor.Ms
open Oct (pb bs rng)
open Go.RowKit
set_option maxRecDepth 100000
set_option linter.unusedSimpArgs false
set_option linter.unusedVariables false

theorem number_any (k : Int) (w : World) : Calls Tryd.prog 18 #[.int .i64 k] w (Says (!badN k) w) := by
  unfold badN
  by_cases h0 : 0 ≤ k
  · by_cases h1 : k ≤ 9007199254740992
    · have e : (!(decide (k < 0) || decide (9007199254740992 < k))) = true := by rw [decide_eq_false (by omega), decide_eq_false (by omega)]; rfl
      rw [e]
      clear e
      go_enter Tryd.func18, Tryd.ntmps18
      go_wp2
      go_ret
      exact ⟨rfl, Below.refl _ _⟩
    · have e : (!(decide (k < 0) || decide (9007199254740992 < k))) = false := by rw [decide_eq_true (show 9007199254740992 < k by omega)]; simp
      rw [e]
      clear e
      go_enter Tryd.func18, Tryd.ntmps18
      go_wp2
      go_ret
      exact ⟨rfl, Below.refl _ _⟩
  · have e : (!(decide (k < 0) || decide (9007199254740992 < k))) = false := by rw [decide_eq_true (show k < 0 by omega)]; rfl
    rw [e]
    clear e
    go_enter Tryd.func18, Tryd.ntmps18
    go_wp2
    go_ret
    exact ⟨rfl, Below.refl _ _⟩
def hasL (l : List UInt8) (c : Int) : Bool := l.any fun x => decide ((x.toNat : Int) = c)
set_option maxHeartbeats 4000000 in
theorem has_any (s : ByteArray) (c : Int) (w : World) (hs : s.size ≤ 100) : Calls Tryd.prog 17 #[.string s, .int .u8 c] w (Says (hasL (bs s) c) w) := by
  obtain ⟨q, hq⟩ : ∃ q, q = hasL (bs s) c := ⟨_, rfl⟩
  rw [← hq]
  have HQ := Lib.hid hq
  clear hq
  go_enter Tryd.func17, Tryd.ntmps17
  go_wp2_with fail
  go_loopw [5] (fun i wr => ∃ k : Nat, i = .int .i64 k ∧ k ≤ s.size ∧ wr = w ∧ hasL ((bs s).take k) c = false) (fun i _ => s.size - (intOf i).toNat)
  case atStart => exact ⟨0, rfl, Nat.zero_le _, rfl, rfl⟩
  case round =>
    obtain ⟨k, rfl, hk, rfl, ht⟩ := hrel
    by_cases hlt : k < s.size
    · have hc := s[k].toNat_lt
      have hlt2 : (k : Int) < (s.size : Int) := by omega
      have hkl : k < (bs s).length := hlt
      have hx : (bs s)[k] = s[k] := rfl
      have hsn : hasL ((bs s).take (k + 1)) c = decide ((s[k].toNat : Int) = c) := by
        rw [List.take_succ_eq_append_getElem hkl, hx]
        unfold hasL at ht ⊢
        rw [List.any_append, ht]
        simp
      by_cases hxc : (s[k].toNat : Int) = c
      · have HF := Lib.hid (show q = true by
          rw [HQ.out]
          unfold hasL
          rw [List.any_eq_true]
          exact ⟨s[k], by rw [← hx]; exact List.getElem_mem _, by simpa using hxc⟩)
        clear ht hsn hx
        go_wp2
        go_ret
        exact ⟨by rw [HF.out]; rfl, Below.refl _ _⟩
      · have HF := Lib.hid (show hasL ((bs s).take (k + 1)) c = false by rw [hsn]; exact decide_eq_false hxc)
        clear ht hsn hx
        go_wp2
        refine ⟨⟨k + 1, by go_num, by omega, by first | rfl | trivial, HF.out⟩, by simp [intOf]; omega⟩
    · have hke : k = s.size := by omega
      subst hke
      have HF := Lib.hid (show q = false by rw [HQ.out, ← ht, List.take_of_length_le (show (bs s).length ≤ s.size from Nat.le_refl _)])
      clear ht
      go_wp2
      go_ret
      exact ⟨by rw [HF.out]; rfl, Below.refl _ _⟩
def fieldsT (k : Nat) : ByteArray := ([⟨#[]⟩, ⟨#[105, 110, 116]⟩, ⟨#[118, 111, 99, 101]⟩, ⟨#[118, 111]⟩, ⟨#[118, 105, 110, 116]⟩, ⟨#[118, 111, 99]⟩, ⟨#[118]⟩, ⟨#[118, 108, 111, 99, 84]⟩, ⟨#[118, 111, 99, 84]⟩, ⟨#[120]⟩, ⟨#[118, 120, 102]⟩, ⟨#[118, 111]⟩, ⟨#[118, 111, 99, 84]⟩] : List ByteArray).getD k ⟨#[]⟩
def fieldsM (m : Msg) : ByteArray := if m.kind = 10 ∧ m.full = true then ⟨#[118, 120, 102, 111, 99, 84]⟩ else fieldsT m.kind.toNat
theorem fields_1 (m : Msg) (a : Option Addr) (cap : Nat) (b : Option Addr) (cap2 : Nat) (w : World) :
    Calls Tryd.prog 16 #[.agg #[.int .i64 1, .int .i64 m.frm, .int .i64 m.born, .slice a m.known.length cap, .int .i64 m.view, .int .i64 m.last, .int .i64 m.op, .int .i64 m.commit, .int .i64 m.client, .int .i64 m.number, .int .i64 m.nonce, .string m.text, .bool m.full, .int .i64 m.base, .string m.state, .slice b m.ents.length cap2]] w (fun e w' => e = .returned (.string ⟨#[105, 110, 116]⟩) ∧ Below w.heap.size w w') := by
  obtain ⟨V, hV⟩ : ∃ V, V = w.alloc (.cells #[.int .i64 1, .int .i64 m.frm, .int .i64 m.born, .slice a m.known.length cap, .int .i64 m.view, .int .i64 m.last, .int .i64 m.op, .int .i64 m.commit, .int .i64 m.client, .int .i64 m.number, .int .i64 m.nonce, .string m.text, .bool m.full, .int .i64 m.base, .string m.state, .slice b m.ents.length cap2] 34) := ⟨_, rfl⟩
  have hb : Below w.heap.size w V := by rw [hV]; exact (Below.refl _ _).alloc (Nat.le_refl _) _
  have hx : V.heap[w.heap.size]? = some (.cells #[.int .i64 1, .int .i64 m.frm, .int .i64 m.born, .slice a m.known.length cap, .int .i64 m.view, .int .i64 m.last, .int .i64 m.op, .int .i64 m.commit, .int .i64 m.client, .int .i64 m.number, .int .i64 m.nonce, .string m.text, .bool m.full, .int .i64 m.base, .string m.state, .slice b m.ents.length cap2] 34 (0, 0)) := by rw [hV]; exact heap_alloc_new _ _
  obtain ⟨p, hp⟩ : ∃ p, p = w.heap.size := ⟨_, rfl⟩
  rw [← hp] at hx
  have x0 := cell_of_row _ _ 0 _ _ (0, 0) hx
  have x12 := cell_of_row _ _ 12 _ _ (0, 0) hx
  have HV := Lib.hid hV
  have HB := Lib.hid hb
  have HP := Lib.hid hp
  clear hV hb hp hx
  go_enter Tryd.func16, Tryd.ntmps16
  go_upto_region 1 with fail
  rw [← HV.out, ← HP.out]
  obtain ⟨V2, hV2⟩ : ∃ W, W = V.alloc (.cells #[.string ⟨#[]⟩, .string ⟨#[105, 110, 116]⟩, .string ⟨#[118, 111, 99, 101]⟩, .string ⟨#[118, 111]⟩, .string ⟨#[118, 105, 110, 116]⟩, .string ⟨#[118, 111, 99]⟩, .string ⟨#[118]⟩, .string ⟨#[118, 108, 111, 99, 84]⟩, .string ⟨#[118, 111, 99, 84]⟩, .string ⟨#[120]⟩, .string ⟨#[118, 120, 102]⟩, .string ⟨#[118, 111]⟩, .string ⟨#[118, 111, 99, 84]⟩] 9) := ⟨_, rfl⟩
  obtain ⟨tb, htb⟩ : ∃ q, q = V.heap.size := ⟨_, rfl⟩
  have hb2 : Below V.heap.size V V2 := by rw [hV2]; exact (Below.refl _ _).alloc (Nat.le_refl _) _
  have hx2 : V2.heap[tb]? = some (.cells #[.string ⟨#[]⟩, .string ⟨#[105, 110, 116]⟩, .string ⟨#[118, 111, 99, 101]⟩, .string ⟨#[118, 111]⟩, .string ⟨#[118, 105, 110, 116]⟩, .string ⟨#[118, 111, 99]⟩, .string ⟨#[118]⟩, .string ⟨#[118, 108, 111, 99, 84]⟩, .string ⟨#[118, 111, 99, 84]⟩, .string ⟨#[120]⟩, .string ⟨#[118, 120, 102]⟩, .string ⟨#[118, 111]⟩, .string ⟨#[118, 111, 99, 84]⟩] 9 (0, 0)) := by rw [hV2, htb]; exact heap_alloc_new _ _
  have xt := cell_of_row _ _ 1 _ _ (0, 0) hx2
  have x0 := (hb2.cell (p := ⟨p, 0, none⟩) (World.block_lt_of_cell? _ _ x0)).trans x0
  have x12 := (hb2.cell (p := ⟨p, 12, none⟩) (World.block_lt_of_cell? _ _ x12)).trans x12
  have HB2 := Lib.hid (HB.out.trans (hb2.mono HB.out.size))
  have HV2 := Lib.hid hV2
  have HTB := Lib.hid htb
  clear hV2 htb hb2 hx2
  go_upto_region 2 with fail
  rw [← HV2.out, ← HTB.out]
  go_wp2
  go_ret
  exact ⟨rfl, HB2.out⟩
theorem fields_2 (m : Msg) (a : Option Addr) (cap : Nat) (b : Option Addr) (cap2 : Nat) (w : World) :
    Calls Tryd.prog 16 #[.agg #[.int .i64 2, .int .i64 m.frm, .int .i64 m.born, .slice a m.known.length cap, .int .i64 m.view, .int .i64 m.last, .int .i64 m.op, .int .i64 m.commit, .int .i64 m.client, .int .i64 m.number, .int .i64 m.nonce, .string m.text, .bool m.full, .int .i64 m.base, .string m.state, .slice b m.ents.length cap2]] w (fun e w' => e = .returned (.string ⟨#[118, 111, 99, 101]⟩) ∧ Below w.heap.size w w') := by
  obtain ⟨V, hV⟩ : ∃ V, V = w.alloc (.cells #[.int .i64 2, .int .i64 m.frm, .int .i64 m.born, .slice a m.known.length cap, .int .i64 m.view, .int .i64 m.last, .int .i64 m.op, .int .i64 m.commit, .int .i64 m.client, .int .i64 m.number, .int .i64 m.nonce, .string m.text, .bool m.full, .int .i64 m.base, .string m.state, .slice b m.ents.length cap2] 34) := ⟨_, rfl⟩
  have hb : Below w.heap.size w V := by rw [hV]; exact (Below.refl _ _).alloc (Nat.le_refl _) _
  have hx : V.heap[w.heap.size]? = some (.cells #[.int .i64 2, .int .i64 m.frm, .int .i64 m.born, .slice a m.known.length cap, .int .i64 m.view, .int .i64 m.last, .int .i64 m.op, .int .i64 m.commit, .int .i64 m.client, .int .i64 m.number, .int .i64 m.nonce, .string m.text, .bool m.full, .int .i64 m.base, .string m.state, .slice b m.ents.length cap2] 34 (0, 0)) := by rw [hV]; exact heap_alloc_new _ _
  obtain ⟨p, hp⟩ : ∃ p, p = w.heap.size := ⟨_, rfl⟩
  rw [← hp] at hx
  have x0 := cell_of_row _ _ 0 _ _ (0, 0) hx
  have x12 := cell_of_row _ _ 12 _ _ (0, 0) hx
  have HV := Lib.hid hV
  have HB := Lib.hid hb
  have HP := Lib.hid hp
  clear hV hb hp hx
  go_enter Tryd.func16, Tryd.ntmps16
  go_upto_region 1 with fail
  rw [← HV.out, ← HP.out]
  obtain ⟨V2, hV2⟩ : ∃ W, W = V.alloc (.cells #[.string ⟨#[]⟩, .string ⟨#[105, 110, 116]⟩, .string ⟨#[118, 111, 99, 101]⟩, .string ⟨#[118, 111]⟩, .string ⟨#[118, 105, 110, 116]⟩, .string ⟨#[118, 111, 99]⟩, .string ⟨#[118]⟩, .string ⟨#[118, 108, 111, 99, 84]⟩, .string ⟨#[118, 111, 99, 84]⟩, .string ⟨#[120]⟩, .string ⟨#[118, 120, 102]⟩, .string ⟨#[118, 111]⟩, .string ⟨#[118, 111, 99, 84]⟩] 9) := ⟨_, rfl⟩
  obtain ⟨tb, htb⟩ : ∃ q, q = V.heap.size := ⟨_, rfl⟩
  have hb2 : Below V.heap.size V V2 := by rw [hV2]; exact (Below.refl _ _).alloc (Nat.le_refl _) _
  have hx2 : V2.heap[tb]? = some (.cells #[.string ⟨#[]⟩, .string ⟨#[105, 110, 116]⟩, .string ⟨#[118, 111, 99, 101]⟩, .string ⟨#[118, 111]⟩, .string ⟨#[118, 105, 110, 116]⟩, .string ⟨#[118, 111, 99]⟩, .string ⟨#[118]⟩, .string ⟨#[118, 108, 111, 99, 84]⟩, .string ⟨#[118, 111, 99, 84]⟩, .string ⟨#[120]⟩, .string ⟨#[118, 120, 102]⟩, .string ⟨#[118, 111]⟩, .string ⟨#[118, 111, 99, 84]⟩] 9 (0, 0)) := by rw [hV2, htb]; exact heap_alloc_new _ _
  have xt := cell_of_row _ _ 2 _ _ (0, 0) hx2
  have x0 := (hb2.cell (p := ⟨p, 0, none⟩) (World.block_lt_of_cell? _ _ x0)).trans x0
  have x12 := (hb2.cell (p := ⟨p, 12, none⟩) (World.block_lt_of_cell? _ _ x12)).trans x12
  have HB2 := Lib.hid (HB.out.trans (hb2.mono HB.out.size))
  have HV2 := Lib.hid hV2
  have HTB := Lib.hid htb
  clear hV2 htb hb2 hx2
  go_upto_region 2 with fail
  rw [← HV2.out, ← HTB.out]
  go_wp2
  go_ret
  exact ⟨rfl, HB2.out⟩
theorem fields_3 (m : Msg) (a : Option Addr) (cap : Nat) (b : Option Addr) (cap2 : Nat) (w : World) :
    Calls Tryd.prog 16 #[.agg #[.int .i64 3, .int .i64 m.frm, .int .i64 m.born, .slice a m.known.length cap, .int .i64 m.view, .int .i64 m.last, .int .i64 m.op, .int .i64 m.commit, .int .i64 m.client, .int .i64 m.number, .int .i64 m.nonce, .string m.text, .bool m.full, .int .i64 m.base, .string m.state, .slice b m.ents.length cap2]] w (fun e w' => e = .returned (.string ⟨#[118, 111]⟩) ∧ Below w.heap.size w w') := by
  obtain ⟨V, hV⟩ : ∃ V, V = w.alloc (.cells #[.int .i64 3, .int .i64 m.frm, .int .i64 m.born, .slice a m.known.length cap, .int .i64 m.view, .int .i64 m.last, .int .i64 m.op, .int .i64 m.commit, .int .i64 m.client, .int .i64 m.number, .int .i64 m.nonce, .string m.text, .bool m.full, .int .i64 m.base, .string m.state, .slice b m.ents.length cap2] 34) := ⟨_, rfl⟩
  have hb : Below w.heap.size w V := by rw [hV]; exact (Below.refl _ _).alloc (Nat.le_refl _) _
  have hx : V.heap[w.heap.size]? = some (.cells #[.int .i64 3, .int .i64 m.frm, .int .i64 m.born, .slice a m.known.length cap, .int .i64 m.view, .int .i64 m.last, .int .i64 m.op, .int .i64 m.commit, .int .i64 m.client, .int .i64 m.number, .int .i64 m.nonce, .string m.text, .bool m.full, .int .i64 m.base, .string m.state, .slice b m.ents.length cap2] 34 (0, 0)) := by rw [hV]; exact heap_alloc_new _ _
  obtain ⟨p, hp⟩ : ∃ p, p = w.heap.size := ⟨_, rfl⟩
  rw [← hp] at hx
  have x0 := cell_of_row _ _ 0 _ _ (0, 0) hx
  have x12 := cell_of_row _ _ 12 _ _ (0, 0) hx
  have HV := Lib.hid hV
  have HB := Lib.hid hb
  have HP := Lib.hid hp
  clear hV hb hp hx
  go_enter Tryd.func16, Tryd.ntmps16
  go_upto_region 1 with fail
  rw [← HV.out, ← HP.out]
  obtain ⟨V2, hV2⟩ : ∃ W, W = V.alloc (.cells #[.string ⟨#[]⟩, .string ⟨#[105, 110, 116]⟩, .string ⟨#[118, 111, 99, 101]⟩, .string ⟨#[118, 111]⟩, .string ⟨#[118, 105, 110, 116]⟩, .string ⟨#[118, 111, 99]⟩, .string ⟨#[118]⟩, .string ⟨#[118, 108, 111, 99, 84]⟩, .string ⟨#[118, 111, 99, 84]⟩, .string ⟨#[120]⟩, .string ⟨#[118, 120, 102]⟩, .string ⟨#[118, 111]⟩, .string ⟨#[118, 111, 99, 84]⟩] 9) := ⟨_, rfl⟩
  obtain ⟨tb, htb⟩ : ∃ q, q = V.heap.size := ⟨_, rfl⟩
  have hb2 : Below V.heap.size V V2 := by rw [hV2]; exact (Below.refl _ _).alloc (Nat.le_refl _) _
  have hx2 : V2.heap[tb]? = some (.cells #[.string ⟨#[]⟩, .string ⟨#[105, 110, 116]⟩, .string ⟨#[118, 111, 99, 101]⟩, .string ⟨#[118, 111]⟩, .string ⟨#[118, 105, 110, 116]⟩, .string ⟨#[118, 111, 99]⟩, .string ⟨#[118]⟩, .string ⟨#[118, 108, 111, 99, 84]⟩, .string ⟨#[118, 111, 99, 84]⟩, .string ⟨#[120]⟩, .string ⟨#[118, 120, 102]⟩, .string ⟨#[118, 111]⟩, .string ⟨#[118, 111, 99, 84]⟩] 9 (0, 0)) := by rw [hV2, htb]; exact heap_alloc_new _ _
  have xt := cell_of_row _ _ 3 _ _ (0, 0) hx2
  have x0 := (hb2.cell (p := ⟨p, 0, none⟩) (World.block_lt_of_cell? _ _ x0)).trans x0
  have x12 := (hb2.cell (p := ⟨p, 12, none⟩) (World.block_lt_of_cell? _ _ x12)).trans x12
  have HB2 := Lib.hid (HB.out.trans (hb2.mono HB.out.size))
  have HV2 := Lib.hid hV2
  have HTB := Lib.hid htb
  clear hV2 htb hb2 hx2
  go_upto_region 2 with fail
  rw [← HV2.out, ← HTB.out]
  go_wp2
  go_ret
  exact ⟨rfl, HB2.out⟩
theorem fields_4 (m : Msg) (a : Option Addr) (cap : Nat) (b : Option Addr) (cap2 : Nat) (w : World) :
    Calls Tryd.prog 16 #[.agg #[.int .i64 4, .int .i64 m.frm, .int .i64 m.born, .slice a m.known.length cap, .int .i64 m.view, .int .i64 m.last, .int .i64 m.op, .int .i64 m.commit, .int .i64 m.client, .int .i64 m.number, .int .i64 m.nonce, .string m.text, .bool m.full, .int .i64 m.base, .string m.state, .slice b m.ents.length cap2]] w (fun e w' => e = .returned (.string ⟨#[118, 105, 110, 116]⟩) ∧ Below w.heap.size w w') := by
  obtain ⟨V, hV⟩ : ∃ V, V = w.alloc (.cells #[.int .i64 4, .int .i64 m.frm, .int .i64 m.born, .slice a m.known.length cap, .int .i64 m.view, .int .i64 m.last, .int .i64 m.op, .int .i64 m.commit, .int .i64 m.client, .int .i64 m.number, .int .i64 m.nonce, .string m.text, .bool m.full, .int .i64 m.base, .string m.state, .slice b m.ents.length cap2] 34) := ⟨_, rfl⟩
  have hb : Below w.heap.size w V := by rw [hV]; exact (Below.refl _ _).alloc (Nat.le_refl _) _
  have hx : V.heap[w.heap.size]? = some (.cells #[.int .i64 4, .int .i64 m.frm, .int .i64 m.born, .slice a m.known.length cap, .int .i64 m.view, .int .i64 m.last, .int .i64 m.op, .int .i64 m.commit, .int .i64 m.client, .int .i64 m.number, .int .i64 m.nonce, .string m.text, .bool m.full, .int .i64 m.base, .string m.state, .slice b m.ents.length cap2] 34 (0, 0)) := by rw [hV]; exact heap_alloc_new _ _
  obtain ⟨p, hp⟩ : ∃ p, p = w.heap.size := ⟨_, rfl⟩
  rw [← hp] at hx
  have x0 := cell_of_row _ _ 0 _ _ (0, 0) hx
  have x12 := cell_of_row _ _ 12 _ _ (0, 0) hx
  have HV := Lib.hid hV
  have HB := Lib.hid hb
  have HP := Lib.hid hp
  clear hV hb hp hx
  go_enter Tryd.func16, Tryd.ntmps16
  go_upto_region 1 with fail
  rw [← HV.out, ← HP.out]
  obtain ⟨V2, hV2⟩ : ∃ W, W = V.alloc (.cells #[.string ⟨#[]⟩, .string ⟨#[105, 110, 116]⟩, .string ⟨#[118, 111, 99, 101]⟩, .string ⟨#[118, 111]⟩, .string ⟨#[118, 105, 110, 116]⟩, .string ⟨#[118, 111, 99]⟩, .string ⟨#[118]⟩, .string ⟨#[118, 108, 111, 99, 84]⟩, .string ⟨#[118, 111, 99, 84]⟩, .string ⟨#[120]⟩, .string ⟨#[118, 120, 102]⟩, .string ⟨#[118, 111]⟩, .string ⟨#[118, 111, 99, 84]⟩] 9) := ⟨_, rfl⟩
  obtain ⟨tb, htb⟩ : ∃ q, q = V.heap.size := ⟨_, rfl⟩
  have hb2 : Below V.heap.size V V2 := by rw [hV2]; exact (Below.refl _ _).alloc (Nat.le_refl _) _
  have hx2 : V2.heap[tb]? = some (.cells #[.string ⟨#[]⟩, .string ⟨#[105, 110, 116]⟩, .string ⟨#[118, 111, 99, 101]⟩, .string ⟨#[118, 111]⟩, .string ⟨#[118, 105, 110, 116]⟩, .string ⟨#[118, 111, 99]⟩, .string ⟨#[118]⟩, .string ⟨#[118, 108, 111, 99, 84]⟩, .string ⟨#[118, 111, 99, 84]⟩, .string ⟨#[120]⟩, .string ⟨#[118, 120, 102]⟩, .string ⟨#[118, 111]⟩, .string ⟨#[118, 111, 99, 84]⟩] 9 (0, 0)) := by rw [hV2, htb]; exact heap_alloc_new _ _
  have xt := cell_of_row _ _ 4 _ _ (0, 0) hx2
  have x0 := (hb2.cell (p := ⟨p, 0, none⟩) (World.block_lt_of_cell? _ _ x0)).trans x0
  have x12 := (hb2.cell (p := ⟨p, 12, none⟩) (World.block_lt_of_cell? _ _ x12)).trans x12
  have HB2 := Lib.hid (HB.out.trans (hb2.mono HB.out.size))
  have HV2 := Lib.hid hV2
  have HTB := Lib.hid htb
  clear hV2 htb hb2 hx2
  go_upto_region 2 with fail
  rw [← HV2.out, ← HTB.out]
  go_wp2
  go_ret
  exact ⟨rfl, HB2.out⟩
theorem fields_5 (m : Msg) (a : Option Addr) (cap : Nat) (b : Option Addr) (cap2 : Nat) (w : World) :
    Calls Tryd.prog 16 #[.agg #[.int .i64 5, .int .i64 m.frm, .int .i64 m.born, .slice a m.known.length cap, .int .i64 m.view, .int .i64 m.last, .int .i64 m.op, .int .i64 m.commit, .int .i64 m.client, .int .i64 m.number, .int .i64 m.nonce, .string m.text, .bool m.full, .int .i64 m.base, .string m.state, .slice b m.ents.length cap2]] w (fun e w' => e = .returned (.string ⟨#[118, 111, 99]⟩) ∧ Below w.heap.size w w') := by
  obtain ⟨V, hV⟩ : ∃ V, V = w.alloc (.cells #[.int .i64 5, .int .i64 m.frm, .int .i64 m.born, .slice a m.known.length cap, .int .i64 m.view, .int .i64 m.last, .int .i64 m.op, .int .i64 m.commit, .int .i64 m.client, .int .i64 m.number, .int .i64 m.nonce, .string m.text, .bool m.full, .int .i64 m.base, .string m.state, .slice b m.ents.length cap2] 34) := ⟨_, rfl⟩
  have hb : Below w.heap.size w V := by rw [hV]; exact (Below.refl _ _).alloc (Nat.le_refl _) _
  have hx : V.heap[w.heap.size]? = some (.cells #[.int .i64 5, .int .i64 m.frm, .int .i64 m.born, .slice a m.known.length cap, .int .i64 m.view, .int .i64 m.last, .int .i64 m.op, .int .i64 m.commit, .int .i64 m.client, .int .i64 m.number, .int .i64 m.nonce, .string m.text, .bool m.full, .int .i64 m.base, .string m.state, .slice b m.ents.length cap2] 34 (0, 0)) := by rw [hV]; exact heap_alloc_new _ _
  obtain ⟨p, hp⟩ : ∃ p, p = w.heap.size := ⟨_, rfl⟩
  rw [← hp] at hx
  have x0 := cell_of_row _ _ 0 _ _ (0, 0) hx
  have x12 := cell_of_row _ _ 12 _ _ (0, 0) hx
  have HV := Lib.hid hV
  have HB := Lib.hid hb
  have HP := Lib.hid hp
  clear hV hb hp hx
  go_enter Tryd.func16, Tryd.ntmps16
  go_upto_region 1 with fail
  rw [← HV.out, ← HP.out]
  obtain ⟨V2, hV2⟩ : ∃ W, W = V.alloc (.cells #[.string ⟨#[]⟩, .string ⟨#[105, 110, 116]⟩, .string ⟨#[118, 111, 99, 101]⟩, .string ⟨#[118, 111]⟩, .string ⟨#[118, 105, 110, 116]⟩, .string ⟨#[118, 111, 99]⟩, .string ⟨#[118]⟩, .string ⟨#[118, 108, 111, 99, 84]⟩, .string ⟨#[118, 111, 99, 84]⟩, .string ⟨#[120]⟩, .string ⟨#[118, 120, 102]⟩, .string ⟨#[118, 111]⟩, .string ⟨#[118, 111, 99, 84]⟩] 9) := ⟨_, rfl⟩
  obtain ⟨tb, htb⟩ : ∃ q, q = V.heap.size := ⟨_, rfl⟩
  have hb2 : Below V.heap.size V V2 := by rw [hV2]; exact (Below.refl _ _).alloc (Nat.le_refl _) _
  have hx2 : V2.heap[tb]? = some (.cells #[.string ⟨#[]⟩, .string ⟨#[105, 110, 116]⟩, .string ⟨#[118, 111, 99, 101]⟩, .string ⟨#[118, 111]⟩, .string ⟨#[118, 105, 110, 116]⟩, .string ⟨#[118, 111, 99]⟩, .string ⟨#[118]⟩, .string ⟨#[118, 108, 111, 99, 84]⟩, .string ⟨#[118, 111, 99, 84]⟩, .string ⟨#[120]⟩, .string ⟨#[118, 120, 102]⟩, .string ⟨#[118, 111]⟩, .string ⟨#[118, 111, 99, 84]⟩] 9 (0, 0)) := by rw [hV2, htb]; exact heap_alloc_new _ _
  have xt := cell_of_row _ _ 5 _ _ (0, 0) hx2
  have x0 := (hb2.cell (p := ⟨p, 0, none⟩) (World.block_lt_of_cell? _ _ x0)).trans x0
  have x12 := (hb2.cell (p := ⟨p, 12, none⟩) (World.block_lt_of_cell? _ _ x12)).trans x12
  have HB2 := Lib.hid (HB.out.trans (hb2.mono HB.out.size))
  have HV2 := Lib.hid hV2
  have HTB := Lib.hid htb
  clear hV2 htb hb2 hx2
  go_upto_region 2 with fail
  rw [← HV2.out, ← HTB.out]
  go_wp2
  go_ret
  exact ⟨rfl, HB2.out⟩
theorem fields_6 (m : Msg) (a : Option Addr) (cap : Nat) (b : Option Addr) (cap2 : Nat) (w : World) :
    Calls Tryd.prog 16 #[.agg #[.int .i64 6, .int .i64 m.frm, .int .i64 m.born, .slice a m.known.length cap, .int .i64 m.view, .int .i64 m.last, .int .i64 m.op, .int .i64 m.commit, .int .i64 m.client, .int .i64 m.number, .int .i64 m.nonce, .string m.text, .bool m.full, .int .i64 m.base, .string m.state, .slice b m.ents.length cap2]] w (fun e w' => e = .returned (.string ⟨#[118]⟩) ∧ Below w.heap.size w w') := by
  obtain ⟨V, hV⟩ : ∃ V, V = w.alloc (.cells #[.int .i64 6, .int .i64 m.frm, .int .i64 m.born, .slice a m.known.length cap, .int .i64 m.view, .int .i64 m.last, .int .i64 m.op, .int .i64 m.commit, .int .i64 m.client, .int .i64 m.number, .int .i64 m.nonce, .string m.text, .bool m.full, .int .i64 m.base, .string m.state, .slice b m.ents.length cap2] 34) := ⟨_, rfl⟩
  have hb : Below w.heap.size w V := by rw [hV]; exact (Below.refl _ _).alloc (Nat.le_refl _) _
  have hx : V.heap[w.heap.size]? = some (.cells #[.int .i64 6, .int .i64 m.frm, .int .i64 m.born, .slice a m.known.length cap, .int .i64 m.view, .int .i64 m.last, .int .i64 m.op, .int .i64 m.commit, .int .i64 m.client, .int .i64 m.number, .int .i64 m.nonce, .string m.text, .bool m.full, .int .i64 m.base, .string m.state, .slice b m.ents.length cap2] 34 (0, 0)) := by rw [hV]; exact heap_alloc_new _ _
  obtain ⟨p, hp⟩ : ∃ p, p = w.heap.size := ⟨_, rfl⟩
  rw [← hp] at hx
  have x0 := cell_of_row _ _ 0 _ _ (0, 0) hx
  have x12 := cell_of_row _ _ 12 _ _ (0, 0) hx
  have HV := Lib.hid hV
  have HB := Lib.hid hb
  have HP := Lib.hid hp
  clear hV hb hp hx
  go_enter Tryd.func16, Tryd.ntmps16
  go_upto_region 1 with fail
  rw [← HV.out, ← HP.out]
  obtain ⟨V2, hV2⟩ : ∃ W, W = V.alloc (.cells #[.string ⟨#[]⟩, .string ⟨#[105, 110, 116]⟩, .string ⟨#[118, 111, 99, 101]⟩, .string ⟨#[118, 111]⟩, .string ⟨#[118, 105, 110, 116]⟩, .string ⟨#[118, 111, 99]⟩, .string ⟨#[118]⟩, .string ⟨#[118, 108, 111, 99, 84]⟩, .string ⟨#[118, 111, 99, 84]⟩, .string ⟨#[120]⟩, .string ⟨#[118, 120, 102]⟩, .string ⟨#[118, 111]⟩, .string ⟨#[118, 111, 99, 84]⟩] 9) := ⟨_, rfl⟩
  obtain ⟨tb, htb⟩ : ∃ q, q = V.heap.size := ⟨_, rfl⟩
  have hb2 : Below V.heap.size V V2 := by rw [hV2]; exact (Below.refl _ _).alloc (Nat.le_refl _) _
  have hx2 : V2.heap[tb]? = some (.cells #[.string ⟨#[]⟩, .string ⟨#[105, 110, 116]⟩, .string ⟨#[118, 111, 99, 101]⟩, .string ⟨#[118, 111]⟩, .string ⟨#[118, 105, 110, 116]⟩, .string ⟨#[118, 111, 99]⟩, .string ⟨#[118]⟩, .string ⟨#[118, 108, 111, 99, 84]⟩, .string ⟨#[118, 111, 99, 84]⟩, .string ⟨#[120]⟩, .string ⟨#[118, 120, 102]⟩, .string ⟨#[118, 111]⟩, .string ⟨#[118, 111, 99, 84]⟩] 9 (0, 0)) := by rw [hV2, htb]; exact heap_alloc_new _ _
  have xt := cell_of_row _ _ 6 _ _ (0, 0) hx2
  have x0 := (hb2.cell (p := ⟨p, 0, none⟩) (World.block_lt_of_cell? _ _ x0)).trans x0
  have x12 := (hb2.cell (p := ⟨p, 12, none⟩) (World.block_lt_of_cell? _ _ x12)).trans x12
  have HB2 := Lib.hid (HB.out.trans (hb2.mono HB.out.size))
  have HV2 := Lib.hid hV2
  have HTB := Lib.hid htb
  clear hV2 htb hb2 hx2
  go_upto_region 2 with fail
  rw [← HV2.out, ← HTB.out]
  go_wp2
  go_ret
  exact ⟨rfl, HB2.out⟩
theorem fields_7 (m : Msg) (a : Option Addr) (cap : Nat) (b : Option Addr) (cap2 : Nat) (w : World) :
    Calls Tryd.prog 16 #[.agg #[.int .i64 7, .int .i64 m.frm, .int .i64 m.born, .slice a m.known.length cap, .int .i64 m.view, .int .i64 m.last, .int .i64 m.op, .int .i64 m.commit, .int .i64 m.client, .int .i64 m.number, .int .i64 m.nonce, .string m.text, .bool m.full, .int .i64 m.base, .string m.state, .slice b m.ents.length cap2]] w (fun e w' => e = .returned (.string ⟨#[118, 108, 111, 99, 84]⟩) ∧ Below w.heap.size w w') := by
  obtain ⟨V, hV⟩ : ∃ V, V = w.alloc (.cells #[.int .i64 7, .int .i64 m.frm, .int .i64 m.born, .slice a m.known.length cap, .int .i64 m.view, .int .i64 m.last, .int .i64 m.op, .int .i64 m.commit, .int .i64 m.client, .int .i64 m.number, .int .i64 m.nonce, .string m.text, .bool m.full, .int .i64 m.base, .string m.state, .slice b m.ents.length cap2] 34) := ⟨_, rfl⟩
  have hb : Below w.heap.size w V := by rw [hV]; exact (Below.refl _ _).alloc (Nat.le_refl _) _
  have hx : V.heap[w.heap.size]? = some (.cells #[.int .i64 7, .int .i64 m.frm, .int .i64 m.born, .slice a m.known.length cap, .int .i64 m.view, .int .i64 m.last, .int .i64 m.op, .int .i64 m.commit, .int .i64 m.client, .int .i64 m.number, .int .i64 m.nonce, .string m.text, .bool m.full, .int .i64 m.base, .string m.state, .slice b m.ents.length cap2] 34 (0, 0)) := by rw [hV]; exact heap_alloc_new _ _
  obtain ⟨p, hp⟩ : ∃ p, p = w.heap.size := ⟨_, rfl⟩
  rw [← hp] at hx
  have x0 := cell_of_row _ _ 0 _ _ (0, 0) hx
  have x12 := cell_of_row _ _ 12 _ _ (0, 0) hx
  have HV := Lib.hid hV
  have HB := Lib.hid hb
  have HP := Lib.hid hp
  clear hV hb hp hx
  go_enter Tryd.func16, Tryd.ntmps16
  go_upto_region 1 with fail
  rw [← HV.out, ← HP.out]
  obtain ⟨V2, hV2⟩ : ∃ W, W = V.alloc (.cells #[.string ⟨#[]⟩, .string ⟨#[105, 110, 116]⟩, .string ⟨#[118, 111, 99, 101]⟩, .string ⟨#[118, 111]⟩, .string ⟨#[118, 105, 110, 116]⟩, .string ⟨#[118, 111, 99]⟩, .string ⟨#[118]⟩, .string ⟨#[118, 108, 111, 99, 84]⟩, .string ⟨#[118, 111, 99, 84]⟩, .string ⟨#[120]⟩, .string ⟨#[118, 120, 102]⟩, .string ⟨#[118, 111]⟩, .string ⟨#[118, 111, 99, 84]⟩] 9) := ⟨_, rfl⟩
  obtain ⟨tb, htb⟩ : ∃ q, q = V.heap.size := ⟨_, rfl⟩
  have hb2 : Below V.heap.size V V2 := by rw [hV2]; exact (Below.refl _ _).alloc (Nat.le_refl _) _
  have hx2 : V2.heap[tb]? = some (.cells #[.string ⟨#[]⟩, .string ⟨#[105, 110, 116]⟩, .string ⟨#[118, 111, 99, 101]⟩, .string ⟨#[118, 111]⟩, .string ⟨#[118, 105, 110, 116]⟩, .string ⟨#[118, 111, 99]⟩, .string ⟨#[118]⟩, .string ⟨#[118, 108, 111, 99, 84]⟩, .string ⟨#[118, 111, 99, 84]⟩, .string ⟨#[120]⟩, .string ⟨#[118, 120, 102]⟩, .string ⟨#[118, 111]⟩, .string ⟨#[118, 111, 99, 84]⟩] 9 (0, 0)) := by rw [hV2, htb]; exact heap_alloc_new _ _
  have xt := cell_of_row _ _ 7 _ _ (0, 0) hx2
  have x0 := (hb2.cell (p := ⟨p, 0, none⟩) (World.block_lt_of_cell? _ _ x0)).trans x0
  have x12 := (hb2.cell (p := ⟨p, 12, none⟩) (World.block_lt_of_cell? _ _ x12)).trans x12
  have HB2 := Lib.hid (HB.out.trans (hb2.mono HB.out.size))
  have HV2 := Lib.hid hV2
  have HTB := Lib.hid htb
  clear hV2 htb hb2 hx2
  go_upto_region 2 with fail
  rw [← HV2.out, ← HTB.out]
  go_wp2
  go_ret
  exact ⟨rfl, HB2.out⟩
theorem fields_8 (m : Msg) (a : Option Addr) (cap : Nat) (b : Option Addr) (cap2 : Nat) (w : World) :
    Calls Tryd.prog 16 #[.agg #[.int .i64 8, .int .i64 m.frm, .int .i64 m.born, .slice a m.known.length cap, .int .i64 m.view, .int .i64 m.last, .int .i64 m.op, .int .i64 m.commit, .int .i64 m.client, .int .i64 m.number, .int .i64 m.nonce, .string m.text, .bool m.full, .int .i64 m.base, .string m.state, .slice b m.ents.length cap2]] w (fun e w' => e = .returned (.string ⟨#[118, 111, 99, 84]⟩) ∧ Below w.heap.size w w') := by
  obtain ⟨V, hV⟩ : ∃ V, V = w.alloc (.cells #[.int .i64 8, .int .i64 m.frm, .int .i64 m.born, .slice a m.known.length cap, .int .i64 m.view, .int .i64 m.last, .int .i64 m.op, .int .i64 m.commit, .int .i64 m.client, .int .i64 m.number, .int .i64 m.nonce, .string m.text, .bool m.full, .int .i64 m.base, .string m.state, .slice b m.ents.length cap2] 34) := ⟨_, rfl⟩
  have hb : Below w.heap.size w V := by rw [hV]; exact (Below.refl _ _).alloc (Nat.le_refl _) _
  have hx : V.heap[w.heap.size]? = some (.cells #[.int .i64 8, .int .i64 m.frm, .int .i64 m.born, .slice a m.known.length cap, .int .i64 m.view, .int .i64 m.last, .int .i64 m.op, .int .i64 m.commit, .int .i64 m.client, .int .i64 m.number, .int .i64 m.nonce, .string m.text, .bool m.full, .int .i64 m.base, .string m.state, .slice b m.ents.length cap2] 34 (0, 0)) := by rw [hV]; exact heap_alloc_new _ _
  obtain ⟨p, hp⟩ : ∃ p, p = w.heap.size := ⟨_, rfl⟩
  rw [← hp] at hx
  have x0 := cell_of_row _ _ 0 _ _ (0, 0) hx
  have x12 := cell_of_row _ _ 12 _ _ (0, 0) hx
  have HV := Lib.hid hV
  have HB := Lib.hid hb
  have HP := Lib.hid hp
  clear hV hb hp hx
  go_enter Tryd.func16, Tryd.ntmps16
  go_upto_region 1 with fail
  rw [← HV.out, ← HP.out]
  obtain ⟨V2, hV2⟩ : ∃ W, W = V.alloc (.cells #[.string ⟨#[]⟩, .string ⟨#[105, 110, 116]⟩, .string ⟨#[118, 111, 99, 101]⟩, .string ⟨#[118, 111]⟩, .string ⟨#[118, 105, 110, 116]⟩, .string ⟨#[118, 111, 99]⟩, .string ⟨#[118]⟩, .string ⟨#[118, 108, 111, 99, 84]⟩, .string ⟨#[118, 111, 99, 84]⟩, .string ⟨#[120]⟩, .string ⟨#[118, 120, 102]⟩, .string ⟨#[118, 111]⟩, .string ⟨#[118, 111, 99, 84]⟩] 9) := ⟨_, rfl⟩
  obtain ⟨tb, htb⟩ : ∃ q, q = V.heap.size := ⟨_, rfl⟩
  have hb2 : Below V.heap.size V V2 := by rw [hV2]; exact (Below.refl _ _).alloc (Nat.le_refl _) _
  have hx2 : V2.heap[tb]? = some (.cells #[.string ⟨#[]⟩, .string ⟨#[105, 110, 116]⟩, .string ⟨#[118, 111, 99, 101]⟩, .string ⟨#[118, 111]⟩, .string ⟨#[118, 105, 110, 116]⟩, .string ⟨#[118, 111, 99]⟩, .string ⟨#[118]⟩, .string ⟨#[118, 108, 111, 99, 84]⟩, .string ⟨#[118, 111, 99, 84]⟩, .string ⟨#[120]⟩, .string ⟨#[118, 120, 102]⟩, .string ⟨#[118, 111]⟩, .string ⟨#[118, 111, 99, 84]⟩] 9 (0, 0)) := by rw [hV2, htb]; exact heap_alloc_new _ _
  have xt := cell_of_row _ _ 8 _ _ (0, 0) hx2
  have x0 := (hb2.cell (p := ⟨p, 0, none⟩) (World.block_lt_of_cell? _ _ x0)).trans x0
  have x12 := (hb2.cell (p := ⟨p, 12, none⟩) (World.block_lt_of_cell? _ _ x12)).trans x12
  have HB2 := Lib.hid (HB.out.trans (hb2.mono HB.out.size))
  have HV2 := Lib.hid hV2
  have HTB := Lib.hid htb
  clear hV2 htb hb2 hx2
  go_upto_region 2 with fail
  rw [← HV2.out, ← HTB.out]
  go_wp2
  go_ret
  exact ⟨rfl, HB2.out⟩
theorem fields_9 (m : Msg) (a : Option Addr) (cap : Nat) (b : Option Addr) (cap2 : Nat) (w : World) :
    Calls Tryd.prog 16 #[.agg #[.int .i64 9, .int .i64 m.frm, .int .i64 m.born, .slice a m.known.length cap, .int .i64 m.view, .int .i64 m.last, .int .i64 m.op, .int .i64 m.commit, .int .i64 m.client, .int .i64 m.number, .int .i64 m.nonce, .string m.text, .bool m.full, .int .i64 m.base, .string m.state, .slice b m.ents.length cap2]] w (fun e w' => e = .returned (.string ⟨#[120]⟩) ∧ Below w.heap.size w w') := by
  obtain ⟨V, hV⟩ : ∃ V, V = w.alloc (.cells #[.int .i64 9, .int .i64 m.frm, .int .i64 m.born, .slice a m.known.length cap, .int .i64 m.view, .int .i64 m.last, .int .i64 m.op, .int .i64 m.commit, .int .i64 m.client, .int .i64 m.number, .int .i64 m.nonce, .string m.text, .bool m.full, .int .i64 m.base, .string m.state, .slice b m.ents.length cap2] 34) := ⟨_, rfl⟩
  have hb : Below w.heap.size w V := by rw [hV]; exact (Below.refl _ _).alloc (Nat.le_refl _) _
  have hx : V.heap[w.heap.size]? = some (.cells #[.int .i64 9, .int .i64 m.frm, .int .i64 m.born, .slice a m.known.length cap, .int .i64 m.view, .int .i64 m.last, .int .i64 m.op, .int .i64 m.commit, .int .i64 m.client, .int .i64 m.number, .int .i64 m.nonce, .string m.text, .bool m.full, .int .i64 m.base, .string m.state, .slice b m.ents.length cap2] 34 (0, 0)) := by rw [hV]; exact heap_alloc_new _ _
  obtain ⟨p, hp⟩ : ∃ p, p = w.heap.size := ⟨_, rfl⟩
  rw [← hp] at hx
  have x0 := cell_of_row _ _ 0 _ _ (0, 0) hx
  have x12 := cell_of_row _ _ 12 _ _ (0, 0) hx
  have HV := Lib.hid hV
  have HB := Lib.hid hb
  have HP := Lib.hid hp
  clear hV hb hp hx
  go_enter Tryd.func16, Tryd.ntmps16
  go_upto_region 1 with fail
  rw [← HV.out, ← HP.out]
  obtain ⟨V2, hV2⟩ : ∃ W, W = V.alloc (.cells #[.string ⟨#[]⟩, .string ⟨#[105, 110, 116]⟩, .string ⟨#[118, 111, 99, 101]⟩, .string ⟨#[118, 111]⟩, .string ⟨#[118, 105, 110, 116]⟩, .string ⟨#[118, 111, 99]⟩, .string ⟨#[118]⟩, .string ⟨#[118, 108, 111, 99, 84]⟩, .string ⟨#[118, 111, 99, 84]⟩, .string ⟨#[120]⟩, .string ⟨#[118, 120, 102]⟩, .string ⟨#[118, 111]⟩, .string ⟨#[118, 111, 99, 84]⟩] 9) := ⟨_, rfl⟩
  obtain ⟨tb, htb⟩ : ∃ q, q = V.heap.size := ⟨_, rfl⟩
  have hb2 : Below V.heap.size V V2 := by rw [hV2]; exact (Below.refl _ _).alloc (Nat.le_refl _) _
  have hx2 : V2.heap[tb]? = some (.cells #[.string ⟨#[]⟩, .string ⟨#[105, 110, 116]⟩, .string ⟨#[118, 111, 99, 101]⟩, .string ⟨#[118, 111]⟩, .string ⟨#[118, 105, 110, 116]⟩, .string ⟨#[118, 111, 99]⟩, .string ⟨#[118]⟩, .string ⟨#[118, 108, 111, 99, 84]⟩, .string ⟨#[118, 111, 99, 84]⟩, .string ⟨#[120]⟩, .string ⟨#[118, 120, 102]⟩, .string ⟨#[118, 111]⟩, .string ⟨#[118, 111, 99, 84]⟩] 9 (0, 0)) := by rw [hV2, htb]; exact heap_alloc_new _ _
  have xt := cell_of_row _ _ 9 _ _ (0, 0) hx2
  have x0 := (hb2.cell (p := ⟨p, 0, none⟩) (World.block_lt_of_cell? _ _ x0)).trans x0
  have x12 := (hb2.cell (p := ⟨p, 12, none⟩) (World.block_lt_of_cell? _ _ x12)).trans x12
  have HB2 := Lib.hid (HB.out.trans (hb2.mono HB.out.size))
  have HV2 := Lib.hid hV2
  have HTB := Lib.hid htb
  clear hV2 htb hb2 hx2
  go_upto_region 2 with fail
  rw [← HV2.out, ← HTB.out]
  go_wp2
  go_ret
  exact ⟨rfl, HB2.out⟩
theorem fields_10t (m : Msg) (a : Option Addr) (cap : Nat) (b : Option Addr) (cap2 : Nat) (w : World) :
    Calls Tryd.prog 16 #[.agg #[.int .i64 10, .int .i64 m.frm, .int .i64 m.born, .slice a m.known.length cap, .int .i64 m.view, .int .i64 m.last, .int .i64 m.op, .int .i64 m.commit, .int .i64 m.client, .int .i64 m.number, .int .i64 m.nonce, .string m.text, .bool true, .int .i64 m.base, .string m.state, .slice b m.ents.length cap2]] w (fun e w' => e = .returned (.string ⟨#[118, 120, 102, 111, 99, 84]⟩) ∧ Below w.heap.size w w') := by
  obtain ⟨V, hV⟩ : ∃ V, V = w.alloc (.cells #[.int .i64 10, .int .i64 m.frm, .int .i64 m.born, .slice a m.known.length cap, .int .i64 m.view, .int .i64 m.last, .int .i64 m.op, .int .i64 m.commit, .int .i64 m.client, .int .i64 m.number, .int .i64 m.nonce, .string m.text, .bool true, .int .i64 m.base, .string m.state, .slice b m.ents.length cap2] 34) := ⟨_, rfl⟩
  have hb : Below w.heap.size w V := by rw [hV]; exact (Below.refl _ _).alloc (Nat.le_refl _) _
  have hx : V.heap[w.heap.size]? = some (.cells #[.int .i64 10, .int .i64 m.frm, .int .i64 m.born, .slice a m.known.length cap, .int .i64 m.view, .int .i64 m.last, .int .i64 m.op, .int .i64 m.commit, .int .i64 m.client, .int .i64 m.number, .int .i64 m.nonce, .string m.text, .bool true, .int .i64 m.base, .string m.state, .slice b m.ents.length cap2] 34 (0, 0)) := by rw [hV]; exact heap_alloc_new _ _
  obtain ⟨p, hp⟩ : ∃ p, p = w.heap.size := ⟨_, rfl⟩
  rw [← hp] at hx
  have x0 := cell_of_row _ _ 0 _ _ (0, 0) hx
  have x12 := cell_of_row _ _ 12 _ _ (0, 0) hx
  have HV := Lib.hid hV
  have HB := Lib.hid hb
  have HP := Lib.hid hp
  clear hV hb hp hx
  go_enter Tryd.func16, Tryd.ntmps16
  go_upto_region 1 with fail
  rw [← HV.out, ← HP.out]
  obtain ⟨V2, hV2⟩ : ∃ W, W = V.alloc (.cells #[.string ⟨#[]⟩, .string ⟨#[105, 110, 116]⟩, .string ⟨#[118, 111, 99, 101]⟩, .string ⟨#[118, 111]⟩, .string ⟨#[118, 105, 110, 116]⟩, .string ⟨#[118, 111, 99]⟩, .string ⟨#[118]⟩, .string ⟨#[118, 108, 111, 99, 84]⟩, .string ⟨#[118, 111, 99, 84]⟩, .string ⟨#[120]⟩, .string ⟨#[118, 120, 102]⟩, .string ⟨#[118, 111]⟩, .string ⟨#[118, 111, 99, 84]⟩] 9) := ⟨_, rfl⟩
  obtain ⟨tb, htb⟩ : ∃ q, q = V.heap.size := ⟨_, rfl⟩
  have hb2 : Below V.heap.size V V2 := by rw [hV2]; exact (Below.refl _ _).alloc (Nat.le_refl _) _
  have hx2 : V2.heap[tb]? = some (.cells #[.string ⟨#[]⟩, .string ⟨#[105, 110, 116]⟩, .string ⟨#[118, 111, 99, 101]⟩, .string ⟨#[118, 111]⟩, .string ⟨#[118, 105, 110, 116]⟩, .string ⟨#[118, 111, 99]⟩, .string ⟨#[118]⟩, .string ⟨#[118, 108, 111, 99, 84]⟩, .string ⟨#[118, 111, 99, 84]⟩, .string ⟨#[120]⟩, .string ⟨#[118, 120, 102]⟩, .string ⟨#[118, 111]⟩, .string ⟨#[118, 111, 99, 84]⟩] 9 (0, 0)) := by rw [hV2, htb]; exact heap_alloc_new _ _
  have xt := cell_of_row _ _ 10 _ _ (0, 0) hx2
  have x0 := (hb2.cell (p := ⟨p, 0, none⟩) (World.block_lt_of_cell? _ _ x0)).trans x0
  have x12 := (hb2.cell (p := ⟨p, 12, none⟩) (World.block_lt_of_cell? _ _ x12)).trans x12
  have HB2 := Lib.hid (HB.out.trans (hb2.mono HB.out.size))
  have HV2 := Lib.hid hV2
  have HTB := Lib.hid htb
  clear hV2 htb hb2 hx2
  go_upto_region 2 with fail
  rw [← HV2.out, ← HTB.out]
  go_wp2
  go_ret
  exact ⟨rfl, HB2.out⟩
theorem fields_10f (m : Msg) (a : Option Addr) (cap : Nat) (b : Option Addr) (cap2 : Nat) (w : World) :
    Calls Tryd.prog 16 #[.agg #[.int .i64 10, .int .i64 m.frm, .int .i64 m.born, .slice a m.known.length cap, .int .i64 m.view, .int .i64 m.last, .int .i64 m.op, .int .i64 m.commit, .int .i64 m.client, .int .i64 m.number, .int .i64 m.nonce, .string m.text, .bool false, .int .i64 m.base, .string m.state, .slice b m.ents.length cap2]] w (fun e w' => e = .returned (.string ⟨#[118, 120, 102]⟩) ∧ Below w.heap.size w w') := by
  obtain ⟨V, hV⟩ : ∃ V, V = w.alloc (.cells #[.int .i64 10, .int .i64 m.frm, .int .i64 m.born, .slice a m.known.length cap, .int .i64 m.view, .int .i64 m.last, .int .i64 m.op, .int .i64 m.commit, .int .i64 m.client, .int .i64 m.number, .int .i64 m.nonce, .string m.text, .bool false, .int .i64 m.base, .string m.state, .slice b m.ents.length cap2] 34) := ⟨_, rfl⟩
  have hb : Below w.heap.size w V := by rw [hV]; exact (Below.refl _ _).alloc (Nat.le_refl _) _
  have hx : V.heap[w.heap.size]? = some (.cells #[.int .i64 10, .int .i64 m.frm, .int .i64 m.born, .slice a m.known.length cap, .int .i64 m.view, .int .i64 m.last, .int .i64 m.op, .int .i64 m.commit, .int .i64 m.client, .int .i64 m.number, .int .i64 m.nonce, .string m.text, .bool false, .int .i64 m.base, .string m.state, .slice b m.ents.length cap2] 34 (0, 0)) := by rw [hV]; exact heap_alloc_new _ _
  obtain ⟨p, hp⟩ : ∃ p, p = w.heap.size := ⟨_, rfl⟩
  rw [← hp] at hx
  have x0 := cell_of_row _ _ 0 _ _ (0, 0) hx
  have x12 := cell_of_row _ _ 12 _ _ (0, 0) hx
  have HV := Lib.hid hV
  have HB := Lib.hid hb
  have HP := Lib.hid hp
  clear hV hb hp hx
  go_enter Tryd.func16, Tryd.ntmps16
  go_upto_region 1 with fail
  rw [← HV.out, ← HP.out]
  obtain ⟨V2, hV2⟩ : ∃ W, W = V.alloc (.cells #[.string ⟨#[]⟩, .string ⟨#[105, 110, 116]⟩, .string ⟨#[118, 111, 99, 101]⟩, .string ⟨#[118, 111]⟩, .string ⟨#[118, 105, 110, 116]⟩, .string ⟨#[118, 111, 99]⟩, .string ⟨#[118]⟩, .string ⟨#[118, 108, 111, 99, 84]⟩, .string ⟨#[118, 111, 99, 84]⟩, .string ⟨#[120]⟩, .string ⟨#[118, 120, 102]⟩, .string ⟨#[118, 111]⟩, .string ⟨#[118, 111, 99, 84]⟩] 9) := ⟨_, rfl⟩
  obtain ⟨tb, htb⟩ : ∃ q, q = V.heap.size := ⟨_, rfl⟩
  have hb2 : Below V.heap.size V V2 := by rw [hV2]; exact (Below.refl _ _).alloc (Nat.le_refl _) _
  have hx2 : V2.heap[tb]? = some (.cells #[.string ⟨#[]⟩, .string ⟨#[105, 110, 116]⟩, .string ⟨#[118, 111, 99, 101]⟩, .string ⟨#[118, 111]⟩, .string ⟨#[118, 105, 110, 116]⟩, .string ⟨#[118, 111, 99]⟩, .string ⟨#[118]⟩, .string ⟨#[118, 108, 111, 99, 84]⟩, .string ⟨#[118, 111, 99, 84]⟩, .string ⟨#[120]⟩, .string ⟨#[118, 120, 102]⟩, .string ⟨#[118, 111]⟩, .string ⟨#[118, 111, 99, 84]⟩] 9 (0, 0)) := by rw [hV2, htb]; exact heap_alloc_new _ _
  have xt := cell_of_row _ _ 10 _ _ (0, 0) hx2
  have x0 := (hb2.cell (p := ⟨p, 0, none⟩) (World.block_lt_of_cell? _ _ x0)).trans x0
  have x12 := (hb2.cell (p := ⟨p, 12, none⟩) (World.block_lt_of_cell? _ _ x12)).trans x12
  have HB2 := Lib.hid (HB.out.trans (hb2.mono HB.out.size))
  have HV2 := Lib.hid hV2
  have HTB := Lib.hid htb
  clear hV2 htb hb2 hx2
  go_upto_region 2 with fail
  rw [← HV2.out, ← HTB.out]
  go_wp2
  go_ret
  exact ⟨rfl, HB2.out⟩
theorem fields_11 (m : Msg) (a : Option Addr) (cap : Nat) (b : Option Addr) (cap2 : Nat) (w : World) :
    Calls Tryd.prog 16 #[.agg #[.int .i64 11, .int .i64 m.frm, .int .i64 m.born, .slice a m.known.length cap, .int .i64 m.view, .int .i64 m.last, .int .i64 m.op, .int .i64 m.commit, .int .i64 m.client, .int .i64 m.number, .int .i64 m.nonce, .string m.text, .bool m.full, .int .i64 m.base, .string m.state, .slice b m.ents.length cap2]] w (fun e w' => e = .returned (.string ⟨#[118, 111]⟩) ∧ Below w.heap.size w w') := by
  obtain ⟨V, hV⟩ : ∃ V, V = w.alloc (.cells #[.int .i64 11, .int .i64 m.frm, .int .i64 m.born, .slice a m.known.length cap, .int .i64 m.view, .int .i64 m.last, .int .i64 m.op, .int .i64 m.commit, .int .i64 m.client, .int .i64 m.number, .int .i64 m.nonce, .string m.text, .bool m.full, .int .i64 m.base, .string m.state, .slice b m.ents.length cap2] 34) := ⟨_, rfl⟩
  have hb : Below w.heap.size w V := by rw [hV]; exact (Below.refl _ _).alloc (Nat.le_refl _) _
  have hx : V.heap[w.heap.size]? = some (.cells #[.int .i64 11, .int .i64 m.frm, .int .i64 m.born, .slice a m.known.length cap, .int .i64 m.view, .int .i64 m.last, .int .i64 m.op, .int .i64 m.commit, .int .i64 m.client, .int .i64 m.number, .int .i64 m.nonce, .string m.text, .bool m.full, .int .i64 m.base, .string m.state, .slice b m.ents.length cap2] 34 (0, 0)) := by rw [hV]; exact heap_alloc_new _ _
  obtain ⟨p, hp⟩ : ∃ p, p = w.heap.size := ⟨_, rfl⟩
  rw [← hp] at hx
  have x0 := cell_of_row _ _ 0 _ _ (0, 0) hx
  have x12 := cell_of_row _ _ 12 _ _ (0, 0) hx
  have HV := Lib.hid hV
  have HB := Lib.hid hb
  have HP := Lib.hid hp
  clear hV hb hp hx
  go_enter Tryd.func16, Tryd.ntmps16
  go_upto_region 1 with fail
  rw [← HV.out, ← HP.out]
  obtain ⟨V2, hV2⟩ : ∃ W, W = V.alloc (.cells #[.string ⟨#[]⟩, .string ⟨#[105, 110, 116]⟩, .string ⟨#[118, 111, 99, 101]⟩, .string ⟨#[118, 111]⟩, .string ⟨#[118, 105, 110, 116]⟩, .string ⟨#[118, 111, 99]⟩, .string ⟨#[118]⟩, .string ⟨#[118, 108, 111, 99, 84]⟩, .string ⟨#[118, 111, 99, 84]⟩, .string ⟨#[120]⟩, .string ⟨#[118, 120, 102]⟩, .string ⟨#[118, 111]⟩, .string ⟨#[118, 111, 99, 84]⟩] 9) := ⟨_, rfl⟩
  obtain ⟨tb, htb⟩ : ∃ q, q = V.heap.size := ⟨_, rfl⟩
  have hb2 : Below V.heap.size V V2 := by rw [hV2]; exact (Below.refl _ _).alloc (Nat.le_refl _) _
  have hx2 : V2.heap[tb]? = some (.cells #[.string ⟨#[]⟩, .string ⟨#[105, 110, 116]⟩, .string ⟨#[118, 111, 99, 101]⟩, .string ⟨#[118, 111]⟩, .string ⟨#[118, 105, 110, 116]⟩, .string ⟨#[118, 111, 99]⟩, .string ⟨#[118]⟩, .string ⟨#[118, 108, 111, 99, 84]⟩, .string ⟨#[118, 111, 99, 84]⟩, .string ⟨#[120]⟩, .string ⟨#[118, 120, 102]⟩, .string ⟨#[118, 111]⟩, .string ⟨#[118, 111, 99, 84]⟩] 9 (0, 0)) := by rw [hV2, htb]; exact heap_alloc_new _ _
  have xt := cell_of_row _ _ 11 _ _ (0, 0) hx2
  have x0 := (hb2.cell (p := ⟨p, 0, none⟩) (World.block_lt_of_cell? _ _ x0)).trans x0
  have x12 := (hb2.cell (p := ⟨p, 12, none⟩) (World.block_lt_of_cell? _ _ x12)).trans x12
  have HB2 := Lib.hid (HB.out.trans (hb2.mono HB.out.size))
  have HV2 := Lib.hid hV2
  have HTB := Lib.hid htb
  clear hV2 htb hb2 hx2
  go_upto_region 2 with fail
  rw [← HV2.out, ← HTB.out]
  go_wp2
  go_ret
  exact ⟨rfl, HB2.out⟩
theorem fields_12 (m : Msg) (a : Option Addr) (cap : Nat) (b : Option Addr) (cap2 : Nat) (w : World) :
    Calls Tryd.prog 16 #[.agg #[.int .i64 12, .int .i64 m.frm, .int .i64 m.born, .slice a m.known.length cap, .int .i64 m.view, .int .i64 m.last, .int .i64 m.op, .int .i64 m.commit, .int .i64 m.client, .int .i64 m.number, .int .i64 m.nonce, .string m.text, .bool m.full, .int .i64 m.base, .string m.state, .slice b m.ents.length cap2]] w (fun e w' => e = .returned (.string ⟨#[118, 111, 99, 84]⟩) ∧ Below w.heap.size w w') := by
  obtain ⟨V, hV⟩ : ∃ V, V = w.alloc (.cells #[.int .i64 12, .int .i64 m.frm, .int .i64 m.born, .slice a m.known.length cap, .int .i64 m.view, .int .i64 m.last, .int .i64 m.op, .int .i64 m.commit, .int .i64 m.client, .int .i64 m.number, .int .i64 m.nonce, .string m.text, .bool m.full, .int .i64 m.base, .string m.state, .slice b m.ents.length cap2] 34) := ⟨_, rfl⟩
  have hb : Below w.heap.size w V := by rw [hV]; exact (Below.refl _ _).alloc (Nat.le_refl _) _
  have hx : V.heap[w.heap.size]? = some (.cells #[.int .i64 12, .int .i64 m.frm, .int .i64 m.born, .slice a m.known.length cap, .int .i64 m.view, .int .i64 m.last, .int .i64 m.op, .int .i64 m.commit, .int .i64 m.client, .int .i64 m.number, .int .i64 m.nonce, .string m.text, .bool m.full, .int .i64 m.base, .string m.state, .slice b m.ents.length cap2] 34 (0, 0)) := by rw [hV]; exact heap_alloc_new _ _
  obtain ⟨p, hp⟩ : ∃ p, p = w.heap.size := ⟨_, rfl⟩
  rw [← hp] at hx
  have x0 := cell_of_row _ _ 0 _ _ (0, 0) hx
  have x12 := cell_of_row _ _ 12 _ _ (0, 0) hx
  have HV := Lib.hid hV
  have HB := Lib.hid hb
  have HP := Lib.hid hp
  clear hV hb hp hx
  go_enter Tryd.func16, Tryd.ntmps16
  go_upto_region 1 with fail
  rw [← HV.out, ← HP.out]
  obtain ⟨V2, hV2⟩ : ∃ W, W = V.alloc (.cells #[.string ⟨#[]⟩, .string ⟨#[105, 110, 116]⟩, .string ⟨#[118, 111, 99, 101]⟩, .string ⟨#[118, 111]⟩, .string ⟨#[118, 105, 110, 116]⟩, .string ⟨#[118, 111, 99]⟩, .string ⟨#[118]⟩, .string ⟨#[118, 108, 111, 99, 84]⟩, .string ⟨#[118, 111, 99, 84]⟩, .string ⟨#[120]⟩, .string ⟨#[118, 120, 102]⟩, .string ⟨#[118, 111]⟩, .string ⟨#[118, 111, 99, 84]⟩] 9) := ⟨_, rfl⟩
  obtain ⟨tb, htb⟩ : ∃ q, q = V.heap.size := ⟨_, rfl⟩
  have hb2 : Below V.heap.size V V2 := by rw [hV2]; exact (Below.refl _ _).alloc (Nat.le_refl _) _
  have hx2 : V2.heap[tb]? = some (.cells #[.string ⟨#[]⟩, .string ⟨#[105, 110, 116]⟩, .string ⟨#[118, 111, 99, 101]⟩, .string ⟨#[118, 111]⟩, .string ⟨#[118, 105, 110, 116]⟩, .string ⟨#[118, 111, 99]⟩, .string ⟨#[118]⟩, .string ⟨#[118, 108, 111, 99, 84]⟩, .string ⟨#[118, 111, 99, 84]⟩, .string ⟨#[120]⟩, .string ⟨#[118, 120, 102]⟩, .string ⟨#[118, 111]⟩, .string ⟨#[118, 111, 99, 84]⟩] 9 (0, 0)) := by rw [hV2, htb]; exact heap_alloc_new _ _
  have xt := cell_of_row _ _ 12 _ _ (0, 0) hx2
  have x0 := (hb2.cell (p := ⟨p, 0, none⟩) (World.block_lt_of_cell? _ _ x0)).trans x0
  have x12 := (hb2.cell (p := ⟨p, 12, none⟩) (World.block_lt_of_cell? _ _ x12)).trans x12
  have HB2 := Lib.hid (HB.out.trans (hb2.mono HB.out.size))
  have HV2 := Lib.hid hV2
  have HTB := Lib.hid htb
  clear hV2 htb hb2 hx2
  go_upto_region 2 with fail
  rw [← HV2.out, ← HTB.out]
  go_wp2
  go_ret
  exact ⟨rfl, HB2.out⟩
def mkB (l : List UInt8) : ByteArray := ⟨l.toArray⟩
theorem mkB_cat (a b : List UInt8) : mkB a ++ mkB b = mkB (a ++ b) := by
  apply ByteArray.ext
  simp [mkB]
theorem mkB_size (l : List UInt8) : (mkB l).size = l.length := rfl
theorem mkB_bs (s : ByteArray) : mkB (bs s) = s := by cases s; rfl
theorem rput_mk (n : Int) (w : World) : Calls Tryd.prog 47 #[.int .i64 n] w (fun e w' => e = .returned (.string (mkB (pb n))) ∧ Below w.heap.size w w') := Oct.rput_any n w
theorem rtext_any (t : ByteArray) (w : World) (ht : t.size ≤ 1000000) : Calls Tryd.prog 49 #[.string t] w (fun e w' => e = .returned (.string (mkB (qT t))) ∧ Below w.heap.size w w') := by
  obtain ⟨s0, hs0⟩ : ∃ s, s = mkB (pb (t.size : Int)) := ⟨_, rfl⟩
  obtain ⟨s1, hs1⟩ : ∃ s, s = mkB (qT t) := ⟨_, rfl⟩
  have hcat : s0 ++ t = s1 := by
    rw [hs0, hs1]
    conv => lhs; rw [← mkB_bs t]
    rw [mkB_cat]
    rfl
  have hl : s0.size ≤ 9 := by rw [hs0, mkB_size]; exact Nat.le_trans (Oct.pb_len _) (by decide)
  have hz : ¬ 9223372036854775807 < s0.size + t.size := by omega
  have HP := Lib.hid (fun (w : World) => show Calls Tryd.prog 47 #[.int .i64 (t.size : Int)] w (fun e w' => e = .returned (.string s0) ∧ Below w.heap.size w w') by rw [hs0]; exact rput_mk _ w)
  rw [← hs1]
  clear hs0 hs1
  go_enter Tryd.func49, Tryd.ntmps49
  go_wp2_with fail
  refine (HP.out _).mono ?_
  rintro e w1 ⟨rfl, b1⟩
  have HB := Lib.hid b1
  clear b1
  go_wp2
  go_ret
  exact ⟨rfl, HB.out⟩
set_option maxHeartbeats 4000000 in
theorem rent_any (y0 y1 : Int) (y2 : ByteArray) (w : World) (ht : y2.size ≤ 1000000) : Calls Tryd.prog 50 #[.agg #[.int .i64 y0, .int .i64 y1, .string y2]] w (fun e w' => e = .returned (.string (mkB (encE ⟨y0, y1, y2⟩))) ∧ Below w.heap.size w w') := by
  obtain ⟨s0, hs0⟩ : ∃ s, s = mkB (pb y0) := ⟨_, rfl⟩
  obtain ⟨s1, hs1⟩ : ∃ s, s = mkB (pb y1) := ⟨_, rfl⟩
  obtain ⟨s2, hs2⟩ : ∃ s, s = mkB (qT y2) := ⟨_, rfl⟩
  obtain ⟨s3, hs3⟩ : ∃ s, s = mkB (pb y0 ++ pb y1) := ⟨_, rfl⟩
  obtain ⟨s4, hs4⟩ : ∃ s, s = mkB (encE ⟨y0, y1, y2⟩) := ⟨_, rfl⟩
  have c1 : s0 ++ s1 = s3 := by rw [hs0, hs1, hs3, mkB_cat]
  have c2 : s3 ++ s2 = s4 := by rw [hs3, hs2, hs4, mkB_cat, List.append_assoc]; rfl
  have l0 : s0.size ≤ 9 := by rw [hs0, mkB_size]; exact Nat.le_trans (Oct.pb_len _) (by decide)
  have l1 : s1.size ≤ 9 := by rw [hs1, mkB_size]; exact Nat.le_trans (Oct.pb_len _) (by decide)
  have l2 : s2.size ≤ 1000009 := by
    have := Oct.pb_len (y2.size : Int)
    rw [hs2, mkB_size]
    show (pb y2.size ++ bs y2).length ≤ _
    rw [List.length_append, Oct.bs_length]; omega
  have l3 : s3.size ≤ 18 := by
    have h0 := Oct.pb_len y0
    have h1 := Oct.pb_len y1
    rw [hs3, mkB_size, List.length_append]; omega
  have z1 : ¬ 9223372036854775807 < s0.size + s1.size := by omega
  have z2 : ¬ 9223372036854775807 < s3.size + s2.size := by omega
  have HP0 := Lib.hid (fun (w : World) => show Calls Tryd.prog 47 #[.int .i64 y0] w (fun e w' => e = .returned (.string s0) ∧ Below w.heap.size w w') by rw [hs0]; exact rput_mk _ w)
  have HP1 := Lib.hid (fun (w : World) => show Calls Tryd.prog 47 #[.int .i64 y1] w (fun e w' => e = .returned (.string s1) ∧ Below w.heap.size w w') by rw [hs1]; exact rput_mk _ w)
  have HP2 := Lib.hid (fun (w : World) => show Calls Tryd.prog 49 #[.string y2] w (fun e w' => e = .returned (.string s2) ∧ Below w.heap.size w w') by rw [hs2]; exact rtext_any _ w ht)
  rw [← hs4]
  clear hs0 hs1 hs2 hs3 hs4 l0 l1 l2 l3
  obtain ⟨V, hV⟩ : ∃ V, V = w.alloc (.cells #[.int .i64 y0, .int .i64 y1, .string y2] 53) := ⟨_, rfl⟩
  have hb : Below w.heap.size w V := by rw [hV]; exact (Below.refl _ _).alloc (Nat.le_refl _) _
  have hx : V.heap[w.heap.size]? = some (.cells #[.int .i64 y0, .int .i64 y1, .string y2] 53 (0, 0)) := by rw [hV]; exact heap_alloc_new _ _
  obtain ⟨p, hp⟩ : ∃ p, p = w.heap.size := ⟨_, rfl⟩
  rw [← hp] at hx
  have HCE := Lib.hid (fun (w' : World) (b : Below V.heap.size V w') => show w'.cell? ⟨p, 0, none⟩ = some (.int .i64 y0) ∧ w'.cell? ⟨p, 1, none⟩ = some (.int .i64 y1) ∧ w'.cell? ⟨p, 2, none⟩ = some (.string y2) from by
    have h := (b.block _ (Gn.heap_lt hx)).trans hx
    exact ⟨cell_of_row _ _ 0 _ _ (0, 0) h, cell_of_row _ _ 1 _ _ (0, 0) h, cell_of_row _ _ 2 _ _ (0, 0) h⟩)
  have HV := Lib.hid hV
  have HB := Lib.hid hb
  have HP := Lib.hid hp
  clear hV hb hp hx
  go_enter Tryd.func50, Tryd.ntmps50
  go_upto_region 1 with fail
  rw [← HV.out, ← HP.out]
  refine LooseD.region_loose (fun w9 => Below V.heap.size V w9) _ _ (by kernel_rfl) (by kernel_rfl)
    (LooseD.waits (D := [[], [], [], [], [], [], [], [], [], [], [], []]) (by kernel_rfl))
    (LooseD.stays (ts := [none, none, some (.is (.string s0)), none, none, some (.is (.string s1)), none, none, none, some (.is (.string s2)), none, none]) (fun w w' h b => h.trans (b.mono h.size)) (.none (.none (.is (.none (.none (.is (.none (.none (.none (.is (.none (.none .nil)))))))))))))
    (Gn.below_drew (Below.refl _ _)) ?_
  refine LooseD.reads (.pointer (some ⟨p, 0, none⟩)) rfl rfl ?_ ?_
  · intro w9 hw
    clear hw
    go_simp
  try simp only [Act.put, List.setIfInBounds_toArray, List.set_cons_zero, List.set_cons_succ]
  refine LooseD.reads (.int .i64 y0) rfl rfl ?_ ?_
  · intro w9 hw
    obtain ⟨g0, -, -⟩ := HCE.out w9 hw
    clear hw
    go_simp
  try simp only [Act.put, List.setIfInBounds_toArray, List.set_cons_zero, List.set_cons_succ]
  refine LooseD.gives (.string s0) 47 #[.int .i64 y0] rfl rfl ?_ (fun w9 hw hH => HP0.out w9) ?_
  · intro w9 hw
    clear hw
    go_simp
  try simp only [Act.put, List.setIfInBounds_toArray, List.set_cons_zero, List.set_cons_succ]
  refine LooseD.reads (.pointer (some ⟨p, 1, none⟩)) rfl rfl ?_ ?_
  · intro w9 hw
    clear hw
    go_simp
  try simp only [Act.put, List.setIfInBounds_toArray, List.set_cons_zero, List.set_cons_succ]
  refine LooseD.reads (.int .i64 y1) rfl rfl ?_ ?_
  · intro w9 hw
    obtain ⟨-, g1, -⟩ := HCE.out w9 hw
    clear hw
    go_simp
  try simp only [Act.put, List.setIfInBounds_toArray, List.set_cons_zero, List.set_cons_succ]
  refine LooseD.gives (.string s1) 47 #[.int .i64 y1] rfl rfl ?_ (fun w9 hw hH => HP1.out w9) ?_
  · intro w9 hw
    clear hw
    go_simp
  try simp only [Act.put, List.setIfInBounds_toArray, List.set_cons_zero, List.set_cons_succ]
  refine LooseD.reads (.string s3) rfl rfl ?_ ?_
  · intro w9 hw
    clear hw
    go_simp
  try simp only [Act.put, List.setIfInBounds_toArray, List.set_cons_zero, List.set_cons_succ]
  refine LooseD.reads (.pointer (some ⟨p, 2, none⟩)) rfl rfl ?_ ?_
  · intro w9 hw
    clear hw
    go_simp
  try simp only [Act.put, List.setIfInBounds_toArray, List.set_cons_zero, List.set_cons_succ]
  refine LooseD.reads (.string y2) rfl rfl ?_ ?_
  · intro w9 hw
    obtain ⟨-, -, g2⟩ := HCE.out w9 hw
    clear hw
    go_simp
  try simp only [Act.put, List.setIfInBounds_toArray, List.set_cons_zero, List.set_cons_succ]
  refine LooseD.gives (.string s2) 49 #[.string y2] rfl rfl ?_ (fun w9 hw hH => HP2.out w9) ?_
  · intro w9 hw
    clear hw
    go_simp
  try simp only [Act.put, List.setIfInBounds_toArray, List.set_cons_zero, List.set_cons_succ]
  refine LooseD.reads (.string s4) rfl rfl ?_ ?_
  · intro w9 hw
    clear hw
    go_simp
  try simp only [Act.put, List.setIfInBounds_toArray, List.set_cons_zero, List.set_cons_succ]
  refine LooseD.reads (.string s4) rfl rfl ?_ ?_
  · intro w9 hw
    clear hw
    go_simp
  try simp only [Act.put, List.setIfInBounds_toArray, List.set_cons_zero, List.set_cons_succ]
  refine LooseD.done ?_
  intro w7 hw7 _
  go_wp2_with fail
  refine bodyPost_ret (results_tmp rfl _ _ _) rfl ?_
  exact ⟨rfl, HB.out.trans (hw7.mono HB.out.size)⟩
end Go.Proofs.YtfeelmblnkpfdaaDoor.Ms
