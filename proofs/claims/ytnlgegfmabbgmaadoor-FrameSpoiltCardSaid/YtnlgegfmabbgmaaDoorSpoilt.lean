/-
  FrameSpoilt: of any body, at any place, turned by any four bytes, the call returns true: the frame is opened just where nothing was turned; cut off, or with something behind it, it isn't opened. For every text, place and number; the one listed variable, the table of the sum, is tied to the program's text by the card.
-/
import Derived.Test.YtnlgegfmabbgmaaDoorFrSpoil
import Derived.Test.YtnlgegfmabbgmaaDoorCards
import Derived.Test.YtnlgegfmabbgmaaDoorTie
import Derived.SevenTiedAt
namespace Go.Proofs.YtnlgegfmabbgmaaDoor.frameSpoilt
open Go.ChangeShapes Go.WideShapes Go.ChangeAt Go.RowKit
open Go.ChangeMaps (open_string shut_string)
open Crc (two)
open Oct (bs)
set_option linter.unusedVariables false

theorem walk_far (s : ByteArray) (at0 by0 : Int) (w : World) (hst : Crc.Steps w) (h0 : 0 < w.heap.size) (hs : 3000 < (s.size : Int)) :
    Calls Tryd.prog 5 #[.string s, .int .i64 at0, .int .u32 by0] w fun e w' => e = .returned (.bool true) ∧ Below w.heap.size w w' := by
  have KS := Lib.hid hst
  clear hst
  go_enter Tryd.func5, Tryd.ntmps5
  go_wp2_with fail
  refine (Crc.speaks_true _ KS.out h0).mono ?_
  rintro e w1 ⟨rfl, b1⟩
  go_wp2
  go_ret
  exact ⟨rfl, b1⟩

/-- The byte of a number that turns the k-th. -/
def turns (v : Nat) (k : Nat) : UInt8 := UInt8.ofNat (v / 256 ^ k)
theorem turns_eq (v k : Nat) : (v : Int) / 2 ^ (8 * k) % 256 = ((turns v k).toNat : Int) := by
  have h := Oct.u8v_ofNat v (v : Int) k rfl
  unfold Oct.u8v at h
  injection h

/-- The row of the bytes, whatever their capacity. -/
theorem bytesRow_eq (s : ByteArray) (cap : Nat) : bytesRow s cap = ((Oct.bs s).map Oct.u8v ++ List.replicate (cap - s.size) (Value.int .u8 0)).toArray := by
  unfold bytesRow
  apply Array.ext'
  simp [Oct.bs]
  exact fun _ _ => rfl

theorem row_sp (l : List UInt8) (A : Nat) (x : Nat → UInt8) (k : Nat) (rest : List Value) (h : A + k < l.length) (c xk : UInt8) (hc : c = l.getD (A + k) 0) (hx : xk = x k) :
    ((Crc.sp l A x k).map Oct.u8v ++ rest).set (A + k) (Value.int .u8 ((c.toNat ^^^ xk.toNat : Nat) : Int)) = (Crc.sp l A x (k + 1)).map Oct.u8v ++ rest := by
  rw [List.set_append_left _ _ (by rw [List.length_map, Crc.sp_len]; exact h), Crc.sp, List.map_set, ← hc, ← hx]
  congr 2

set_option maxRecDepth 100000 in
set_option maxHeartbeats 4000000 in
theorem walk_near (s : ByteArray) (at0 : Int) (by0 : Nat) (w : World) (hst : Crc.Steps w) (h0 : 0 < w.heap.size) (hs : (s.size : Int) ≤ 3000) :
    Calls Tryd.prog 5 #[.string s, .int .i64 at0, .int .u32 by0] w fun e w' => e = .returned (.bool true) ∧ Below w.heap.size w w' := by
  have KS := Lib.hid hst
  have hbl : (Oct.bs s).length ≤ 1048576 := by rw [Oct.bs_length]; omega
  obtain ⟨l, hl⟩ : ∃ l, l = Crc.wr (Oct.bs s) := ⟨_, rfl⟩
  obtain ⟨f, hf⟩ : ∃ f : ByteArray, f = ⟨l.toArray⟩ := ⟨_, rfl⟩
  have hbf : Oct.bs f = l := by rw [hf]
  have hll : l.length = f.size := by rw [← hbf, Oct.bs_length]
  have hfs : f.size ≤ 3012 := by rw [← hll, hl]; have := Crc.wr_le (Oct.bs s); rw [Oct.bs_length] at this; omega
  have hf5 : 4 ≤ f.size := by rw [← hll, hl, Crc.wr_len _ hbl]; omega
  have hf5' : 5 ≤ f.size := by
    rw [← hll, hl, Crc.wr_len _ hbl]
    have : 0 < (Oct.pb ((Oct.bs s).length : Int)).length := by rw [Oct.pb, if_neg (by omega)]; simp
    omega
  have H1 : ∀ W : World, Crc.Steps W → 0 < W.heap.size → Calls Tryd.prog 9 #[.string s] W fun e w' => e = .returned (.string f) ∧ Below W.heap.size W w' := fun W a b => by rw [hf, hl]; exact Crc.wrap_any _ W a b
  have K1 := Lib.hid H1
  -- the place
  obtain ⟨r, hr⟩ : ∃ r, Int.tmod at0 (f.size : Int) = r := ⟨_, rfl⟩
  have hr1 : -(f.size : Int) < r := by rw [← hr]; have := Int.lt_tmod_of_pos at0 (show (0 : Int) < f.size by omega); omega
  have hr2 : r < (f.size : Int) := by rw [← hr]; exact Int.tmod_lt_of_pos at0 (by omega)
  obtain ⟨A, hA⟩ : ∃ A : Nat, (r + (f.size : Int)) % (f.size : Int) = (A : Int) := ⟨((r + (f.size : Int)) % (f.size : Int)).toNat, by
    have := Int.emod_nonneg (r + (f.size : Int)) (show (f.size : Int) ≠ 0 by omega); omega⟩
  have hA2 : A < f.size := by
    have := Int.emod_lt_of_pos (r + (f.size : Int)) (show (0 : Int) < f.size by omega); omega
  have hcv := fun W : World => run_bytes_of_string (P := Tryd.prog) W 9 32 5 f Tryd.underlying9 Tryd.underlying32 Tryd.underlying5
  clear H1 hst
  have HL := Lib.hid hl
  have HF := Lib.hid hf
  have HBF := Lib.hid hbf
  have HLL := Lib.hid hll
  clear hl hf hbf hll
  go_enter Tryd.func5, Tryd.ntmps5
  go_wp2_with fail
  refine (Crc.speaks_true _ KS.out h0).mono ?_
  rintro e w1 ⟨rfl, b1⟩
  have h1 := Nat.lt_of_lt_of_le h0 b1.size
  go_wp2_with fail
  refine (K1.out _ (KS.out.of b1 h0) h1).mono ?_
  rintro e w2 ⟨rfl, b2'⟩
  have b2 := b1.trans (b2'.mono b1.size)
  clear b2'
  go_wp2_with fail
  simp only [hA]
  have HA := Lib.hid hA
  have HR := Lib.hid hr
  clear hA hr hr1 hr2 hcv
  obtain ⟨cap, hcap⟩ : ∃ cap, cap = grownCap w2 f.size 0 5 := ⟨_, rfl⟩
  rw [← hcap]
  clear hcap
  obtain ⟨x, hx⟩ : ∃ x, x = turns by0 := ⟨_, rfl⟩
  obtain ⟨fr, hfr⟩ : ∃ fr : Nat × Nat, fr = ((bytesRow f cap).size, (bytesRow f cap).size + 1) := ⟨_, rfl⟩
  have hfr1 : f.size ≤ fr.1 := by
    rw [hfr, bytesRow_eq]
    simp [Oct.bs]
  obtain ⟨rest, hrest⟩ : ∃ rest, bytesRow f cap = (l.map Oct.u8v ++ rest).toArray := ⟨_, by rw [bytesRow_eq, HBF.out]⟩
  rw [← hfr, hrest]
  obtain ⟨w3, hw3⟩ : ∃ w3, w3 = (w2.alloc (.cells (l.map Oct.u8v ++ rest).toArray 5 fr)).drew := ⟨_, rfl⟩
  have hrow0 : w3.heap[w2.heap.size]? = some (.cells (l.map Oct.u8v ++ rest).toArray 5 fr) := by
    rw [hw3]; exact heap_alloc_new w2 _
  have b3 : Below w.heap.size w w3 := by
    rw [hw3]; exact ((b2.alloc b2.size _).drew)
  have hB : w.heap.size ≤ w2.heap.size := b2.size
  obtain ⟨B, hBB⟩ : ∃ B, B = w2.heap.size := ⟨_, rfl⟩
  rw [← hw3]
  rw [← hBB] at hrow0 hB ⊢
  clear hw3 hfr hrest hBB b2 h1 b1
  have HROW0 := Lib.hid hrow0
  have HX := Lib.hid hx
  clear hrow0 hx
  go_loopw [9, 10, 11] (fun ch i _ wr => ∃ k : Nat, k ≤ 4 ∧ A + k ≤ f.size ∧ i = .int .i64 k ∧ ch = .bool (Crc.chg x k) ∧ wr.heap[B]? = some (.cells ((Crc.sp l A x k).map Oct.u8v ++ rest).toArray 5 fr) ∧ Below w.heap.size w wr) (fun _ i _ _ => 4 - (intOf i).toNat)
  case atStart => exact ⟨0, by omega, by omega, rfl, rfl, HROW0.out, b3⟩
  case round =>
    obtain ⟨k, hk, hkA, rfl, rfl, hrow, hbel⟩ := hrel
    obtain ⟨cb, hcb⟩ : ∃ cb, cb = Crc.chg x k := ⟨_, rfl⟩
    rw [← hcb]
    by_cases hgo : k < 4 ∧ A + k < f.size
    · obtain ⟨hk4, hkf⟩ := hgo
      have hkl : A + k < l.length := by rw [HLL.out]; exact hkf
      obtain ⟨c, hc⟩ : ∃ c, c = l.getD (A + k) 0 := ⟨_, rfl⟩
      have hget : ((Crc.sp l A x k).map Oct.u8v ++ rest)[A + k]? = some (.int .u8 (c.toNat : Int)) := by
        rw [List.getElem?_append_left (by rw [List.length_map, Crc.sp_len]; exact hkl), List.getElem?_map, Crc.sp_at l A x k hkl, ← hc]; rfl
      have hcell : wr.cell? ⟨B, A + k, none⟩ = some (.int .u8 (c.toNat : Int)) := by
        rw [cell_of_row _ _ _ _ _ _ hrow, List.getElem?_toArray, hget]
      have hfz : wr.frozen? ⟨B, A + k, none⟩ = false := by simp [World.frozen?, hrow]; omega
      have hxk := turns_eq by0 k
      rw [← HX.out] at hxk
      obtain ⟨xk, hxx⟩ : ∃ xk, xk = x k := ⟨_, rfl⟩
      rw [← hxx] at hxk
      have hc2 := c.toNat_lt
      have hx2 := xk.toNat_lt
      have hxor := u8_xor_nat c.toNat xk.toNat (by omega) (by omega)
      have hg1 : (k : Int) < (f.size : Int) - (A : Int) := by omega
      have hnew := row_sp l A x k rest hkl c xk hc hxx
      have hch : Crc.chg x (k + 1) = (cb || (xk != 0)) := by rw [Crc.chg, ← hcb, ← hxx]
      have HROW := Lib.hid hrow
      have HNEW := Lib.hid hnew
      have HCH := Lib.hid hch
      clear hrow hget hc hxx hcb hnew hch
      obtain ⟨d, hd⟩ : ∃ d : Nat, d = c.toNat ^^^ xk.toNat := ⟨_, rfl⟩
      rw [← hd] at hxor HNEW
      clear hd
      cases cb
      · by_cases hz : xk = 0
        · have t1 : ((xk.toNat : Int) == 0) = true := by rw [hz]; rfl
          have t2 : ((xk.toNat : Int) != 0) = false := by rw [hz]; rfl
          have HZ := Lib.hid hz
          clear hz
          go_wp2
          go_roundw
          case rel =>
            refine ⟨k + 1, by omega, by omega, by go_num, ?_, ?_, hbel.setCell hB _⟩
            · rw [HCH.out, HZ.out]; rfl
            · have hrow := HROW.out
              rw [← HNEW.out]
              simp [World.setCell, Array.getElem?_modify, hrow]
          case measure => simp [intOf]; omega
        · have hz' : xk.toNat ≠ 0 := fun h => hz (UInt8.toNat_inj.1 h)
          have t1 : ((xk.toNat : Int) == 0) = false := by rw [beq_eq_false_iff_ne]; omega
          have t2 : ((xk.toNat : Int) != 0) = true := by rw [bne_iff_ne]; omega
          have t3 : (false || (xk != 0)) = true := by simpa using hz
          have HT := Lib.hid t3
          clear hz hz' t3
          go_wp2
          go_roundw
          case rel =>
            refine ⟨k + 1, by omega, by omega, by go_num, ?_, ?_, hbel.setCell hB _⟩
            · rw [HCH.out, HT.out]
            · have hrow := HROW.out
              rw [← HNEW.out]
              simp [World.setCell, Array.getElem?_modify, hrow]
          case measure => simp [intOf]; omega
      · go_wp2
        go_roundw
        case rel =>
          refine ⟨k + 1, by omega, by omega, by go_num, ?_, ?_, hbel.setCell hB _⟩
          · rw [HCH.out]; rfl
          · have hrow := HROW.out
            rw [← HNEW.out]
            simp [World.setCell, Array.getElem?_modify, hrow]
        case measure => simp [intOf]; omega
    · have hlen := Crc.sp_len l A x k
      obtain ⟨g, hg⟩ : ∃ g : ByteArray, g = ⟨(Crc.sp l A x k).toArray⟩ := ⟨_, rfl⟩
      have hcv : (convert 32 9 (.slice (some ⟨B, 0, none⟩) f.size cap)).run Tryd.prog wr = .ok (.string g) wr := by
        have := run_convert_bytes_back (P := Tryd.prog) wr 32 9 5 ⟨B, 0, none⟩ cap (Crc.sp l A x k) Tryd.underlying32 Tryd.underlying5 Tryd.underlying9 (fun j hj => by
          have e : (⟨B, 0, none⟩ : Addr).add j = ⟨B, j, none⟩ := by unfold Addr.add; split <;> simp_all
          rw [e, cell_of_row _ _ _ _ _ _ hrow, List.getElem?_toArray, List.getElem?_append_left (by rw [List.length_map]; exact hj), List.getElem?_map, List.getElem?_eq_getElem hj]
          rfl)
        rw [hlen, HLL.out] at this
        rw [hg]; exact this
      have hgs : g.size ≤ 3012 := by rw [hg, Crc.size_mk, hlen, HLL.out]; exact hfs
      -- what is cut off, and what has something behind it
      have hAl : A < l.length := by rw [HLL.out]; exact hA2
      obtain ⟨a, ha⟩ : ∃ a, a = f.extract 0 A := ⟨_, rfl⟩
      have s1 : ∀ W : World, (Instr.slice 9 (.string f) none (some (.int .i64 (A : Int))) none).run Tryd.prog W = .ok (.string a) W := fun W => by rw [ha]; exact Crc.sl_h f A (by omega) W
      have has : a.size ≤ 3012 := by rw [← Oct.bs_length, ha, Crc.bs_take, List.length_take, Oct.bs_length]; omega
      have H5 : ∀ W : World, Crc.Steps W → Calls Tryd.prog 10 #[.string a] W fun e w' => e = .returned (.tuple #[.string ⟨#[]⟩, .int .i64 3]) ∧ Below W.heap.size W w' := fun W y => by
        have h5 := Crc.open_any a W (by omega) y
        rw [ha, Crc.bs_take, HBF.out, HL.out, Crc.op_cut _ hbl A (by rw [← HL.out]; exact hAl)] at h5
        rw [ha]; exact h5
      obtain ⟨J, hJ⟩ : ∃ J : Nat, 1 + (A : Int) % 4 = (J : Int) := ⟨1 + A % 4, by omega⟩
      have hJ1 : 1 ≤ J := by omega
      have hJ4 : J ≤ 4 := by omega
      obtain ⟨b, hb⟩ : ∃ b, b = f.extract 0 J := ⟨_, rfl⟩
      have s2 : ∀ W : World, (Instr.slice 9 (.string f) none (some (.int .i64 (J : Int))) none).run Tryd.prog W = .ok (.string b) W := fun W => by rw [hb]; exact Crc.sl_h f J (by omega) W
      have hbl2 : (Oct.bs b).length = J := by rw [hb, Crc.bs_take, List.length_take, Oct.bs_length]; omega
      have hbs : b.size ≤ 4 := by rw [← Oct.bs_length, hbl2]; exact hJ4
      have hcat : bs (f ++ b) = Crc.wr (Oct.bs s) ++ Oct.bs b := by rw [← HL.out, ← HBF.out]; simp [Oct.bs]
      have hsz : (f ++ b).size = f.size + b.size := by simp
      have H6 : ∀ W : World, Crc.Steps W → Calls Tryd.prog 10 #[.string (f ++ b)] W fun e w' => e = .returned (.tuple #[.string ⟨#[]⟩, .int .i64 4]) ∧ Below W.heap.size W w' := fun W y => by
        have h6 := Crc.open_any (f ++ b) W (by omega) y
        rw [hcat, Crc.op_tail _ _ hbl (by omega)] at h6
        exact h6
      have hc1 : ¬ 9223372036854775807 < f.size + b.size := by omega
      have hAi : (A : Int) < (f.size : Int) := by omega
      have hmA : A + k ≤ (Crc.wr (Oct.bs s)).length := by rw [← HL.out, HLL.out]; exact hkA
      have H4 : ∀ W : World, Crc.Steps W → Calls Tryd.prog 10 #[.string g] W fun e w' => e = two (Crc.op (Crc.sp l A x k)) ∧ Below W.heap.size W w' := fun W y => by
        have h4 := Crc.open_any g W (by omega) y
        rw [hg, Crc.bs_mk] at h4
        rw [hg]; exact h4
      have K5 := Lib.hid H5
      have K6 := Lib.hid H6
      have hexit : k < 4 → ¬ ((k : Int) < (f.size : Int) - (A : Int)) := fun h => by omega
      clear H5 H6 ha hb hbl2 hcat hsz hrow hg hgo hAl has
      cases cb
      · have hsame := Crc.sp_same l A x k (Crc.chg_false hcb.symm)
        rw [hsame, HL.out, Crc.op_wr _ hbl] at H4
        have H4' : ∀ W : World, Crc.Steps W → Calls Tryd.prog 10 #[.string g] W fun e w' => e = .returned (.tuple #[.string s, .int .i64 0]) ∧ Below W.heap.size W w' := H4
        have K4 := Lib.hid H4'
        clear H4 H4' hsame hmA hcb hlen
        by_cases hk4 : k < 4
        · have hx4 := hexit hk4
          clear hexit
          go_wp2_with fail
          refine (K4.out _ (KS.out.of hbel h0)).mono ?_
          rintro e w5 ⟨rfl, b5'⟩
          have b5 := hbel.trans (b5'.mono hbel.size)
          clear b5'
          go_wp2_with fail
          refine (K5.out _ (KS.out.of b5 h0)).mono ?_
          rintro e w6 ⟨rfl, b6'⟩
          have b6 := b5.trans (b6'.mono b5.size)
          clear b6'
          go_wp2_with fail
          refine (K6.out _ (KS.out.of b6 h0)).mono ?_
          rintro e w7 ⟨rfl, b7'⟩
          have b7 := b6.trans (b7'.mono b6.size)
          clear b7'
          go_wp2
          go_ret
          exact ⟨rfl, b7⟩
        · clear hexit
          go_wp2_with fail
          refine (K4.out _ (KS.out.of hbel h0)).mono ?_
          rintro e w5 ⟨rfl, b5'⟩
          have b5 := hbel.trans (b5'.mono hbel.size)
          clear b5'
          go_wp2_with fail
          refine (K5.out _ (KS.out.of b5 h0)).mono ?_
          rintro e w6 ⟨rfl, b6'⟩
          have b6 := b5.trans (b6'.mono b5.size)
          clear b6'
          go_wp2_with fail
          refine (K6.out _ (KS.out.of b6 h0)).mono ?_
          rintro e w7 ⟨rfl, b7'⟩
          have b7 := b6.trans (b7'.mono b6.size)
          clear b7'
          go_wp2
          go_ret
          exact ⟨rfl, b7⟩
      · have hno := Crc.spoilt (Oct.bs s) hbl A x k hk hmA hcb.symm
        rw [← HL.out] at hno
        have hnil := Crc.op_none _ hno
        obtain ⟨e4, he4⟩ : ∃ e4, e4 = (Crc.op (Crc.sp l A x k)).2 := ⟨_, rfl⟩
        have H4' : ∀ W : World, Crc.Steps W → Calls Tryd.prog 10 #[.string g] W fun e w' => e = .returned (.tuple #[.string ⟨#[]⟩, .int .i64 e4]) ∧ Below W.heap.size W w' := fun W y => by
          have := H4 W y
          rw [two, hnil, ← he4] at this
          exact this
        rw [← he4] at hno
        have t1 : ((e4 : Int) == 0) = false := by rw [beq_eq_false_iff_ne]; omega
        have K4 := Lib.hid H4'
        clear H4 H4' hnil hno he4 hmA hcb hlen
        by_cases hk4 : k < 4
        · have hx4 := hexit hk4
          clear hexit
          go_wp2_with fail
          refine (K4.out _ (KS.out.of hbel h0)).mono ?_
          rintro e w5 ⟨rfl, b5'⟩
          have b5 := hbel.trans (b5'.mono hbel.size)
          clear b5'
          go_wp2_with fail
          refine (K5.out _ (KS.out.of b5 h0)).mono ?_
          rintro e w6 ⟨rfl, b6'⟩
          have b6 := b5.trans (b6'.mono b5.size)
          clear b6'
          go_wp2_with fail
          refine (K6.out _ (KS.out.of b6 h0)).mono ?_
          rintro e w7 ⟨rfl, b7'⟩
          have b7 := b6.trans (b7'.mono b6.size)
          clear b7'
          go_wp2
          go_ret
          exact ⟨rfl, b7⟩
        · clear hexit
          go_wp2_with fail
          refine (K4.out _ (KS.out.of hbel h0)).mono ?_
          rintro e w5 ⟨rfl, b5'⟩
          have b5 := hbel.trans (b5'.mono hbel.size)
          clear b5'
          go_wp2_with fail
          refine (K5.out _ (KS.out.of b5 h0)).mono ?_
          rintro e w6 ⟨rfl, b6'⟩
          have b6 := b5.trans (b6'.mono b5.size)
          clear b6'
          go_wp2_with fail
          refine (K6.out _ (KS.out.of b6 h0)).mono ?_
          rintro e w7 ⟨rfl, b7'⟩
          have b7 := b6.trans (b7'.mono b6.size)
          clear b7'
          go_wp2
          go_ret
          exact ⟨rfl, b7⟩

theorem u32_nat {n : Int} (h : (Lit.int .u32 n).wf = true) : ∃ m : Nat, n = (m : Int) := by
  refine ⟨n.toNat, ?_⟩
  simp [Lit.wf, IntKind.min, IntKind.max, IntKind.signed, IntKind.bits] at h
  omega

theorem walk (s : ByteArray) (at0 by0 : Int) (w2 : (Lit.int .u32 by0).wf = true) (w : World) (hst : Crc.Steps w) (h0 : 0 < w.heap.size) :
    Calls Tryd.prog 5 #[.string s, .int .i64 at0, .int .u32 by0] w fun e w' => e = .returned (.bool true) ∧ Below w.heap.size w w' := by
  by_cases h : 3000 < (s.size : Int)
  · exact walk_far s at0 by0 w hst h0 h
  · obtain ⟨m, rfl⟩ := u32_nat w2
    exact walk_near s at0 m w hst h0 (by omega)

set_option maxRecDepth 100000 in
theorem lifted (os : Os) (started : os.Started) (H : Type) (enc : TypeId × Value → H) :
    ReturnsInHanded {} Tryd.checked os 5 .any (fun w args => (Rows.frameSpoiltSpec.pre enc Tryd.prog Tryd.f5 [] false w args ∧ laidMetH Tryd.prog Crc.laidL w) ∧ sizedMet enc Tryd.prog Tryd.f5 (OpenSpec.ofChange Rows.frameSpoiltSpec) false w args)
      (Rows.frameSpoiltSpec.post enc Tryd.prog Tryd.f5 false true false false) := by
  refine returnsInHanded_of_change_and (C := Tryd.checked) (X := fun w _ => laidMetH Tryd.prog Crc.laidL w) (fun _ _ _ hh h => h.of_heap hh) Crc.own started (by kernel_rfl) Tryd.func5
    (ChangeSpec.witness_shaped (enc := enc) (C := Tryd.checked) (os := os) (X := fun w _ => laidMetH Tryd.prog Crc.laidL w) false (World.doorLaid Tryd.prog 400 os) #[.string ByteArray.empty, .int .i64 0, .int .u32 0] 8 rfl (World.shaped_of_RefB (by kernel_rfl) (by kernel_rfl)) (by kernel_rfl) (by kernel_rfl) (by kernel_rfl) (Crc.door_met os _)) ?_
  intro W base args ds gs before hval0 hW _ _ hL _
  have hval : ∀ (j : Nat) t v, Tryd.f5.params[j]? = some t → args[j]? = some v → Value.okWide Tryd.prog W .any base t v := hval0
  have hW' := hW
  obtain ⟨p, q, hA0, hV, rfl, hfz, hnd⟩ := hW
  have hA : DataW.TrodAll enc Tryd.prog W 0 (fun _ => true) true Tryd.f5.params.toList args.toList ds p := hA0
  rw [Tryd.params5] at hA hval
  obtain ⟨v0, vs0, d0, ds0, p0, q0, hargs, rfl, rfl, h0, r0⟩ := trodAll_cons hA
  obtain ⟨v1, vs1, d1, ds1, p1, q1, rfl, rfl, rfl, h1, r1⟩ := trodAll_cons r0
  obtain ⟨v2, vs2, d2, ds2, p2, q2, rfl, rfl, rfl, h2, r2⟩ := trodAll_cons r1
  obtain ⟨rfl, rfl, rfl⟩ := trodAll_nil r2
  obtain rfl : args = #[v0, v1, v2] := by cases args; simp_all
  obtain ⟨rfl, rfl⟩ := trodVars_none hV
  obtain ⟨a0, rfl, rfl, rfl, w0⟩ := open_string Tryd.underlying9 (hval 0 9 v0 rfl rfl) h0
  obtain ⟨a1, rfl, rfl, rfl, w1⟩ := open_int Tryd.underlying3 (hval 1 3 v1 rfl rfl) h1
  obtain ⟨a2, rfl, rfl, rfl, w2⟩ := open_int Tryd.underlying27 (hval 2 27 v2 rfl rfl) h2
  obtain ⟨hst, hsz⟩ := Crc.of_laid hL
  clear hA0 hval0
  refine (walk a0 a1 a2 w2 W hst hsz).mono fun e W' ⟨he, bel⟩ => ?_
  subst he
  exact ⟨_, rfl, _, _, _, [], _, [], hW', trodAll_mk1 (shut_bool Tryd.underlying4 _), (trodAll_cons_mk (shut_string Tryd.underlying9 w0) (trodAll_cons_mk (shut_int Tryd.underlying3 w1) (trodAll_cons_mk (shut_int Tryd.underlying27 w2) trodAll_mk0))), rfl, bel.frame _, fun h => by cases h⟩

theorem over : Rows.FrameSpoiltSaid :=
  OpenClaim.holds_of_wide 5 Tryd.f5 rfl rfl rfl rfl rfl rfl rfl ⟨rfl, rfl, rfl, rfl, rfl⟩ rfl rfl rfl rfl rfl (by kernel_rfl) Tryd.func5 (by kernel_rfl)
    (of_decide_eq_true (by kernel_rfl)) (by unfold Func.isWrapper; first | (rw [if_pos (by decide +kernel)]; kernel_rfl) | (rw [if_neg (by decide +kernel)]; exact ⟨rfl, rfl⟩))
    (fun os started H enc _ => lifted os started H enc)

theorem proved : Rows.FrameSpoiltCardSaid :=
  Claim7.holds_tied_plain_at .later [] Rows.frameSpoiltCard.laidKinds true Rows.frameSpoiltCard.stood.harness false
    over (fun _ h => by cases h) (by kernel_rfl) (fun _ h => by cases h) frameSpoilt_row_tie rfl ⟨rfl, rfl⟩ (by kernel_rfl) rfl
    (fun f fn hf hfn => by
      obtain rfl : f = 5 := Option.some.inj ((show Tryd.prog.funcNamed "primer/primerlaw03.FrameSpoilt" = some 5 by kernel_rfl).symm.trans hf) |>.symm
      obtain rfl : fn = Tryd.f5 := (Option.some.inj (Tryd.func5.symm.trans hfn)).symm
      exact ⟨by kernel_rfl, fun j t ht => by
        rw [Tryd.params5] at ht
        have hm : t ∈ [9, 3, 27] := by simpa using Array.mem_of_getElem? ht
        have hall : ([9, 3, 27].all fun u => !Tryd.prog.wantsStandIn u) = true := by kernel_rfl
        exact (show Tryd.prog.wantsStandIn t = false by simpa using List.all_eq_true.1 hall t hm)⟩)
    (by kernel_rfl)
#print axioms proved
end Go.Proofs.YtnlgegfmabbgmaaDoor.frameSpoilt
