/-
  The walk of literal.
-/
import Derived.Test.YtakihbjfkpebcaaLxLit
import Derived.Deep.RegionWith
import Derived.Maps.AppendAt
namespace Go.Proofs.Ytakihbjfkpebcaa.Lx
open Go.RowKit
set_option maxRecDepth 100000

/-- How far a literal is read, behind its first byte: the text T, m bytes of it taken, acc gathered. -/
def LitAt (q : UInt8) (T : ByteArray) (g line col B : Nat) (w : World) (s : World) (v : Value) : Prop :=
  ∃ (m f : Nat) (A : Option Addr) (cap : Nat) (acc : List UInt8), v = .slice A acc.length cap ∧ m ≤ T.size ∧ T.size < m + f ∧ acc.length ≤ m ∧
    rlit q (T.size + 1) (bs T) = ((rlit q f (bs (cut T m))).1.map (acc ++ ·), m + (rlit q f (bs (cut T m))).2) ∧
    s.ownsRow B 5 1 (.slice A acc.length cap) acc.length (acc.map u8v) ∧ Sc s g (cut T m) line (col + m) ∧ Sep g B w s

theorem lit_next {q : UInt8} {T : ByteArray} {g line col B : Nat} {w w2 w4 : World} {v' : Value} {A : Option Addr} {cap : Nat} {acc : List UInt8} (c : UInt8) (m f : Nat) (o : Obj)
    (hm : m ≤ T.size) (hf : T.size < m + f) (ha : acc.length + 1 ≤ m)
    (hr : rlit q (T.size + 1) (bs T) = ((rlit q f (bs (cut T m))).1.map ((acc ++ [c]) ++ ·), m + (rlit q f (bs (cut T m))).2))
    (hown : w2.ownsRow B 5 1 (.slice A acc.length cap) acc.length (acc.map u8v)) (hsc : Sc w2 g (cut T m) line (col + m)) (hsep : Sep g B w w2) (hB : B ≤ w2.heap.size)
    (hown4 : w4.ownsRow B 5 1 v' (acc.length + 1) (acc.map u8v ++ [u8v c])) (hgrow : (w2.alloc o).grownBy w4 (Value.slice A acc.length cap).ownBlock) :
    LitAt q T g line col B w w4 v' ∧ leftOf w4 g = T.size - m := by
  obtain ⟨A', cap', rfl⟩ := slice_of hown4
  have hlt := heap_lt hsc
  have h1 : (w2.alloc o).heap[g]? = w2.heap[g]? := ((Below.refl w2.heap.size w2).alloc (Nat.le_refl _) o).block g hlt
  have hsc4 : Sc w4 g (cut T m) line (col + m) := grown_keeps hgrow (hown.alloc o) (h1.trans hsc) (by decide)
  refine ⟨⟨m, f, A', cap', acc ++ [c], by simp, hm, hf, by simpa using ha, hr, ?_, hsc4, ?_⟩, by rw [leftOf_is hsc4, cut_size]⟩
  · simpa using hown4
  · exact (hsep.alloc hB o).grown hgrow (by simp; omega) (own_block hown)

theorem map_snoc (x : Option (List UInt8)) (acc : List UInt8) (c : UInt8) : (x.map (c :: ·)).map (acc ++ ·) = x.map ((acc ++ [c]) ++ ·) := by
  cases x <;> simp

set_option maxRecDepth 100000 in
set_option maxHeartbeats 2000000 in
theorem literal_any (g : Nat) (t : ByteArray) (line col : Nat) (w : World) (h : Sc w g t line col) (hp : 0 < t.size) (hs : t.size ≤ 1048576) (hc : col < 4611686018000000000) :
    Calls Try.prog 64 #[.pointer (some ⟨g, 0, none⟩)] w (fun e w' =>
      e = .returned (.tuple #[.string ⟨((rlit t[0] ((cut t 1).size + 1) (bs (cut t 1))).1.getD []).toArray⟩, .bool (rlit t[0] ((cut t 1).size + 1) (bs (cut t 1))).1.isSome]) ∧
      Sc w' g (cut (cut t 1) (rlit t[0] ((cut t 1).size + 1) (bs (cut t 1))).2) line (col + 1 + (rlit t[0] ((cut t 1).size + 1) (bs (cut t 1))).2) ∧ Sep g w.heap.size w w') := by
  obtain ⟨i0, hi0, hz0, hz1, hz2⟩ := info_parts u8info
  obtain ⟨q, hq⟩ : ∃ q, q = t[0] := ⟨_, rfl⟩
  obtain ⟨T, hT⟩ : ∃ T, T = cut t 1 := ⟨_, rfl⟩
  have hTs : T.size ≤ 1048576 := by rw [hT, cut_size]; omega
  have KT := take_any g t line col 1 w h (by omega) (by omega)
  rw [head_one t hp, ← hq, ← hT] at KT
  rw [← hq, ← hT]
  obtain ⟨R, hR⟩ : ∃ R, R = rlit q (T.size + 1) (bs T) := ⟨_, rfl⟩
  rw [← hR]
  have KK := Lib.hid KT
  have HR := Lib.hid hR
  have hqc : (⟨#[q]⟩ : ByteArray)[0]'(by show 0 < 1; omega) = q := rfl
  clear h hT KT hq hR
  go_enter Try.func64, Try.ntmps64
  go_wp2_with fail
  refine KK.out.mono ?_
  rintro e w1 ⟨rfl, s1, s2⟩
  go_wp2
  go_loopw [5] (fun v wr => LitAt q T g line (col + 1) w.heap.size w wr v) (fun _ wr => leftOf wr g)
  case atStart =>
    refine ⟨0, T.size + 1, none, 0, [], rfl, by omega, by omega, by simp, ?_, World.ownsRow_nil _ _ _ _, ?_, s2⟩
    · rw [cut_zero]
      simp
    · rw [cut_zero]; exact s1
  case round =>
    obtain ⟨m, f, A, cap, acc, rfl, hm, hf, ha, hrl, hown, hsc, hsep⟩ := hrel
    obtain ⟨f, rfl⟩ : ∃ k, f = k + 1 := ⟨f - 1, by omega⟩
    obtain ⟨X, hX⟩ : ∃ X, X = cut T m := ⟨_, rfl⟩
    have hXs : X.size = T.size - m := by rw [hX, cut_size]
    rw [← HR.out, ← hX] at hrl
    rw [← hX] at hsc
    have hlf := leftOf_is hsc
    have c0 : wr.cell? ⟨g, 0, none⟩ = some (.string X) := cell_of_row wr g 0 _ _ (0, 0) hsc
    have hwr := hsep.size
    have HO := Lib.hid hown
    have HSc := Lib.hid hsc
    have HS := Lib.hid hsep
    clear hown hsc hsep
    by_cases hx0 : X.size = 0
    · rw [rlit_nil q _ X hx0] at hrl
      have HRL := Lib.hid hrl
      have HX := Lib.hid hX
      have hxe := empty_of hx0
      rw [hxe] at c0
      clear hrl hX
      go_wp2
      go_ret2
      rw [HRL.out]
      refine ⟨rfl, ?_, HS.out⟩
      show Sc wr g (cut T (m + 0)) _ (col + 1 + (m + 0))
      rw [Nat.add_zero, ← HX.out]; exact HSc.out
    · have hxp : 0 < X.size := by omega
      have he := nempty hxp
      rw [rlit_step q f X hxp] at hrl
      have HRL := Lib.hid hrl
      have HX := Lib.hid hX
      have KP := Lib.hid (plain_any X[0].toNat)
      have KX := Lib.hid (take_any g X line (col + 1 + m) 1 wr HSc.out (by omega) (by omega))
      rw [head_one X hxp] at KX
      clear hrl hX
      cases hpl : plainN X[0].toNat
      · go_wp2_with fail
        refine (KP.out _).mono ?_
        rintro e w2 ⟨rfl, rfl⟩
        rw [hpl]
        go_wp2
        go_ret2
        have hrl := HRL.out
        rw [if_pos hpl] at hrl
        rw [hrl]
        refine ⟨rfl, ?_, HS.out⟩
        show Sc wr g (cut T (m + 0)) _ (col + 1 + (m + 0))
        rw [Nat.add_zero, ← HX.out]; exact HSc.out
      · have hrl1 := HRL.out
        rw [if_neg (by rw [hpl]; simp)] at hrl1
        clear HRL
        have HRL := Lib.hid hrl1
        clear hrl1
        by_cases hxq : X[0] = q
        · rw [hxq] at KX KP hpl
          go_wp2_with fail
          refine (KP.out _).mono ?_
          rintro e w2 ⟨rfl, rfl⟩
          rw [hpl]
          go_wp2_with fail
          refine KX.out.mono ?_
          rintro e w2 ⟨rfl, s3, s4⟩
          have hcv := own_string w2 _ A cap acc (s4.own HO.out HSc.out (by decide))
          have hrl := HRL.out
          rw [if_pos hxq] at hrl
          have HF := Lib.hid hrl
          have hs24 := HS.out.trans (s4.mono hwr)
          clear hrl s4
          go_wp2
          go_ret2
          rw [HF.out]
          refine ⟨by simp, ?_, hs24⟩
          rw [HX.out, cut_cut] at s3
          show Sc w2 g (cut T (m + 1)) _ (col + 1 + (m + 1))
          rw [show col + 1 + (m + 1) = col + 1 + m + 1 by omega]
          exact s3
        · have hrl1 := HRL.out
          rw [if_neg hxq] at hrl1
          clear HRL
          have HRL := Lib.hid hrl1
          clear hrl1
          have hne : (X[0].toNat : Int) ≠ q.toNat := fun e => hxq (UInt8.toNat_inj.mp (by omega))
          have hqx : ((X[0].toNat : Int) == q.toNat) = false := by rw [beq_eq_false_iff_ne]; exact hne
          have hbx : (⟨#[X[0]]⟩ : ByteArray)[0]'(by show 0 < 1; omega) = X[0] := rfl
          clear hxq
          go_wp2_with fail
          refine (KP.out _).mono ?_
          rintro e w2 ⟨rfl, rfl⟩
          rw [hpl]
          go_wp2_with fail
          refine KX.out.mono ?_
          rintro e w2 ⟨rfl, s3, s4⟩
          have hs24 := HS.out.trans (s4.mono hwr)
          have hown2 := s4.own HO.out HSc.out (by decide)
          have HO2 := Lib.hid hown2
          have HS2 := Lib.hid hs24
          have hw2 := hs24.size
          have HS3 := Lib.hid s3
          clear hs24 hown2 s4 s3
          by_cases h92 : X[0].toNat = 92
          · have hrl := HRL.out
            rw [if_pos h92] at hrl
            have hpe := resc_lt (bs (cut X 1))
            have hpl2 := resc_le (bs (cut X 1))
            rw [bs_len, cut_size] at hpl2
            have KE : ∀ W, Sc W g (cut X 1) line (col + 1 + m + 1) → Calls Try.prog 85 #[.pointer (some ⟨g, 0, none⟩)] W (Took W g (cut X 1) line (col + 1 + m + 1) (.tuple #[.int .u8 ((resc (bs (cut X 1))).1 : Nat), .bool (resc (bs (cut X 1))).2.1]) (resc (bs (cut X 1))).2.2) := fun W hW => escape_any g (cut X 1) line (col + 1 + m + 1) W hW (by omega)
            obtain ⟨p, hpp⟩ : ∃ p, p = resc (bs (cut X 1)) := ⟨_, rfl⟩
            rw [← hpp] at hrl hpe hpl2 KE
            have HF := Lib.hid hrl
            have KE1 := Lib.hid KE
            have h92i : (X[0].toNat : Int) = 92 := by omega
            have hq92 : ((92 : Int) == q.toNat) = false := by rw [← h92i]; exact hqx
            clear hrl HRL KE hpp
            go_wp2_with fail
            refine (KE1.out _ HS3.out).mono ?_
            rintro e w3 ⟨rfl, s5, s6⟩
            rw [cut_cut] at s5
            have hown3 := s6.own HO2.out HS3.out (by decide)
            have HO3 := Lib.hid hown3
            have HS4 := Lib.hid (HS2.out.trans (s6.mono hw2))
            have hw3 := Nat.le_trans hw2 s6.size
            have HS5 := Lib.hid s5
            clear s5 s6 hown3
            cases hok : p.2.1
            · go_wp2
              go_ret2
              have e := HF.out
              rw [if_neg (by rw [hok]; simp)] at e
              rw [e]
              refine ⟨rfl, ?_, HS4.out⟩
              have hs5 := HS5.out
              rw [HX.out, cut_cut] at hs5
              show Sc w3 g (cut T (m + (1 + p.2.2))) _ (col + 1 + (m + (1 + p.2.2)))
              rw [show col + 1 + (m + (1 + p.2.2)) = col + 1 + m + 1 + p.2.2 by omega]
              exact hs5
            · go_wp2_with ((at_builtin; refine wpList_append_own _ rfl _ _ 148 rfl w.heap.size 5 i0 (.int .u8 0) 1 1 Try.underlying148 hi0 hz0 hz1 hz2 rfl (by decide) _ _ _ rfl (HO3.out.alloc _) ⟨w3.heap.size, 0, none⟩ 1 1 [.int .u8 p.1] rfl rfl ?c1 ?c2 ?c3 ?c4 ?c5 ?_))
              case c1 => exact cell_one_new _ _ _
              case c2 => simp [Value.oneCell']
              case c3 => unfold maxLen; omega
              case c4 => omega
              case c5 => simp; omega
              intro v' w4 hown4 hgrow4 _
              have HO4 := Lib.hid hown4
              have HG4 := Lib.hid hgrow4
              clear hown4 hgrow4
              go_wp2
              have hfin : LitAt q T g line (col + 1) w.heap.size w w4 v' ∧ leftOf w4 g = T.size - (m + (1 + p.2.2)) := by
                have hs3 := HS5.out
                rw [HX.out, cut_cut, show col + 1 + m + 1 + p.2.2 = col + 1 + (m + (1 + p.2.2)) by omega] at hs3
                refine lit_next (UInt8.ofNat p.1) (m + (1 + p.2.2)) f _ (by omega) (by omega) (by omega) ?_ HO3.out hs3 HS4.out hw3 (by rw [u8v_of _ hpe]; exact HO4.out) HG4.out
                have e := HF.out
                rw [if_pos hok, map_snoc] at e
                have e2 : bs (cut X (1 + p.2.2)) = bs (cut T (m + (1 + p.2.2))) := by rw [HX.out, cut_cut]
                rw [e2] at e
                rw [← HR.out, e, ← Nat.add_assoc m (1 + p.2.2)]
              exact ⟨hfin.1, by rw [hfin.2, hlf]; omega⟩
          · have hrl := HRL.out
            rw [if_neg h92] at hrl
            have HF := Lib.hid hrl
            have h92' : ((X[0].toNat : Int) == 92) = false := by rw [beq_eq_false_iff_ne]; omega
            clear hrl HRL
            go_wp2_with ((at_builtin; refine wpList_append_own _ rfl _ _ 148 rfl w.heap.size 5 i0 (.int .u8 0) 1 1 Try.underlying148 hi0 hz0 hz1 hz2 rfl (by decide) _ _ _ rfl (HO2.out.alloc _) ⟨w2.heap.size, 0, none⟩ 1 1 [.int .u8 X[0].toNat] rfl rfl ?c1 ?c2 ?c3 ?c4 ?c5 ?_))
            case c1 => exact cell_one_new _ _ _
            case c2 => simp [Value.oneCell']
            case c3 => unfold maxLen; omega
            case c4 => omega
            case c5 => simp; omega
            intro v' w4 hown4 hgrow4 _
            have HO4 := Lib.hid hown4
            have HG4 := Lib.hid hgrow4
            clear hown4 hgrow4
            go_wp2
            have hfin : LitAt q T g line (col + 1) w.heap.size w w4 v' ∧ leftOf w4 g = T.size - (m + 1) := by
              have hs3 := HS3.out
              rw [HX.out, cut_cut] at hs3
              refine lit_next X[0] (m + 1) f _ (by omega) (by omega) (by omega) ?_ HO2.out hs3 HS2.out hw2 HO4.out HG4.out
              have e := HF.out
              rw [map_snoc] at e
              have e2 : bs (cut X 1) = bs (cut T (m + 1)) := by rw [HX.out, cut_cut]
              rw [e2] at e
              rw [← HR.out, e, Nat.add_assoc]
            exact ⟨hfin.1, by rw [hfin.2, hlf]; omega⟩

end Go.Proofs.Ytakihbjfkpebcaa.Lx
