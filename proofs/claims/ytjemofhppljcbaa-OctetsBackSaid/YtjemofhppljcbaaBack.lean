/-
  OctetsBack: of any items the call returns true: whatever is written is read again, in the same order, and nothing is left. For every list of items; no condition of ours.
-/
import Derived.Test.YtjemofhppljcbaaOctBack2
import Derived.Test.YtjemofhppljcbaaOctCutMath
import Derived.Test.YtjemofhppljcbaaOctItem
import Derived.ProofKit
import Derived.OpenShut
import Derived.ShutString
import Derived.ChangeOld
import Derived.Deep.Slices
namespace Go.Proofs.Ytjemofhppljcbaa.octetsBack
open Go.ChangeShapes Go.WideShapes Go.ChangeAt Go.RowKit Oct
open Go.ChangeMaps (open_string shut_string)
set_option linter.unusedVariables false

theorem own : ownKnob Try.prog.godebug = none := by kernel_rfl
theorem laidOut : laidOutB Try.prog = true := by kernel_rfl

/-- An item, as plain data and where its lists lie. -/
structure It where
  k : Int
  n : Int
  b : Bool
  t : ByteArray
  ia : Option Addr
  il : Nat
  ic : Nat
  sa : Option Addr
  sl : Nat
  sc : Nat
  zs : List Int
  ss : List ByteArray
def It.enc (x : It) : Option (List UInt8) := eItem x.k x.n x.b x.t x.zs x.ss
/-- The bytes of the first k items. -/
def encTo (xs : Nat → It) : Nat → Option (List UInt8)
  | 0 => some []
  | k + 1 => app (encTo xs k) (xs k).enc
def Good (w : World) (x : It) : Prop := Nums w x.ia x.il x.zs ∧ Strs w x.sa x.sl x.ss ∧ x.t.size ≤ 9223372036854775807 ∧ x.il ≤ 9223372036854775807 ∧ x.sl ≤ 9223372036854775807
def Six (w : World) (b o : Nat) (x : It) : Prop :=
  w.cell? ⟨b, o, none⟩ = some (.int .i64 x.k) ∧ w.cell? ⟨b, o + 1, none⟩ = some (.int .i64 x.n) ∧ w.cell? ⟨b, o + 2, none⟩ = some (.bool x.b) ∧ w.cell? ⟨b, o + 3, none⟩ = some (.string x.t) ∧ w.cell? ⟨b, o + 4, none⟩ = some (.slice x.ia x.il x.ic) ∧ w.cell? ⟨b, o + 5, none⟩ = some (.slice x.sa x.sl x.sc)
def Items (w : World) (a : Option Addr) (len : Nat) (xs : Nat → It) : Prop :=
  0 < len → ∃ b off, a = some ⟨b, off, none⟩ ∧ b < w.heap.size ∧ ∀ i, i < len → Six w b (off + i * 6) (xs i) ∧ Good w (xs i)
theorem Six.below {w w' : World} {b o : Nat} {x : It} (h : Six w b o x) (hb : Below w.heap.size w w') (hlt : b < w.heap.size) : Six w' b o x := by
  have e : ∀ i, w'.cell? ⟨b, i, none⟩ = w.cell? ⟨b, i, none⟩ := fun i => hb.cell (p := ⟨b, i, none⟩) hlt
  obtain ⟨h0, h1, h2, h3, h4, h5⟩ := h
  exact ⟨(e _).trans h0, (e _).trans h1, (e _).trans h2, (e _).trans h3, (e _).trans h4, (e _).trans h5⟩

theorem len_eItem (k n : Int) (b : Bool) (t : ByteArray) (zs : List Int) (ss : List ByteArray) : Oct.len (eItem k n b t zs ss) ≤ 5000000000 := by
  unfold eItem
  split
  · have := len_eInt n; omega
  · split
    · simp [eBool, Oct.len]
    · split
      · have := len_eText (bs t); omega
      · split
        · unfold eInts
          split
          · simp [Oct.len]
          · have := len_app (eLen zs.length) (eNums zs zs.length)
            have := len_eLen (zs.length : Int)
            have := len_eNums zs zs.length
            omega
        · unfold eTexts
          split
          · simp [Oct.len]
          · have := len_app (eLen ss.length) (eStrs ss ss.length)
            have := len_eLen (ss.length : Int)
            have := len_eStrs ss ss.length
            omega
theorem len_encTo (xs : Nat → It) (k : Nat) : Oct.len (encTo xs k) ≤ 5000000000 * k := by
  induction k with
  | zero => simp [encTo, Oct.len]
  | succ k ih =>
    have := len_app (encTo xs k) (xs k).enc
    have := len_eItem (xs k).k (xs k).n (xs k).b (xs k).t (xs k).zs (xs k).ss
    have e : Oct.len (xs k).enc ≤ 5000000000 := this
    simp only [encTo]
    omega
theorem app_isSome (a b : Option (List UInt8)) : (app a b).isSome = (a.isSome && b.isSome) := by cases a <;> cases b <;> rfl
theorem eInt_isSome (n : Int) : (eInt n).isSome = !decide (rng n) := by
  unfold eInt
  split <;> simp_all
theorem eLen_isSome (n : Nat) (h : n ≤ 65536) : (eLen (n : Int)).isSome = true := by
  rw [eLen, if_neg (by omega), eInt, if_neg (by unfold rng; omega)]; rfl
theorem eText_isSome (l : List UInt8) (h : l.length ≤ 65536) : (eText l).isSome = true := by
  rw [eText, app_isSome, eLen_isSome _ h]; rfl
theorem eStrs_isSome (ss : List ByteArray) (h : ∀ s ∈ ss, s.size ≤ 65536) (k : Nat) : (eStrs ss k).isSome = true := by
  induction k with
  | zero => rfl
  | succ k ih =>
    rw [eStrs, app_isSome, ih, eText_isSome]
    · rfl
    · show (ss.getD k ByteArray.empty).size ≤ 65536
      rcases Nat.lt_or_ge k ss.length with hk | hk
      · have : ss.getD k ByteArray.empty = ss[k] := by simp [List.getD, List.getElem?_eq_getElem hk]
        rw [this]; exact h _ (List.getElem_mem hk)
      · have : ss.getD k ByteArray.empty = ByteArray.empty := by simp [List.getD, List.getElem?_eq_none hk]
        rw [this]; decide

theorem bytes_text2 (l : List UInt8) (t : ByteArray) (ht : bs t = l) (g c : Nat) (W : World) (h : OutSt W g c (some l)) :
    Calls Try.prog 17 #[.pointer (some ⟨g, 0, none⟩)] W fun e w' => e = .returned (.tuple #[.string t, .bool true]) ∧ Drew W w' := by
  have := bytes_any g c (some l) W h
  subst ht
  exact this
theorem enc_split (xs : Nat → It) (k : Nat) (l : List UInt8) (h : encTo xs k = some l) (j : Nat) (hj : j < k) (p : List UInt8) (hp : encTo xs j = some p) :
    ∃ e R, (xs j).enc = some e ∧ encTo xs (j + 1) = some (p ++ e) ∧ l = p ++ (e ++ R) := by
  induction k generalizing l with
  | zero => omega
  | succ k ih =>
    obtain ⟨x, y, h1, h2, h3⟩ := app_some h
    rcases Nat.lt_or_ge j k with hlt | hge
    · obtain ⟨e, R, he1, he2, he3⟩ := ih x h1 hlt
      exact ⟨e, R ++ y, he1, he2, by rw [h3, he3]; simp [List.append_assoc]⟩
    · have : j = k := by omega
      subst this
      rw [hp] at h1
      injection h1 with h1
      subst h1
      exact ⟨y, [], h2, by rw [encTo, hp, h2]; rfl, by rw [h3, List.append_nil]⟩
theorem bytes_flag2 (g c : Nat) (st : Option (List UInt8)) (b : Bool) (hb : st.isSome = b) (W : World) (h : OutSt W g c st) :
    Calls Try.prog 17 #[.pointer (some ⟨g, 0, none⟩)] W fun e w' => e = .returned (.tuple #[.string ⟨(st.getD []).toArray⟩, .bool b]) ∧ Drew W w' := by
  subst hb
  exact bytes_any g c st W h

set_option maxRecDepth 100000 in
set_option maxHeartbeats 4000000 in
theorem walk (a : Option Addr) (len cap : Nat) (xs : Nat → It) (w : World) (hm : len ≤ 9223372036854775807) (hc : Items w a len xs) :
    Calls Try.prog 5 #[.slice a len cap] w fun e w' => e = .returned (.bool true) ∧ Below w.heap.size w w' := by
  have HC := Lib.hid hc
  clear hc
  go_enter Try.func5, Try.ntmps5
  go_wp2_with fail
  refine (speaks_true _).mono ?_
  rintro e w1 ⟨rfl, b1⟩
  have HN := Lib.hid (OutSt.new w1)
  have hs1 := b1.size
  have B1 := Lib.hid b1
  clear b1
  go_wp2
  go_loopw [4, 5] (fun f i wr => ∃ k : Nat, k ≤ 20 ∧ k ≤ len ∧ i = .int .i64 k ∧ f = .bool (encTo xs k).isSome ∧ OutSt wr w1.heap.size (w1.heap.size + 1) (encTo xs k) ∧ Below w.heap.size w wr ∧ ∀ j, j < k → ¬ isLarge (xs j).t (xs j).il (xs j).ss) (fun _ i _ => 20 - (intOf i).toNat)
  case atStart => exact ⟨0, by omega, by omega, rfl, rfl, HN.out, B1.out.trans ((Below.refl _ _).alloc hs1 _), fun j hj => absurd hj (by omega)⟩
  case round =>
    obtain ⟨k, hk1, hk2, rfl, rfl, hout, hbel, hall⟩ := hrel
    have HU := Lib.hid hout
    have HB := Lib.hid hbel
    have HALL := Lib.hid hall
    clear hout hbel hall
    by_cases hlt : (k : Int) < len ∧ (k : Int) < 20
    · obtain ⟨hl1, hl2⟩ := hlt
      obtain ⟨b, off, rfl, hb, hit⟩ := HC.out (by omega)
      obtain ⟨hsix, hgood⟩ := hit k (by omega)
      have hlenE := len_encTo xs k
      have hsucc : encTo xs (k + 1) = app (encTo xs k) (xs k).enc := rfl
      rcases hx : xs k with ⟨xk, xn, xb, xt, xia, xil, xic, xsa, xsl, xsc, xzs, xss⟩
      rw [hx] at hsix hgood hsucc
      have HALLK : Hid (¬ isLarge xt xil xss → ∀ j, j < k + 1 → ¬ isLarge (xs j).t (xs j).il (xs j).ss) := fun hnl j hj => by
        rcases Nat.lt_or_ge j k with h9 | h9
        · exact HALL.out j h9
        · have : j = k := by omega
          subst this
          rw [hx]; exact hnl
      have HCF : Hid (∀ W : World, Below w.heap.size w W → Six W b (off + k * 6) ⟨xk, xn, xb, xt, xia, xil, xic, xsa, xsl, xsc, xzs, xss⟩) := fun W hW => hsix.below hW hb
      obtain ⟨g1, g2, g3, g4, g5⟩ := hgood
      simp only at g1 g2 g3 g4 g5
      have G1 := Lib.hid g1
      have G2 := Lib.hid g2
      have HSU := Lib.hid hsucc
      obtain ⟨d0, d1, d2, d3, d4, d5⟩ := HCF.out wr HB.out
      simp only at d0 d1 d2 d3 d4 d5
      have hbsz := HB.out.size
      clear hit hsix hx hsucc g1 g2
      go_wp2_with fail
      refine (large_any xk xn xb xt xia xsa xil xic xsl xsc xss _ (G2.out.below HB.out) g3 g4 g5).mono ?_
      rintro e w2 ⟨v, rfl, hv, b2⟩
      have B2 := Lib.hid (HB.out.trans (b2.mono hbsz))
      have HU2 := Lib.hid (HU.out.below b2)
      have HV := Lib.hid hv
      clear b2 d0 d1 d2 d3 d4 d5 hv
      cases v with
      | true =>
        go_wp2
        go_ret
        exact ⟨rfl, B2.out⟩
      | false =>
        have hnl : Hid (¬ isLarge xt xil xss) := by
          rcases HV.out with h9 | h9
          · cases h9
          · exact h9
        clear HV
        obtain ⟨d0, d1, d2, d3, d4, d5⟩ := HCF.out w2 B2.out
        simp only at d0 d1 d2 d3 d4 d5
        go_wp2_with fail
        refine (item_any _ _ _ xk xn xb xt xia xsa xil xic xsl xsc xzs xss _ HU2.out (by omega) (G1.out.below B2.out) (G2.out.below B2.out) (fun h9 b9 o9 e9 => by
            obtain ⟨b8, o8, e8, l8, _⟩ := G1.out.2 h9
            rw [e8] at e9; injection e9 with e9; injection e9 with e9 _
            omega) (fun h9 b9 o9 e9 => by
            obtain ⟨b8, o8, e8, l8, _⟩ := G2.out.2 h9
            rw [e8] at e9; injection e9 with e9; injection e9 with e9 _
            omega)).mono ?_
        rintro e w3 ⟨rfl, k1, k2⟩
        have HU3 := Lib.hid k1
        have B3 := Lib.hid (B2.out.trans (k2.below (B := w.heap.size) (by omega) (by omega)))
        clear k1 k2 d0 d1 d2 d3 d4 d5
        obtain ⟨d0, d1, d2, d3, d4, d5⟩ := HCF.out w3 B3.out
        simp only at d0 d1 d2 d3 d4 d5
        obtain ⟨q1, q2⟩ := kindOf_bd xk
        have hk : kindOf xk = 0 ∨ kindOf xk = 1 ∨ kindOf xk = 2 ∨ kindOf xk = 3 ∨ kindOf xk = 4 := by omega
        have HQ : Hid (It.enc ⟨xk, xn, xb, xt, xia, xil, xic, xsa, xsl, xsc, xzs, xss⟩ = if kindOf xk = 0 then eInt xn else if kindOf xk = 1 then eBool xb else if kindOf xk = 2 then eText (bs xt) else if kindOf xk = 3 then eInts xzs else eTexts xss) := rfl
        have HK : Hid (∀ W : World, Calls Try.prog 16 #[.agg #[.int .i64 xk, .int .i64 xn, .bool xb, .string xt, .slice xia xil xic, .slice xsa xsl xsc]] W fun e w' => e = .returned (.int .i64 (kindOf xk)) ∧ Below W.heap.size W w') := fun W => kind_any xk xn xb xt _ _ W
        have HU3' : Hid (OutSt w3 w1.heap.size (w1.heap.size + 1) (app (encTo xs k) (It.enc ⟨xk, xn, xb, xt, xia, xil, xic, xsa, xsl, xsc, xzs, xss⟩))) := HU3
        clear HU3
        generalize It.enc ⟨xk, xn, xb, xt, xia, xil, xic, xsa, xsl, xsc, xzs, xss⟩ = ex at *
        generalize kindOf xk = kd at *
        generalize encTo xs k = st at *
        clear q1 q2
        rcases hk with rfl | rfl | rfl | rfl | rfl
        · have hF : (app st ex).isSome = (st.isSome && !decide (rng xn)) := by rw [app_isSome, HQ.out, if_pos rfl, eInt_isSome]
          have HFF := Lib.hid hF
          clear hF
          generalize st.isSome = f at *
          have hrng : xn < -9007199254740992 ∨ (-9007199254740992 ≤ xn ∧ 9007199254740992 < xn) ∨ (-9007199254740992 ≤ xn ∧ xn ≤ 9007199254740992) := by omega
          cases f
          · have HF : Hid ((app st ex).isSome = false) := by unfold Hid; rw [HFF.out]; rfl
            go_wp2_with fail
            refine (HK.out _).mono ?_
            rintro e w4 ⟨rfl, b4⟩
            have B4 := Lib.hid (B3.out.trans (b4.mono B3.out.size))
            have HU4 := Lib.hid (HU3'.out.below b4)
            clear b4 d0 d1 d2 d3 d4 d5
            obtain ⟨d0, d1, d2, d3, d4, d5⟩ := HCF.out w4 B4.out
            simp only at d0 d1 d2 d3 d4 d5
            go_wp2_with fail
            refine (bytes_flag2 _ _ _ _ HF.out _ HU4.out).mono ?_
            rintro e w5 ⟨rfl, k5⟩
            have HU5 := Lib.hid (HU4.out.drew k5)
            have B5 := Lib.hid (B4.out.trans (k5.below w.heap.size))
            clear k5
            go_wp2
            exact ⟨⟨k + 1, by omega, by omega, by go_num, by first | (rw [HSU.out, HF.out]; done) | (rw [HSU.out, HF.out]; simp; omega), by rw [HSU.out]; exact HU5.out, B5.out, HALLK.out hnl.out⟩, by simp [intOf]; omega⟩
          · rcases hrng with hr1 | ⟨hr1, hr2⟩ | ⟨hr1, hr2⟩
            · have HF : Hid ((app st ex).isSome = false) := by unfold Hid; rw [HFF.out, decide_eq_true (show rng xn from by unfold rng; omega)]; rfl
              go_wp2_with fail
              refine (HK.out _).mono ?_
              rintro e w4 ⟨rfl, b4⟩
              have B4 := Lib.hid (B3.out.trans (b4.mono B3.out.size))
              have HU4 := Lib.hid (HU3'.out.below b4)
              clear b4 d0 d1 d2 d3 d4 d5
              obtain ⟨d0, d1, d2, d3, d4, d5⟩ := HCF.out w4 B4.out
              simp only at d0 d1 d2 d3 d4 d5
              go_wp2_with fail
              refine (bytes_flag2 _ _ _ _ HF.out _ HU4.out).mono ?_
              rintro e w5 ⟨rfl, k5⟩
              have HU5 := Lib.hid (HU4.out.drew k5)
              have B5 := Lib.hid (B4.out.trans (k5.below w.heap.size))
              clear k5
              go_wp2
              exact ⟨⟨k + 1, by omega, by omega, by go_num, by first | (rw [HSU.out, HF.out]; done) | (rw [HSU.out, HF.out]; simp; omega), by rw [HSU.out]; exact HU5.out, B5.out, HALLK.out hnl.out⟩, by simp [intOf]; omega⟩
            · have HF : Hid ((app st ex).isSome = false) := by unfold Hid; rw [HFF.out, decide_eq_true (show rng xn from by unfold rng; omega)]; rfl
              go_wp2_with fail
              refine (HK.out _).mono ?_
              rintro e w4 ⟨rfl, b4⟩
              have B4 := Lib.hid (B3.out.trans (b4.mono B3.out.size))
              have HU4 := Lib.hid (HU3'.out.below b4)
              clear b4 d0 d1 d2 d3 d4 d5
              obtain ⟨d0, d1, d2, d3, d4, d5⟩ := HCF.out w4 B4.out
              simp only at d0 d1 d2 d3 d4 d5
              go_wp2_with fail
              refine (bytes_flag2 _ _ _ _ HF.out _ HU4.out).mono ?_
              rintro e w5 ⟨rfl, k5⟩
              have HU5 := Lib.hid (HU4.out.drew k5)
              have B5 := Lib.hid (B4.out.trans (k5.below w.heap.size))
              clear k5
              go_wp2
              exact ⟨⟨k + 1, by omega, by omega, by go_num, by first | (rw [HSU.out, HF.out]; done) | (rw [HSU.out, HF.out]; simp; omega), by rw [HSU.out]; exact HU5.out, B5.out, HALLK.out hnl.out⟩, by simp [intOf]; omega⟩
            · have HF : Hid ((app st ex).isSome = true) := by unfold Hid; rw [HFF.out, decide_eq_false (show ¬ rng xn from by unfold rng; omega)]; rfl
              go_wp2_with fail
              refine (HK.out _).mono ?_
              rintro e w4 ⟨rfl, b4⟩
              have B4 := Lib.hid (B3.out.trans (b4.mono B3.out.size))
              have HU4 := Lib.hid (HU3'.out.below b4)
              clear b4 d0 d1 d2 d3 d4 d5
              obtain ⟨d0, d1, d2, d3, d4, d5⟩ := HCF.out w4 B4.out
              simp only at d0 d1 d2 d3 d4 d5
              go_wp2_with fail
              refine (bytes_flag2 _ _ _ _ HF.out _ HU4.out).mono ?_
              rintro e w5 ⟨rfl, k5⟩
              have HU5 := Lib.hid (HU4.out.drew k5)
              have B5 := Lib.hid (B4.out.trans (k5.below w.heap.size))
              clear k5
              go_wp2
              exact ⟨⟨k + 1, by omega, by omega, by go_num, by first | (rw [HSU.out, HF.out]; done) | (rw [HSU.out, HF.out]; simp; omega), by rw [HSU.out]; exact HU5.out, B5.out, HALLK.out hnl.out⟩, by simp [intOf]; omega⟩
        · have hE : ex.isSome = true := by rw [HQ.out, if_neg (by decide), if_pos rfl]; exact rfl
          have HF : Hid ((app st ex).isSome = st.isSome) := by unfold Hid; rw [app_isSome, hE, Bool.and_true]
          clear hE
          go_wp2_with fail
          refine (HK.out _).mono ?_
          rintro e w4 ⟨rfl, b4⟩
          have B4 := Lib.hid (B3.out.trans (b4.mono B3.out.size))
          have HU4 := Lib.hid (HU3'.out.below b4)
          clear b4 d0 d1 d2 d3 d4 d5
          obtain ⟨d0, d1, d2, d3, d4, d5⟩ := HCF.out w4 B4.out
          simp only at d0 d1 d2 d3 d4 d5
          go_wp2_with fail
          refine (bytes_flag2 _ _ _ _ HF.out _ HU4.out).mono ?_
          rintro e w5 ⟨rfl, k5⟩
          have HU5 := Lib.hid (HU4.out.drew k5)
          have B5 := Lib.hid (B4.out.trans (k5.below w.heap.size))
          clear k5
          go_wp2
          exact ⟨⟨k + 1, by omega, by omega, by go_num, by first | (rw [HSU.out, HF.out]; done) | (rw [HSU.out, HF.out]; simp; omega), by rw [HSU.out]; exact HU5.out, B5.out, HALLK.out hnl.out⟩, by simp [intOf]; omega⟩
        · have hE : ex.isSome = true := by rw [HQ.out, if_neg (by decide), if_neg (by decide), if_pos rfl]; exact eText_isSome _ (by show xt.size ≤ 65536; have := hnl.out; unfold isLarge at this; omega)
          have HF : Hid ((app st ex).isSome = st.isSome) := by unfold Hid; rw [app_isSome, hE, Bool.and_true]
          clear hE
          go_wp2_with fail
          refine (HK.out _).mono ?_
          rintro e w4 ⟨rfl, b4⟩
          have B4 := Lib.hid (B3.out.trans (b4.mono B3.out.size))
          have HU4 := Lib.hid (HU3'.out.below b4)
          clear b4 d0 d1 d2 d3 d4 d5
          obtain ⟨d0, d1, d2, d3, d4, d5⟩ := HCF.out w4 B4.out
          simp only at d0 d1 d2 d3 d4 d5
          go_wp2_with fail
          refine (bytes_flag2 _ _ _ _ HF.out _ HU4.out).mono ?_
          rintro e w5 ⟨rfl, k5⟩
          have HU5 := Lib.hid (HU4.out.drew k5)
          have B5 := Lib.hid (B4.out.trans (k5.below w.heap.size))
          clear k5
          go_wp2
          exact ⟨⟨k + 1, by omega, by omega, by go_num, by first | (rw [HSU.out, HF.out]; done) | (rw [HSU.out, HF.out]; simp; omega), by rw [HSU.out]; exact HU5.out, B5.out, HALLK.out hnl.out⟩, by simp [intOf]; omega⟩
        · have hzl := G1.out.1
          have hil : xil ≤ 200 := by
            rcases Nat.lt_or_ge 200 xil with h7 | h7
            · exact absurd (.inr (.inl h7)) hnl.out
            · exact h7
          have hF : (app st ex).isSome = (st.isSome && (eNums xzs xil).isSome) := by
            rw [app_isSome, HQ.out, if_neg (by decide), if_neg (by decide), if_neg (by decide), if_pos rfl, eInts, if_neg (by omega), app_isSome, eLen_isSome _ (by omega), hzl, Bool.true_and]
          have HFF := Lib.hid hF
          clear hF hzl
          go_wp2_with fail
          refine (HK.out _).mono ?_
          rintro e w4 ⟨rfl, b4⟩
          have B4 := Lib.hid (B3.out.trans (b4.mono B3.out.size))
          have HU4 := Lib.hid (HU3'.out.below b4)
          clear b4 d0 d1 d2 d3 d4 d5
          obtain ⟨d0, d1, d2, d3, d4, d5⟩ := HCF.out w4 B4.out
          simp only at d0 d1 d2 d3 d4 d5
          have GX := Lib.hid (G1.out.below B4.out)
          go_wp2_with fail
          go_loop [4, 6] (fun f i => ∃ j : Nat, j ≤ xil ∧ i = .int .i64 j ∧ f = .bool (st.isSome && (eNums xzs j).isSome)) (fun _ i => xil - (intOf i).toNat)
          case atStart => exact ⟨0, by omega, rfl, by simp [eNums]⟩
          case round =>
            obtain ⟨j, hj, rfl, rfl⟩ := hrel
            by_cases hjl : (j : Int) < xil
            · obtain ⟨p, po, rfl, hp, hpc⟩ := GX.out.2 (by omega)
              have dz := hpc j (by omega)
              have hnext : (st.isSome && (eNums xzs (j + 1)).isSome) = ((st.isSome && (eNums xzs j).isSome) && !decide (rng (xzs.getD j 0))) := by
                show (st.isSome && (app (eNums xzs j) (eInt (xzs.getD j 0))).isSome) = _
                rw [app_isSome, eInt_isSome, Bool.and_assoc]
              obtain ⟨z, hz⟩ : ∃ z, z = xzs.getD j 0 := ⟨_, rfl⟩
              rw [← hz] at dz hnext
              have HX := Lib.hid hnext
              clear hnext hz hpc
              generalize (st.isSome && (eNums xzs j).isSome) = f at *
              have hrng : z < -9007199254740992 ∨ (-9007199254740992 ≤ z ∧ 9007199254740992 < z) ∨ (-9007199254740992 ≤ z ∧ z ≤ 9007199254740992) := by omega
              cases f
              · go_wp2
                exact ⟨⟨j + 1, by omega, by go_num, by rw [HX.out]; rfl⟩, by simp [intOf]; omega⟩
              · rcases hrng with hr1 | ⟨hr1, hr2⟩ | ⟨hr1, hr2⟩
                · go_wp2
                  exact ⟨⟨j + 1, by omega, by go_num, by rw [HX.out, decide_eq_true (show rng z from by unfold rng; omega)]; first | rfl | (simp; omega)⟩, by simp [intOf]; omega⟩
                · go_wp2
                  exact ⟨⟨j + 1, by omega, by go_num, by rw [HX.out, decide_eq_true (show rng z from by unfold rng; omega)]; first | rfl | (simp; omega)⟩, by simp [intOf]; omega⟩
                · go_wp2
                  exact ⟨⟨j + 1, by omega, by go_num, by rw [HX.out, decide_eq_false (show ¬ rng z from by unfold rng; omega)]; first | rfl | (simp; omega)⟩, by simp [intOf]; omega⟩
            · have hjj : j = xil := by omega
              subst hjj
              have HF := HFF
              generalize (st.isSome && (eNums xzs j).isSome) = f at *
              go_wp2_with fail
              refine (bytes_flag2 _ _ _ _ HF.out _ HU4.out).mono ?_
              rintro e w5 ⟨rfl, k5⟩
              have HU5 := Lib.hid (HU4.out.drew k5)
              have B5 := Lib.hid (B4.out.trans (k5.below w.heap.size))
              clear k5
              go_wp2
              exact ⟨⟨k + 1, by omega, by omega, by go_num, by rw [HSU.out, HF.out], by rw [HSU.out]; exact HU5.out, B5.out, HALLK.out hnl.out⟩, by simp [intOf]; omega⟩
        · have hE : ex.isSome = true := by
            rw [HQ.out, if_neg (by decide), if_neg (by decide), if_neg (by decide), if_neg (by decide)]
            have h9 := hnl.out
            unfold isLarge at h9
            have h8 : ∀ s ∈ xss, s.size ≤ 65536 := fun s hs => by
              rcases Nat.lt_or_ge 500 s.size with h7 | h7
              · exact absurd (.inr (.inr (.inr ⟨s, hs, h7⟩))) h9
              · omega
            rw [eTexts, if_neg (by omega), app_isSome, eLen_isSome _ (by omega), eStrs_isSome _ h8]
            rfl
          have HF : Hid ((app st ex).isSome = st.isSome) := by unfold Hid; rw [app_isSome, hE, Bool.and_true]
          clear hE
          go_wp2_with fail
          refine (HK.out _).mono ?_
          rintro e w4 ⟨rfl, b4⟩
          have B4 := Lib.hid (B3.out.trans (b4.mono B3.out.size))
          have HU4 := Lib.hid (HU3'.out.below b4)
          clear b4 d0 d1 d2 d3 d4 d5
          obtain ⟨d0, d1, d2, d3, d4, d5⟩ := HCF.out w4 B4.out
          simp only at d0 d1 d2 d3 d4 d5
          go_wp2_with fail
          refine (bytes_flag2 _ _ _ _ HF.out _ HU4.out).mono ?_
          rintro e w5 ⟨rfl, k5⟩
          have HU5 := Lib.hid (HU4.out.drew k5)
          have B5 := Lib.hid (B4.out.trans (k5.below w.heap.size))
          clear k5
          go_wp2
          exact ⟨⟨k + 1, by omega, by omega, by go_num, by first | (rw [HSU.out, HF.out]; done) | (rw [HSU.out, HF.out]; simp; omega), by rw [HSU.out]; exact HU5.out, B5.out, HALLK.out hnl.out⟩, by simp [intOf]; omega⟩
    · have hall := HALL.out
      have hkk : ∀ j : Nat, j ≤ k → (((j : Int) < len ∧ (j : Int) < 20) ↔ j < k) := fun j hj => by omega
      have HKK := Lib.hid hkk
      have hcase : (len : Int) ≤ k ∨ ((k : Int) < len ∧ 20 ≤ (k : Int)) := by omega
      clear hlt hkk hall
      rcases hst : encTo xs k with _ | l
      · have HU' : Hid (OutSt wr w1.heap.size (w1.heap.size + 1) none) := by rw [hst] at HU; exact HU
        clear HU hst
        simp only [Option.isSome_none]
        rcases hcase with h1 | ⟨h1, h2⟩
        all_goals
          go_wp2_with fail
          refine (bytes_any _ _ none _ HU'.out).mono ?_
          rintro e w3 ⟨rfl, k3⟩
          have B3 := Lib.hid (HB.out.trans (k3.below w.heap.size))
          clear k3
          go_wp2
          go_ret
          exact ⟨rfl, B3.out⟩
      · have HU' : Hid (OutSt wr w1.heap.size (w1.heap.size + 1) (some l)) := by rw [hst] at HU; exact HU
        have HST := Lib.hid hst
        have hll := len_encTo xs k
        rw [hst] at hll
        have hlb : l.length ≤ 100000000000 := by
          have e9 : Oct.len (some l) = l.length := rfl
          omega
        clear HU hst hll
        simp only [Option.isSome_some]
        obtain ⟨s, hs⟩ : ∃ s : ByteArray, s = ⟨l.toArray⟩ := ⟨_, rfl⟩
        have hbs : bs s = l := by rw [hs]
        have hsz : s.size ≤ 9223372036854775807 := by rw [← bs_length, hbs]; omega
        have HBS := Lib.hid hbs
        clear hs hbs
        rcases hcase with h1 | ⟨h1, h2⟩
        all_goals
          go_wp2_with fail
          refine (bytes_text2 _ s HBS.out _ _ _ HU'.out).mono ?_
          rintro e w3 ⟨rfl, k3⟩
          have B3 := Lib.hid (HB.out.trans (k3.below w.heap.size))
          clear k3
          go_wp2_with fail
          refine (open_any _ _).mono ?_
          rintro e w5 ⟨rfl, rfl⟩
          have hat := At.new 79 s w3 hsz
          rw [HBS.out] at hat
          have HA := Lib.hid hat
          have B5 := Lib.hid (B3.out.alloc B3.out.size (.cells #[.string s, .int .i64 0] 79))
          have hsz3 := B3.out.size
          clear hat
          go_wp2_with fail
          go_loopw [12] (fun i wq => ∃ (j : Nat) (p R : List UInt8), j ≤ k ∧ i = .int .i64 j ∧ encTo xs j = some p ∧ l = p ++ R ∧ At 79 wq w3.heap.size (.ok R) ∧ Below w.heap.size w wq) (fun i _ => k - (intOf i).toNat)
          case atStart => exact ⟨0, [], l, by omega, rfl, rfl, rfl, HA.out, B5.out⟩
          case round =>
            obtain ⟨j, p, R, hj, rfl, hp, hlR, hat, hbel⟩ := hrel
            have HP := Lib.hid hp
            have HLR := Lib.hid hlR
            have HA2 := Lib.hid hat
            have HB2 := Lib.hid hbel
            have hbs2 := hbel.size
            clear hp hlR hat hbel
            by_cases hjk : j < k
            · obtain ⟨hj1, hj2⟩ := (HKK.out j hj).2 hjk
              obtain ⟨b, off, rfl, hb, hit⟩ := HC.out (by omega)
              obtain ⟨hsix, hgood⟩ := hit j (by omega)
              obtain ⟨ex, R', he1, he2, he3⟩ := enc_split xs k l HST.out j hjk p HP.out
              have hR : R = ex ++ R' := by
                have h9 := HLR.out
                rw [he3] at h9
                exact (List.append_cancel_left h9).symm
              have hat2 : At 79 wr w3.heap.size (.ok (ex ++ R')) := by rw [← hR]; exact HA2.out
              have hnl := HALL.out j hjk
              rcases hx : xs j with ⟨xk, xn, xb, xt, xia, xil, xic, xsa, xsl, xsc, xzs, xss⟩
              rw [hx] at hsix hgood he1 hnl
              obtain ⟨g1, g2, g3, g4, g5⟩ := hgood
              simp only at g1 g2 g3 g4 g5
              have HBK := Lib.hid (back_any w3.heap.size xk xn xb xt xia xsa xil xic xsl xsc xzs xss ex R' wr hat2 (g1.below HB2.out) (g2.below HB2.out) he1 hnl (fun h9 b9 o9 e9 => by
                obtain ⟨b8, o8, e8, l8, _⟩ := g1.2 h9
                rw [e8] at e9; injection e9 with e9; injection e9 with e9 _
                omega) (fun h9 b9 o9 e9 => by
                obtain ⟨b8, o8, e8, l8, _⟩ := g2.2 h9
                rw [e8] at e9; injection e9 with e9; injection e9 with e9 _
                omega))
              obtain ⟨d0, d1, d2, d3, d4, d5⟩ := hsix.below HB2.out hb
              simp only at d0 d1 d2 d3 d4 d5
              have HE2 := Lib.hid he2
              have HE3 := Lib.hid he3
              clear hit hsix hx g1 g2 he1 he2 he3 hR hat2 hnl
              go_wp2_with fail
              refine HBK.out.mono ?_
              rintro e w6 ⟨rfl, k6, k7⟩
              have K6 := Lib.hid k6
              have B6 := Lib.hid (HB2.out.trans (k7.below (B := w.heap.size) hsz3 hbs2))
              clear k6 k7
              go_wp2
              exact ⟨⟨j + 1, p ++ ex, R', by omega, by go_num, HE2.out, by rw [List.append_assoc]; exact HE3.out, K6.out, B6.out⟩, by simp [intOf]; omega⟩
            · have hjj : j = k := by omega
              subst hjj
              have hR : R = [] := by
                have h9 := HST.out
                rw [HP.out] at h9
                injection h9 with h9
                have h8 := HLR.out
                rw [← h9] at h8
                exact List.append_cancel_left (h8.symm.trans (List.append_nil p).symm)
              subst hR
              have HE := Lib.hid (err_any w3.heap.size _ wr HA2.out)
              have HE' : Hid (Calls Try.prog 20 #[.pointer (some ⟨w3.heap.size, 0, none⟩)] wr fun e w' => e = .returned (.int .i64 0) ∧ wr = w') := HE.out
              have HF' : Hid (Calls Try.prog 21 #[.pointer (some ⟨w3.heap.size, 0, none⟩)] wr fun e w' => e = .returned (.int .i64 0) ∧ wr = w') := end_any w3.heap.size _ wr HA2.out
              clear HE
              go_wp2_with fail
              refine HE'.out.mono ?_
              rintro e w' ⟨rfl, rfl⟩
              go_wp2_with fail
              refine HF'.out.mono ?_
              rintro e w' ⟨rfl, rfl⟩
              go_wp2
              go_ret
              exact ⟨rfl, HB2.out⟩

section reading
variable {H : Type} {enc : TypeId × Value → H} {w : World} {base : Nat} {spare : Nat → Bool} {held : Bool}
theorem item_of {fuel : Nat} {c0 c1 c2 c3 c4 c5 : Value} {y : DataW H × List MemPlace} (h : DataW.trod enc Try.prog w base spare held fuel 39 [c0, c1, c2, c3, c4, c5] = some y) :
    ∃ x : It, c0 = .int .i64 x.k ∧ c1 = .int .i64 x.n ∧ c2 = .bool x.b ∧ c3 = .string x.t ∧ c4 = .slice x.ia x.il x.ic ∧ c5 = .slice x.sa x.sl x.sc ∧ Good w x := by
  obtain ⟨xs, m, _, _, _, hlen, hf⟩ := DataW.trod_struct Try.underlying39 h
  match xs, hlen with
  | [y0, y1, y2, y3, y4, y5], _ =>
    have f0 := hf 0 _ rfl
    have f1 := hf 1 _ rfl
    have f2 := hf 2 _ rfl
    have f3 := hf 3 _ rfl
    have f4 := hf 4 _ rfl
    have f5 := hf 5 _ rfl
    simp only [List.getElem?_cons_zero, List.getElem?_cons_succ] at f0 f1 f2 f3 f4 f5
    obtain ⟨k, h0, _, _⟩ := DataW.trod_int Try.underlying3 f0
    obtain ⟨n, h1, _, _⟩ := DataW.trod_int Try.underlying3 f1
    obtain ⟨b, h2, _⟩ := DataW.trod_bool Try.underlying4 f2
    obtain ⟨t, h3, _, ht⟩ := DataW.trod_string Try.underlying9 f3
    obtain ⟨ia, il, ic, zs, h4, h5, h8⟩ := nums_of f4
    obtain ⟨sa, sl, sc, ss, h6, h7, h9, _⟩ := strs_of f5
    injection h0 with h0
    injection h1 with h1
    injection h2 with h2
    injection h3 with h3
    have ht' : t.size ≤ 9223372036854775807 := by unfold maxLen at ht; omega
    exact ⟨⟨k, n, b, t, ia, il, ic, sa, sl, sc, zs, ss⟩, h0, h1, h2, h3, h4, h6, h5, h7, ht', h8, h9⟩

theorem items_of {fuel : Nat} {v : Value} {y : DataW H × List MemPlace} (h : DataW.trod enc Try.prog w base spare held fuel 31 [v] = some y) :
    ∃ a len cap xs, v = .slice a len cap ∧ Items w a len xs ∧ len ≤ 9223372036854775807 := by
  rcases Go.Deep.open_slice Try.underlying31 h with ⟨hcs, _⟩ | ⟨x, l, c, m, n, D, Pl, hcs, _, hl, hm, hmm, _, hel⟩
  · injection hcs with hcs
    exact ⟨none, 0, 0, fun _ => ⟨0, 0, false, ByteArray.empty, none, 0, 0, none, 0, 0, [], []⟩, hcs, fun h => absurd h (by omega), by omega⟩
  · injection hcs with hcs
    have hml : l ≤ m := by rw [hmm]; split <;> omega
    unfold maxLen at hm
    have e6 : Try.prog.cellsOf 39 = 6 := by kernel_rfl
    have key : ∀ i, ∃ z : It, i < l → w.cell? ((x.add (i * 6)).add 0) = some (.int .i64 z.k) ∧ w.cell? ((x.add (i * 6)).add 1) = some (.int .i64 z.n) ∧ w.cell? ((x.add (i * 6)).add 2) = some (.bool z.b) ∧ w.cell? ((x.add (i * 6)).add 3) = some (.string z.t) ∧ w.cell? ((x.add (i * 6)).add 4) = some (.slice z.ia z.il z.ic) ∧ w.cell? ((x.add (i * 6)).add 5) = some (.slice z.sa z.sl z.sc) ∧ Good w z := fun i => by
      by_cases hi : i < l
      · obtain ⟨cs', hc, ht⟩ := hel i (by omega)
        rw [e6] at hc
        obtain ⟨_, hlen, hcell⟩ := World.cells?_some hc
        match cs', hlen with
        | [c0, c1, c2, c3, c4, c5], _ =>
          obtain ⟨z, r0, r1, r2, r3, r4, r5, hg⟩ := item_of ht
          refine ⟨z, fun _ => ⟨?_, ?_, ?_, ?_, ?_, ?_, hg⟩⟩
          · rw [hcell 0 (by omega), ← r0]; rfl
          · rw [hcell 1 (by omega), ← r1]; rfl
          · rw [hcell 2 (by omega), ← r2]; rfl
          · rw [hcell 3 (by omega), ← r3]; rfl
          · rw [hcell 4 (by omega), ← r4]; rfl
          · rw [hcell 5 (by omega), ← r5]; rfl
      · exact ⟨⟨0, 0, false, ByteArray.empty, none, 0, 0, none, 0, 0, [], []⟩, fun h => absurd h hi⟩
    obtain ⟨xs, hxs⟩ := Classical.axiomOfChoice key
    refine ⟨some x, l, c, xs, hcs, fun h0 => ?_, by omega⟩
    have hp := (hxs 0 h0).1
    have hx0 : (x.add (0 * 6)).add 0 = x.add 0 := by simp [Addr.add]
    rw [hx0] at hp
    obtain ⟨b, off, rfl, hb⟩ := addr_at hp
    refine ⟨b, off, rfl, hb, fun i hi => ?_⟩
    obtain ⟨q0, q1, q2, q3, q4, q5, hg⟩ := hxs i hi
    have a0 : ∀ j : Nat, ((⟨b, off, none⟩ : Addr).add (i * 6)).add j = ⟨b, off + i * 6 + j, none⟩ := fun j => by rw [addr_add, addr_add]
    rw [a0] at q0 q1 q2 q3 q4 q5
    exact ⟨⟨q0, q1, q2, q3, q4, q5⟩, hg⟩
end reading

set_option maxRecDepth 100000 in
theorem lifted (os : Os) (started : os.Started) (H : Type) (enc : TypeId × Value → H) :
    ReturnsInHanded {} Try.checked os 5 .any (Rows.octetsBackSpec.pre6 enc Try.prog Try.f5 Rows.octetsBackRow.domain false) (Rows.octetsBackSpec.post enc Try.prog Try.f5 false true false false) := by
  refine returnsInHanded_of_change (C := Try.checked) own started (by kernel_rfl) Try.func5
    (ChangeSpec.witness6 (enc := enc) (C := Try.checked) false ⟨#[], #[.slice none 0 0], []⟩ 8 (by kernel_rfl) (by kernel_rfl) (by kernel_rfl) (by kernel_rfl)) ?_
  intro W base args ds gs before hval0 hW hcnd _
  have hval : ∀ (j : Nat) t v, Try.f5.params[j]? = some t → args[j]? = some v → Value.okWide Try.prog W .any base t v := hval0
  have hW' := hW
  obtain ⟨p, q, hA0, hV, rfl, hfz, hnd⟩ := hW
  have hA : DataW.TrodAll enc Try.prog W 0 (fun _ => true) true Try.f5.params.toList args.toList ds p := hA0
  rw [Try.params5] at hA hval
  obtain ⟨v1, vs1, d1, ds1, p1, q1, hargs, rfl, rfl, h1, r1⟩ := trodAll_cons hA
  obtain ⟨rfl, rfl, rfl⟩ := trodAll_nil r1
  obtain rfl : args = #[v1] := by cases args; simp_all
  obtain ⟨rfl, rfl⟩ := trodVars_none hV
  have k1 := h1
  have lt1 : ∀ x ∈ p1, x.block < W.heap.size := by obtain ⟨m, hm⟩ := k1; exact DataW.trod_lt m _ _ _ hm
  obtain ⟨aa, la, ca, rfl⟩ := okWide_slice Try.underlying31 (hval 0 31 v1 rfl rfl)
  obtain ⟨fuel, hf⟩ := h1
  obtain ⟨a, len, cap, xs, hv, hitems, hlen⟩ := items_of (v := .slice aa la ca) (by simpa [Value.cells] using hf)
  clear hA0 hval0
  rw [hv] at k1 hW' ⊢
  refine (walk a len cap xs W hlen hitems).mono fun e W' ⟨he, bel⟩ => ?_
  subst he
  exact ⟨_, rfl, _, _, _, [], _, [], hW', trodAll_mk1 (shut_bool Try.underlying4 _), (trodAll_cons_mk (Below.trod laidOut (by kernel_rfl) (of_decide_eq_true (by kernel_rfl)) k1 bel lt1) trodAll_mk0), rfl, bel.frame _, fun h => by cases h⟩

theorem over : Rows.octetsBackRow.holds Try.pinned (OpenSpec.ofChange Rows.octetsBackSpec) :=
  OpenClaim.holds_of_wide 5 Try.f5 rfl rfl rfl rfl rfl rfl rfl ⟨rfl, rfl, rfl, rfl, rfl⟩ rfl rfl rfl rfl rfl (by kernel_rfl) Try.func5 (by kernel_rfl)
    (of_decide_eq_true (by kernel_rfl)) (by unfold Func.isWrapper; first | (rw [if_pos (by decide +kernel)]; kernel_rfl) | (rw [if_neg (by decide +kernel)]; exact ⟨rfl, rfl⟩))
    (fun os started H enc _ => lifted os started H enc)

theorem proved : Rows.OctetsBackSaid := over
#print axioms proved
end Go.Proofs.Ytjemofhppljcbaa.octetsBack
