/-
  The walks of an Out's lists of texts; of an item that goes to an Out; and that what was written is read again: plain lists.
-/
import Derived.Test.YtjemofhppljcbaaOctNil
import Derived.Test.YtjemofhppljcbaaOctInList2
namespace Go.Proofs.Ytjemofhppljcbaa.Oct
open Go.RowKit

theorem len_eText (l : List UInt8) : Oct.len (eText l) ≤ 65544 := by
  unfold eText
  by_cases h : 65536 < (l.length : Int)
  · rw [eLen, if_pos h]; simp [app, Oct.len]
  · have h1 := len_app (eLen l.length) (some l)
    have h2 := len_eLen (l.length : Int)
    have h3 : Oct.len (some l) = l.length := rfl
    omega
/-- The bytes of the first k texts of a list. -/
def eStrs (ss : List ByteArray) : Nat → Option (List UInt8)
  | 0 => some []
  | k + 1 => app (eStrs ss k) (eText (bs (ss.getD k ByteArray.empty)))
theorem len_eStrs (ss : List ByteArray) (k : Nat) : Oct.len (eStrs ss k) ≤ 65544 * k := by
  induction k with
  | zero => simp [eStrs, Oct.len]
  | succ k ih =>
    have := len_app (eStrs ss k) (eText (bs (ss.getD k ByteArray.empty)))
    have := len_eText (bs (ss.getD k ByteArray.empty))
    simp only [eStrs]
    omega
def eTexts (ss : List ByteArray) : Option (List UInt8) := if 65536 < ss.length then none else app (eLen ss.length) (eStrs ss ss.length)

set_option maxHeartbeats 1000000 in
theorem texts_any (g c : Nat) (st : Option (List UInt8)) (a : Option Addr) (len cap : Nat) (ss : List ByteArray) (w : World) (hs : OutSt w g c st) (h : Strs w a len ss) (hb : Oct.len st + 5000000000 ≤ 140737488355328)
    (hgb : 0 < len → ∀ b off, a = some ⟨b, off, none⟩ → b ≠ g ∧ b < c) :
    Calls Try.prog 39 #[.pointer (some ⟨g, 0, none⟩), .slice a len cap] w (Left w g c (app st (eTexts ss))) := by
  have H := Lib.hid h
  have hsl := h.1
  have hm : len ≤ 65536 ∨ 65536 < len := by omega
  clear h
  have HL := Lib.hid (length_any g c st (len : Int) w hs (by omega))
  have HGB := Lib.hid hgb
  clear hs hgb
  rcases hm with hm | hm
  · have hd : decide ((len : Int) ≤ 65536) = true := by simp; omega
    rw [hd] at HL
    have hfin : app st (eTexts ss) = app (app st (eLen len)) (eStrs ss len) := by rw [eTexts, if_neg (by omega), hsl, app_assoc]
    rw [hfin]
    have hl0 := len_app st (eLen len)
    have hl1 := len_eLen (len : Int)
    generalize app st (eLen len) = s0 at *
    have HLN : Hid (∀ k, k ≤ len → Oct.len (app s0 (eStrs ss k)) + 65544 ≤ 140737488355328) := fun k hk => by
      have := len_app s0 (eStrs ss k)
      have := len_eStrs ss k
      omega
    have HZL := Lib.hid hsl
    clear hd hfin hl0 hl1 hb hsl
    go_enter Try.func39, Try.ntmps39
    go_wp2_with fail
    refine HL.out.mono ?_
    rintro e w1 ⟨rfl, k1, k2⟩
    have K1 := Lib.hid k1
    have K2 := Lib.hid k2
    clear k1 k2
    go_wp2_with fail
    go_loopw [13, 5] (fun i _ wr => ∃ k : Nat, k ≤ len ∧ i = .int .i64 k ∧ OutSt wr g c (app s0 (eStrs ss k)) ∧ OSep g c w wr) (fun i _ _ => len - (intOf i).toNat)
    case atStart => exact ⟨0, by omega, rfl, by rw [eStrs, app_nil]; exact K1.out, K2.out⟩
    case round =>
      obtain ⟨k, hk, rfl, hout, hsep⟩ := hrel
      have HO := Lib.hid hout
      have HS := Lib.hid hsep
      clear hout hsep
      by_cases hlt : (k : Int) < len
      · obtain ⟨b, off, rfl, hb, hcell⟩ := H.out.2 (by omega)
        have hbg := HGB.out (by omega) b off rfl
        have hck : wr.cell? ⟨b, off + k, none⟩ = some (.string (ss.getD k ByteArray.empty)) := (World.cell?_of_block (w := w) (a := ⟨b, off + k, none⟩) (HS.out.sep.block b hbg.2 hbg.1)).trans (hcell k (by omega))
        obtain ⟨z, hz⟩ : ∃ z, z = ss.getD k ByteArray.empty := ⟨_, rfl⟩
        rw [← hz] at hck
        have HZ := Lib.hid hz
        clear hz hcell hbg
        go_wp2_with fail
        refine (text_any g c _ z _ HO.out (HLN.out k (by omega))).mono ?_
        rintro e w2 ⟨rfl, k3, k4⟩
        rw [app_assoc, show app (eStrs ss k) (eText (bs z)) = eStrs ss (k + 1) from by rw [HZ.out]; rfl] at k3
        have K3 := Lib.hid k3
        have K4 := Lib.hid (HS.out.trans k4)
        clear k3 k4
        go_wp2
        refine ⟨⟨k + 1, by omega, by go_num, K3.out, K4.out⟩, by simp [intOf]; omega⟩
      · have hke : k = len := by omega
        subst hke
        go_wp2
        go_end0
        exact ⟨rfl, HO.out, HS.out⟩
  · have hd : decide ((len : Int) ≤ 65536) = false := by simp; omega
    rw [hd] at HL
    have hfin : app st (eTexts ss) = app st (eLen len) := by rw [eTexts, if_pos (by omega), eLen, if_pos (by omega)]
    rw [hfin]
    clear hd hfin hb hsl
    go_enter Try.func39, Try.ntmps39
    go_wp2_with fail
    refine HL.out.mono ?_
    rintro e w1 ⟨rfl, k1, k2⟩
    go_wp2
    refine bodyPost_ret (results_none rfl _ _ _) rfl ?_
    exact ⟨rfl, k1, k2⟩


/-! ### What was written is read again -/
theorem rInt_of (n : Int) (R : List UInt8) (h : ¬ rng n) : rInt (.ok (pb n ++ R)) = (n, .ok R) := by
  have hg := gb_pb n R h
  simp only [rInt, hg]
  rw [if_pos trivial, List.drop_left]
theorem eInt_some {n : Int} {l : List UInt8} (h : eInt n = some l) : ¬ rng n ∧ l = pb n := by
  unfold eInt at h
  split at h
  · cases h
  · rename_i hr
    injection h with h
    exact ⟨hr, h.symm⟩
theorem rBool_of (b : Bool) (R : List UInt8) : rBool (.ok ((if b then 1 else 0) :: R)) = (b, .ok R) := by
  cases b <;> rfl
theorem rLen_of (n : Nat) (m : Int) (R : List UInt8) (hn : n ≤ 65536) (hm : (n : Int) ≤ m) : rLen m (.ok (pb n ++ R)) = ((n : Int), .ok R) := by
  have hr : ¬ rng (n : Int) := by unfold rng; omega
  rw [rLen, rInt_of _ R hr]
  show (if (n : Int) < 0 then _ else if m < (n : Int) then _ else _) = _
  rw [if_neg (by omega), if_neg (by omega)]
theorem eLen_some {n : Nat} {l : List UInt8} (h : eLen (n : Int) = some l) : n ≤ 65536 ∧ l = pb n := by
  unfold eLen at h
  split at h
  · cases h
  · exact ⟨by omega, (eInt_some h).2⟩
theorem app_some {a b : Option (List UInt8)} {l : List UInt8} (h : app a b = some l) : ∃ x y, a = some x ∧ b = some y ∧ l = x ++ y := by
  cases a with
  | none => simp [app] at h
  | some x =>
    cases b with
    | none => simp [app] at h
    | some y =>
      simp only [app] at h
      injection h with h
      exact ⟨x, y, rfl, rfl, h.symm⟩
theorem rText_of (l e R : List UInt8) (h : eText l = some e) : rText (.ok (e ++ R)) = (l, .ok R) := by
  obtain ⟨x, y, h1, h2, h3⟩ := app_some h
  injection h2 with h2
  subst h2
  obtain ⟨h4, h5⟩ := eLen_some h1
  subst h5 h3
  rw [rText, List.append_assoc, rLen_of l.length 65536 (l ++ R) h4 (by omega)]
  show (if ((l ++ R).length : Int) < (l.length : Int) then _ else _) = _
  rw [if_neg (by rw [List.length_append]; omega), Int.toNat_natCast, List.take_left, List.drop_left]
theorem rNums_of (zs : List Int) (k : Nat) (hk : k ≤ zs.length) (e R : List UInt8) (h : eNums zs k = some e) : rNums (.ok (e ++ R)) k = (zs.take k, .ok R) := by
  induction k generalizing e R with
  | zero => simp only [eNums] at h; injection h with h; subst h; rfl
  | succ k ih =>
    obtain ⟨x, y, h1, h2, h3⟩ := app_some h
    obtain ⟨h4, h5⟩ := eInt_some h2
    subst h3 h5
    rw [rNums, List.append_assoc, ih (by omega) x _ h1]
    simp only
    rw [rInt_of _ R h4, List.take_succ_eq_append_getElem (by omega)]
    simp [List.getD, List.getElem?_eq_getElem (show k < zs.length by omega)]
theorem rInts_of (zs : List Int) (e R : List UInt8) (h : eInts zs = some e) (m : Int) (hm : (zs.length : Int) ≤ m) : rInts m (.ok (e ++ R)) = (zs, .ok R) := by
  unfold eInts at h
  split at h
  · cases h
  · obtain ⟨x, y, h1, h2, h3⟩ := app_some h
    obtain ⟨h4, h5⟩ := eLen_some h1
    subst h3 h5
    rw [rInts, List.append_assoc, rLen_of zs.length (min m 65536) _ h4 (by omega), Int.toNat_natCast, rNums_of zs zs.length (Nat.le_refl _) y R h2, List.take_length]
    rfl
theorem rStrs_of (ss : List ByteArray) (k : Nat) (hk : k ≤ ss.length) (e R : List UInt8) (h : eStrs ss k = some e) : rStrs (.ok (e ++ R)) k = ((ss.take k).map bs, .ok R) := by
  induction k generalizing e R with
  | zero => simp only [eStrs] at h; injection h with h; subst h; rfl
  | succ k ih =>
    obtain ⟨x, y, h1, h2, h3⟩ := app_some h
    subst h3
    rw [rStrs, List.append_assoc, ih (by omega) x _ h1]
    simp only
    have hg : ss.getD k ByteArray.empty = ss[k]'(by omega) := by simp [List.getD, List.getElem?_eq_getElem (show k < ss.length by omega)]
    rw [rText_of _ y R h2, hg, List.take_succ_eq_append_getElem (show k < ss.length by omega), List.map_append]
    rfl
theorem rTexts_of (ss : List ByteArray) (e R : List UInt8) (h : eTexts ss = some e) (m : Int) (hm : (ss.length : Int) ≤ m) : rTexts m (.ok (e ++ R)) = (ss.map bs, .ok R) := by
  unfold eTexts at h
  split at h
  · cases h
  · obtain ⟨x, y, h1, h2, h3⟩ := app_some h
    obtain ⟨h4, h5⟩ := eLen_some h1
    subst h3 h5
    rw [rTexts, List.append_assoc, rLen_of ss.length (min m 65536) _ h4 (by omega), Int.toNat_natCast, rStrs_of ss ss.length (Nat.le_refl _) y R h2, List.take_length]
    rfl

/-! ### An item -/
/-- The bytes of an item. -/
def eItem (k n : Int) (b : Bool) (t : ByteArray) (zs : List Int) (ss : List ByteArray) : Option (List UInt8) :=
  if kindOf k = 0 then eInt n else if kindOf k = 1 then eBool b else if kindOf k = 2 then eText (bs t) else if kindOf k = 3 then eInts zs else eTexts ss

set_option maxHeartbeats 1000000 in
/-- An item that goes to an Out. -/
theorem item_any (g c : Nat) (st : Option (List UInt8)) (k n : Int) (b : Bool) (t : ByteArray) (ia sa : Option Addr) (il ic sl sc : Nat) (zs : List Int) (ss : List ByteArray) (w : World) (ho : OutSt w g c st) (hb : Oct.len st + 5000000000 ≤ 140737488355328) (hn : Nums w ia il zs) (hs : Strs w sa sl ss)
    (hi : 0 < il → ∀ b off, ia = some ⟨b, off, none⟩ → b ≠ g ∧ b < c) (hi2 : 0 < sl → ∀ b off, sa = some ⟨b, off, none⟩ → b ≠ g ∧ b < c) :
    Calls Try.prog 15 #[.pointer (some ⟨g, 0, none⟩), .agg #[.int .i64 k, .int .i64 n, .bool b, .string t, .slice ia il ic, .slice sa sl sc]] w (Left w g c (app st (eItem k n b t zs ss))) := by
  have HO := Lib.hid ho
  have hcw := ho.lt.2
  have HN := Lib.hid hn
  have HS := Lib.hid hs
  have HI := Lib.hid hi
  have HI2 := Lib.hid hi2
  clear hn hs ho hi hi2
  obtain ⟨b1, b2⟩ := kindOf_bd k
  have HQ : Hid (eItem k n b t zs ss = if kindOf k = 0 then eInt n else if kindOf k = 1 then eBool b else if kindOf k = 2 then eText (bs t) else if kindOf k = 3 then eInts zs else eTexts ss) := rfl
  have hk : kindOf k = 0 ∨ kindOf k = 1 ∨ kindOf k = 2 ∨ kindOf k = 3 ∨ kindOf k = 4 := by omega
  have HK : Hid (∀ W : World, Calls Try.prog 16 #[.agg #[.int .i64 k, .int .i64 n, .bool b, .string t, .slice ia il ic, .slice sa sl sc]] W fun e w' => e = .returned (.int .i64 (kindOf k)) ∧ Below W.heap.size W w') := fun W => kind_any k n b t _ _ W
  rw [HQ.out]
  generalize kindOf k = kd at *
  have hc : ∀ (i : Nat) (W : World), Below (w.heap.size + 1) (w.alloc (.cells #[.int .i64 k, .int .i64 n, .bool b, .string t, .slice ia il ic, .slice sa sl sc] 39)) W →
      W.cell? ⟨w.heap.size, i, none⟩ = (#[.int .i64 k, .int .i64 n, .bool b, .string t, .slice ia il ic, .slice sa sl sc] : Array Value)[i]? := fun i W hW =>
    (hW.cell (p := ⟨w.heap.size, i, none⟩) (by simp)).trans (cell_of_row _ _ i _ _ _ (heap_alloc_new w _))
  have HCC := Lib.hid hc
  clear hc b1 b2 HQ
  rcases hk with rfl | rfl | rfl | rfl | rfl
  · rw [if_pos rfl]
    go_enter Try.func15, Try.ntmps15
    go_wp2_with fail
    refine (HK.out _).mono ?_
    rintro e w1 ⟨rfl, k1⟩
    have c1 := HCC.out 1 w1 (k1.mono (by simp))
    have B1 := Lib.hid ((((Below.refl w.heap.size w).alloc (Nat.le_refl _) _).trans (k1.mono (by simp))))
    clear k1
    go_wp2_with fail
    refine (int_any g c st n _ (HO.out.below B1.out) (by omega)).mono ?_
    rintro e w2 ⟨rfl, k2, k3⟩
    go_wp2
    go_end0
    exact ⟨rfl, k2, (OSep.of_below B1.out hcw).trans k3⟩
  · rw [if_neg (by decide), if_pos rfl]
    go_enter Try.func15, Try.ntmps15
    go_wp2_with fail
    refine (HK.out _).mono ?_
    rintro e w1 ⟨rfl, k1⟩
    have c1 := HCC.out 2 w1 (k1.mono (by simp))
    have B1 := Lib.hid ((((Below.refl w.heap.size w).alloc (Nat.le_refl _) _).trans (k1.mono (by simp))))
    clear k1
    go_wp2_with fail
    refine (bool_any g c st b _ (HO.out.below B1.out) (by omega)).mono ?_
    rintro e w2 ⟨rfl, k2, k3⟩
    go_wp2
    go_end0
    exact ⟨rfl, k2, (OSep.of_below B1.out hcw).trans k3⟩
  · rw [if_neg (by decide), if_neg (by decide), if_pos rfl]
    go_enter Try.func15, Try.ntmps15
    go_wp2_with fail
    refine (HK.out _).mono ?_
    rintro e w1 ⟨rfl, k1⟩
    have c1 := HCC.out 3 w1 (k1.mono (by simp))
    have B1 := Lib.hid ((((Below.refl w.heap.size w).alloc (Nat.le_refl _) _).trans (k1.mono (by simp))))
    clear k1
    go_wp2_with fail
    refine (text_any g c st t _ (HO.out.below B1.out) (by omega)).mono ?_
    rintro e w2 ⟨rfl, k2, k3⟩
    go_wp2
    go_end0
    exact ⟨rfl, k2, (OSep.of_below B1.out hcw).trans k3⟩
  · rw [if_neg (by decide), if_neg (by decide), if_neg (by decide), if_pos rfl]
    go_enter Try.func15, Try.ntmps15
    go_wp2_with fail
    refine (HK.out _).mono ?_
    rintro e w1 ⟨rfl, k1⟩
    have c1 := HCC.out 4 w1 (k1.mono (by simp))
    have B1 := Lib.hid ((((Below.refl w.heap.size w).alloc (Nat.le_refl _) _).trans (k1.mono (by simp))))
    clear k1
    go_wp2_with fail
    refine (ints_any g c st ia il ic zs _ (HO.out.below B1.out) (HN.out.below B1.out) (by omega) HI.out).mono ?_
    rintro e w2 ⟨rfl, k2, k3⟩
    go_wp2
    go_end0
    exact ⟨rfl, k2, (OSep.of_below B1.out hcw).trans k3⟩
  · rw [if_neg (by decide), if_neg (by decide), if_neg (by decide), if_neg (by decide)]
    go_enter Try.func15, Try.ntmps15
    go_wp2_with fail
    refine (HK.out _).mono ?_
    rintro e w1 ⟨rfl, k1⟩
    have c1 := HCC.out 5 w1 (k1.mono (by simp))
    have B1 := Lib.hid ((((Below.refl w.heap.size w).alloc (Nat.le_refl _) _).trans (k1.mono (by simp))))
    clear k1
    go_wp2_with fail
    refine (texts_any g c st sa sl sc ss _ (HO.out.below B1.out) (HS.out.below B1.out) (by omega) HI2.out).mono ?_
    rintro e w2 ⟨rfl, k2, k3⟩
    go_wp2
    go_end0
    exact ⟨rfl, k2, (OSep.of_below B1.out hcw).trans k3⟩

/-- Too much to be played. -/
def isLarge (t : ByteArray) (il : Nat) (ss : List ByteArray) : Prop := 2000 < t.size ∨ 200 < il ∨ 200 < ss.length ∨ ∃ s ∈ ss, 500 < s.size

/-- What large tells. -/
def Says (Q : Prop) (w : World) (e : Ending) (w' : World) : Prop := ∃ v, e = .returned (.bool v) ∧ (v = true ∨ ¬ Q) ∧ Below w.heap.size w w'

set_option maxHeartbeats 1000000 in
theorem large_any (k n : Int) (b : Bool) (t : ByteArray) (ia sa : Option Addr) (il ic sl sc : Nat) (ss : List ByteArray) (w : World) (hs : Strs w sa sl ss) (ht : t.size ≤ 9223372036854775807) (hil : il ≤ 9223372036854775807) (hsl : sl ≤ 9223372036854775807) :
    Calls Try.prog 14 #[.agg #[.int .i64 k, .int .i64 n, .bool b, .string t, .slice ia il ic, .slice sa sl sc]] w (Says (isLarge t il ss) w) := by
  have HS := Lib.hid hs
  have hlen := hs.1
  have HL := Lib.hid hlen
  clear hs hlen
  have hcase : 2000 < (t.size : Int) ∨ ((t.size : Int) ≤ 2000 ∧ 200 < (il : Int)) ∨ ((t.size : Int) ≤ 2000 ∧ (il : Int) ≤ 200 ∧ 200 < (sl : Int)) ∨ ((t.size : Int) ≤ 2000 ∧ (il : Int) ≤ 200 ∧ (sl : Int) ≤ 200) := by omega
  rcases hcase with h1 | ⟨h1, h2⟩ | ⟨h1, h2, h3⟩ | ⟨h1, h2, h3⟩
  · go_enter Try.func14, Try.ntmps14
    go_wp2
    go_ret
    exact ⟨true, rfl, .inl rfl, (Below.refl _ _).alloc (Nat.le_refl _) _⟩
  · go_enter Try.func14, Try.ntmps14
    go_wp2
    go_ret
    exact ⟨true, rfl, .inl rfl, (Below.refl _ _).alloc (Nat.le_refl _) _⟩
  · go_enter Try.func14, Try.ntmps14
    go_wp2
    go_ret
    exact ⟨true, rfl, .inl rfl, (Below.refl _ _).alloc (Nat.le_refl _) _⟩
  · go_enter Try.func14, Try.ntmps14
    go_wp2
    go_loop [3] (fun i => ∃ j : Nat, j ≤ sl ∧ i = .int .i64 j ∧ ∀ m, m < j → (ss.getD m ByteArray.empty).size ≤ 500) (fun i => sl - (intOf i).toNat)
    case atStart => exact ⟨0, by omega, rfl, fun m hm => absurd hm (by omega)⟩
    case round =>
      obtain ⟨j, hj, rfl, hall⟩ := hrel
      have HA := Lib.hid hall
      clear hall
      by_cases hlt : (j : Int) < sl
      · obtain ⟨p, po, rfl, hp, hpc⟩ := HS.out.2 (by omega)
        have hc := hpc j (by omega)
        obtain ⟨s, hs⟩ : ∃ s, s = ss.getD j ByteArray.empty := ⟨_, rfl⟩
        rw [← hs] at hc
        have HSS := Lib.hid hs
        clear hs hpc
        have hc2 : ∀ o, (w.alloc o).cell? ⟨p, po + j, none⟩ = some (.string s) := fun o => (World.cell?_alloc_lt w o _ hp).trans hc
        by_cases hb : 500 < (s.size : Int)
        · go_wp2
          go_ret
          exact ⟨true, rfl, .inl rfl, (Below.refl _ _).alloc (Nat.le_refl _) _⟩
        · go_wp2
          refine ⟨⟨j + 1, by omega, by go_num, fun m hm => ?_⟩, by simp [intOf]; omega⟩
          rcases Nat.lt_or_ge m j with h9 | h9
          · exact HA.out m h9
          · have : m = j := by omega
            subst this
            rw [← HSS.out]; omega
      · go_wp2
        go_ret
        refine ⟨false, rfl, .inr ?_, (Below.refl _ _).alloc (Nat.le_refl _) _⟩
        rintro (h | h | h | ⟨s, hs, h⟩)
        · omega
        · omega
        · have := HL.out; omega
        · obtain ⟨m, hm, rfl⟩ := List.mem_iff_getElem.1 hs
          have h8 := HA.out m (by have := HL.out; omega)
          have h7 : ss.getD m ByteArray.empty = ss[m] := by simp [List.getD, List.getElem?_eq_getElem hm]
          rw [h7] at h8
          omega

end Go.Proofs.Ytjemofhppljcbaa.Oct
