/-
  The walks of an Out's methods, on: a yes or no, a length, a text; the bytes of all.
  (*octets.Out).Texts by itself.
-/
import Derived.Test.YtbkfbejbloclgaaOctOut3
import Derived.Laws.BytesArg

namespace Go.Proofs.Ytbkfbejbloclgaa.Oct
open Go.RowKit

/-- The bytes of a yes or no, of a length or a count, of a text. -/
def eBool (b : Bool) : Option (List UInt8) := some [if b then 1 else 0]
def eLen (n : Int) : Option (List UInt8) := if 65536 < n then none else eInt n
def eText (l : List UInt8) : Option (List UInt8) := app (eLen l.length) (some l)

/-- What a call leaves that tells a bool, too. -/
def LeftB (w : World) (g c : Nat) (b : Bool) (st : Option (List UInt8)) (e : Ending) (w' : World) : Prop := e = .returned (.bool b) ∧ OutSt w' g c st ∧ OSep g c w w'

theorem length_nil (n : Int) (w : World) :
    Calls Try.prog 58 #[.pointer none, .int .i64 n] w fun e w' => e = .returned (.bool (decide (n ≤ 65536))) ∧ Below w.heap.size w w' := by
  by_cases h : 65536 < n
  · have hd : decide (n ≤ 65536) = false := by simp; omega
    rw [hd]
    go_enter Try.func58, Try.ntmps58
    go_wp2_with fail
    refine (spoil_nil _).mono ?_
    rintro e w' ⟨rfl, rfl⟩
    go_wp2
    go_ret
    exact ⟨rfl, Below.refl _ _⟩
  · have hd : decide (n ≤ 65536) = true := by simp; omega
    rw [hd]
    have h' : n ≤ 65536 := by omega
    clear hd h
    go_enter Try.func58, Try.ntmps58
    go_wp2_with fail
    refine (int_nil _ _).mono ?_
    rintro e w' ⟨rfl, hb⟩
    go_wp2
    go_ret
    exact ⟨rfl, hb⟩

theorem length_any (g c : Nat) (st : Option (List UInt8)) (n : Int) (w : World) (h : OutSt w g c st) (hb : len st + 8 ≤ 140737488355328) :
    Calls Try.prog 58 #[.pointer (some ⟨g, 0, none⟩), .int .i64 n] w (LeftB w g c (decide (n ≤ 65536)) (app st (eLen n))) := by
  have HS := Lib.hid h
  clear h
  by_cases h : 65536 < n
  · have hd : decide (n ≤ 65536) = false := by simp; omega
    have hfin : app st (eLen n) = none := by rw [eLen, if_pos h, app_none]
    rw [hd, hfin]
    clear hd hfin
    go_enter Try.func58, Try.ntmps58
    go_wp2_with fail
    refine (spoil_any g c st _ HS.out).mono ?_
    rintro e w' ⟨rfl, h1, h2⟩
    go_wp2
    go_ret
    exact ⟨rfl, h1, h2⟩
  · have hd : decide (n ≤ 65536) = true := by simp; omega
    have hfin : app st (eLen n) = app st (eInt n) := by rw [eLen, if_neg h]
    rw [hd, hfin]
    have h' : n ≤ 65536 := by omega
    clear hd hfin h
    go_enter Try.func58, Try.ntmps58
    go_wp2_with fail
    refine (int_any g c st n _ HS.out hb).mono ?_
    rintro e w' ⟨rfl, h1, h2⟩
    go_wp2
    go_ret
    exact ⟨rfl, h1, h2⟩

theorem text_nil (s : ByteArray) (w : World) :
    Calls Try.prog 25 #[.pointer none, .string s] w fun e w' => e = .returned (.tuple #[]) ∧ Below w.heap.size w w' := by
  cases hd : decide ((s.size : Int) ≤ 65536) with
  | false =>
    have H : ∀ W : World, Calls Try.prog 58 #[.pointer none, .int .i64 s.size] W fun e w' => e = .returned (.bool false) ∧ Below W.heap.size W w' := fun W => by rw [← hd]; exact length_nil _ W
    have HC := Lib.hid H
    clear H hd
    go_enter Try.func25, Try.ntmps25
    go_wp2_with fail
    refine (HC.out _).mono ?_
    rintro e w' ⟨rfl, hb⟩
    go_wp2
    go_end0
    exact ⟨rfl, hb⟩
  | true =>
    have H : ∀ W : World, Calls Try.prog 58 #[.pointer none, .int .i64 s.size] W fun e w' => e = .returned (.bool true) ∧ Below W.heap.size W w' := fun W => by rw [← hd]; exact length_nil _ W
    have HC := Lib.hid H
    clear H hd
    go_enter Try.func25, Try.ntmps25
    go_wp2_with fail
    refine (HC.out _).mono ?_
    rintro e w' ⟨rfl, hb⟩
    go_wp2_with fail
    refine (write_nil _ _).mono ?_
    rintro e w' ⟨rfl, rfl⟩
    go_wp2
    go_end0
    exact ⟨rfl, hb⟩

theorem len_app (a b : Option (List UInt8)) : len (app a b) ≤ len a + len b := by
  cases a <;> cases b <;> simp [app, len]
theorem len_eInt (n : Int) : len (eInt n) ≤ 8 := by
  unfold eInt
  split
  · simp [len]
  · simpa [len] using pb_len n
theorem len_eLen (n : Int) : len (eLen n) ≤ 8 := by
  unfold eLen
  split
  · simp [len]
  · exact len_eInt n

theorem text_any (g c : Nat) (st : Option (List UInt8)) (s : ByteArray) (w : World) (h : OutSt w g c st) (hb : len st + 65544 ≤ 140737488355328) :
    Calls Try.prog 25 #[.pointer (some ⟨g, 0, none⟩), .string s] w (Left w g c (app st (eText (bs s)))) := by
  have HS := Lib.hid h
  clear h
  have hl : ((bs s).length : Int) = (s.size : Int) := rfl
  cases hd : decide ((s.size : Int) ≤ 65536) with
  | false =>
    have H : ∀ W : World, OutSt W g c st → Calls Try.prog 58 #[.pointer (some ⟨g, 0, none⟩), .int .i64 s.size] W (LeftB W g c false (app st (eLen s.size))) := fun W hW => by rw [← hd]; exact length_any g c st _ W hW (by omega)
    have hfin : app st (eText (bs s)) = app st (eLen s.size) := by
      have : 65536 < (s.size : Int) := by have := of_decide_eq_false hd; omega
      rw [eText, hl, eLen, if_pos this]; simp [app]
    rw [hfin]
    have HC := Lib.hid H
    clear H hd hfin hl
    go_enter Try.func25, Try.ntmps25
    go_wp2_with fail
    refine (HC.out _ HS.out).mono ?_
    rintro e w' ⟨rfl, h1, h2⟩
    go_wp2
    go_end0
    exact ⟨rfl, h1, h2⟩
  | true =>
    have H : ∀ W : World, OutSt W g c st → Calls Try.prog 58 #[.pointer (some ⟨g, 0, none⟩), .int .i64 s.size] W (LeftB W g c true (app st (eLen s.size))) := fun W hW => by rw [← hd]; exact length_any g c st _ W hW (by omega)
    have hsz : s.size ≤ 65536 := by have := of_decide_eq_true hd; omega
    have hfin : app st (eText (bs s)) = app (app st (eLen s.size)) (some (bs s)) := by rw [eText, hl, app_assoc]
    rw [hfin]
    have hlen : len (app st (eLen s.size)) ≤ len st + 8 := by have := len_app st (eLen s.size); have := len_eLen s.size; omega
    have HC := Lib.hid H
    clear H hd hfin hl
    go_enter Try.func25, Try.ntmps25
    go_wp2_with fail
    refine (HC.out _ HS.out).mono ?_
    rintro e w' ⟨rfl, h1, h2⟩
    go_wp2_with fail
    refine (write_any g c _ s _ h1 (by omega)).mono ?_
    rintro e w'' ⟨rfl, h3, h4⟩
    go_wp2
    go_end0
    exact ⟨rfl, h3, h2.trans h4⟩

/-! ### Bytes -/
theorem bytes_nil (w : World) :
    Calls Try.prog 27 #[.pointer none] w fun e w' => e = .returned (.tuple #[.string ⟨#[]⟩, .bool false]) ∧ w = w' := by
  go_enter Try.func27, Try.ntmps27
  go_wp2
  go_ret2
  exact ⟨rfl, rfl⟩

def Drew (w w' : World) : Prop := ∃ n, w' = w.drewN n
def Wr (A : Option Addr) (n cap : Nat) (w : World) (e : Ending) (w' : World) : Prop := e = .returned (.slice A n cap) ∧ Drew w w'

theorem written_more (g c h : Nat) (A : Option Addr) (cap : Nat) (l : List UInt8) (w : World)
    (hg : w.heap[g]? = some (obj (.pointer (some ⟨h, 0, none⟩)) (.int .i64 l.length) (.bool false)))
    (hh : w.heap[h]? = some (.cells #[.slice A l.length cap] 125 (0, 0)))
    (hown : w.ownsRow c 5 1 (.slice A l.length cap) l.length (l.map u8v)) :
    Calls Try.prog 59 #[.pointer (some ⟨g, 0, none⟩)] w (Wr A l.length cap w) := by
  have hcap : l.length ≤ cap := by
    rcases hown.2 with ⟨h1, h2⟩ | ⟨r, cp, cur, hv, _, _, h3, _⟩
    · omega
    · injection hv; omega
  have c0 : w.cell? ⟨g, 0, none⟩ = some (.pointer (some ⟨h, 0, none⟩)) := cell_of_row w g 0 _ _ (0, 0) hg
  have c1 : w.cell? ⟨g, 1, none⟩ = some (.int .i64 l.length) := cell_of_row w g 1 _ _ (0, 0) hg
  have d0 : w.cell? ⟨h, 0, none⟩ = some (.slice A l.length cap) := cell_of_row w h 0 _ _ (0, 0) hh
  have hi : (l.length : Int) ≤ cap := by omega
  clear hg hh hown
  go_enter Try.func59, Try.ntmps59
  go_wp2
  go_quiet (fail)
  go_wp2
  go_ret
  exact ⟨rfl, _, rfl⟩

end Go.Proofs.Ytbkfbejbloclgaa.Oct

namespace Go.Proofs.Ytbkfbejbloclgaa.Oct
open Go.RowKit

def Strs (w : World) (a : Option Addr) (len : Nat) (ss : List ByteArray) : Prop :=
  ss.length = len ∧ (0 < len → ∃ b off, a = some ⟨b, off, none⟩ ∧ b < w.heap.size ∧ ∀ i, i < len → w.cell? ⟨b, off + i, none⟩ = some (.string (ss.getD i ByteArray.empty)))
theorem app_nil (a : Option (List UInt8)) : app a (some []) = a := by cases a <;> simp [app]
theorem len_eText (l : List UInt8) : Oct.len (eText l) ≤ 65544 := by
  unfold eText
  by_cases h : 65536 < (l.length : Int)
  · rw [eLen, if_pos h]; simp [app, Oct.len]
  · have h1 := len_app (eLen l.length) (some l)
    have h2 := len_eLen (l.length : Int)
    have h3 : Oct.len (some l) = l.length := rfl
    omega
/-- The bytes of the first k texts of a list. -/
def eStrs (ss : List ByteArray) : Nat → Option (List UInt8)
  | 0 => some []
  | k + 1 => app (eStrs ss k) (eText (bs (ss.getD k ByteArray.empty)))
theorem len_eStrs (ss : List ByteArray) (k : Nat) : Oct.len (eStrs ss k) ≤ 65544 * k := by
  induction k with
  | zero => simp [eStrs, Oct.len]
  | succ k ih =>
    have := len_app (eStrs ss k) (eText (bs (ss.getD k ByteArray.empty)))
    have := len_eText (bs (ss.getD k ByteArray.empty))
    simp only [eStrs]
    omega
def eTexts (ss : List ByteArray) : Option (List UInt8) := if 65536 < ss.length then none else app (eLen ss.length) (eStrs ss ss.length)

set_option maxHeartbeats 1000000 in
theorem texts_any (g c : Nat) (st : Option (List UInt8)) (a : Option Addr) (len cap : Nat) (ss : List ByteArray) (w : World) (hs : OutSt w g c st) (h : Strs w a len ss) (hb : Oct.len st + 5000000000 ≤ 140737488355328)
    (hgb : 0 < len → ∀ b off, a = some ⟨b, off, none⟩ → b ≠ g ∧ b < c) :
    Calls Try.prog 26 #[.pointer (some ⟨g, 0, none⟩), .slice a len cap] w (Left w g c (app st (eTexts ss))) := by
  have H := Lib.hid h
  have hsl := h.1
  have hm : len ≤ 65536 ∨ 65536 < len := by omega
  clear h
  have HL := Lib.hid (length_any g c st (len : Int) w hs (by omega))
  have HGB := Lib.hid hgb
  clear hs hgb
  rcases hm with hm | hm
  · have hd : decide ((len : Int) ≤ 65536) = true := by simp; omega
    rw [hd] at HL
    have hfin : app st (eTexts ss) = app (app st (eLen len)) (eStrs ss len) := by rw [eTexts, if_neg (by omega), hsl, app_assoc]
    rw [hfin]
    have hl0 := len_app st (eLen len)
    have hl1 := len_eLen (len : Int)
    generalize app st (eLen len) = s0 at *
    have HLN : Hid (∀ k, k ≤ len → Oct.len (app s0 (eStrs ss k)) + 65544 ≤ 140737488355328) := fun k hk => by
      have := len_app s0 (eStrs ss k)
      have := len_eStrs ss k
      omega
    have HZL := Lib.hid hsl
    clear hd hfin hl0 hl1 hb hsl
    go_enter Try.func26, Try.ntmps26
    go_wp2_with fail
    refine HL.out.mono ?_
    rintro e w1 ⟨rfl, k1, k2⟩
    have K1 := Lib.hid k1
    have K2 := Lib.hid k2
    clear k1 k2
    go_wp2_with fail
    go_loopw [13, 5] (fun i _ wr => ∃ k : Nat, k ≤ len ∧ i = .int .i64 k ∧ OutSt wr g c (app s0 (eStrs ss k)) ∧ OSep g c w wr) (fun i _ _ => len - (intOf i).toNat)
    case atStart => exact ⟨0, by omega, rfl, by rw [eStrs, app_nil]; exact K1.out, K2.out⟩
    case round =>
      obtain ⟨k, hk, rfl, hout, hsep⟩ := hrel
      have HO := Lib.hid hout
      have HS := Lib.hid hsep
      clear hout hsep
      by_cases hlt : (k : Int) < len
      · obtain ⟨b, off, rfl, hb, hcell⟩ := H.out.2 (by omega)
        have hbg := HGB.out (by omega) b off rfl
        have hck : wr.cell? ⟨b, off + k, none⟩ = some (.string (ss.getD k ByteArray.empty)) := (World.cell?_of_block (w := w) (a := ⟨b, off + k, none⟩) (HS.out.sep.block b hbg.2 hbg.1)).trans (hcell k (by omega))
        obtain ⟨z, hz⟩ : ∃ z, z = ss.getD k ByteArray.empty := ⟨_, rfl⟩
        rw [← hz] at hck
        have HZ := Lib.hid hz
        clear hz hcell hbg
        go_wp2_with fail
        refine (text_any g c _ z _ HO.out (HLN.out k (by omega))).mono ?_
        rintro e w2 ⟨rfl, k3, k4⟩
        rw [app_assoc, show app (eStrs ss k) (eText (bs z)) = eStrs ss (k + 1) from by rw [HZ.out]; rfl] at k3
        have K3 := Lib.hid k3
        have K4 := Lib.hid (HS.out.trans k4)
        clear k3 k4
        go_wp2
        refine ⟨⟨k + 1, by omega, by go_num, K3.out, K4.out⟩, by simp [intOf]; omega⟩
      · have hke : k = len := by omega
        subst hke
        go_wp2
        go_end0
        exact ⟨rfl, HO.out, HS.out⟩
  · have hd : decide ((len : Int) ≤ 65536) = false := by simp; omega
    rw [hd] at HL
    have hfin : app st (eTexts ss) = app st (eLen len) := by rw [eTexts, if_pos (by omega), eLen, if_pos (by omega)]
    rw [hfin]
    clear hd hfin hb hsl
    go_enter Try.func26, Try.ntmps26
    go_wp2_with fail
    refine HL.out.mono ?_
    rintro e w1 ⟨rfl, k1, k2⟩
    go_wp2
    refine bodyPost_ret (results_none rfl _ _ _) rfl ?_
    exact ⟨rfl, k1, k2⟩


set_option maxRecDepth 100000
/-- What Bytes tells. -/
def Told (st : Option (List UInt8)) (w : World) (e : Ending) (w' : World) : Prop := e = .returned (.tuple #[.string ⟨(st.getD []).toArray⟩, .bool st.isSome]) ∧ Drew w w'

theorem own_string (w : World) (c : Nat) (A : Option Addr) (cap : Nat) (l : List UInt8) (hown : w.ownsRow c 5 1 (.slice A l.length cap) l.length (l.map u8v)) (n : Nat) :
    (convert 100 9 (.slice A l.length cap)).run Try.prog (w.drewN n) = .ok (.string ⟨l.toArray⟩) (w.drewN n) := by
  rcases hown.2 with ⟨h1, h2⟩ | ⟨r, cp, cur, hv, _⟩
  · have hl : l = [] := List.eq_nil_of_length_eq_zero (by simpa using h2)
    subst hl
    injection h1 with h1 h3 h4
    subst h1
    exact run_convert_bytes_nil _ 100 5 Try.underlying100 Try.underlying5 _ _ 9 Try.underlying9
  · have hA : A = some ⟨r, 0, none⟩ := by injection hv
    subst hA
    have hc := hown.cells (g := r) rfl
    exact run_convert_bytes_back (P := Try.prog) (w.drewN n) 100 9 5 ⟨r, 0, none⟩ cap l Try.underlying100 Try.underlying5 Try.underlying9 (fun j hj => by
      refine (hc j _ ?_)
      rw [List.getElem?_map, List.getElem?_eq_getElem hj]
      rfl)

theorem bytes_bad (g c : Nat) (w : World) (h : OutSt w g c none) :
    Calls Try.prog 27 #[.pointer (some ⟨g, 0, none⟩)] w (Told none w) := by
  have c2 : w.cell? ⟨g, 2, none⟩ = some (.bool true) := cell_of_row w g 2 _ _ (0, 0) h.2.2
  clear h
  go_enter Try.func27, Try.ntmps27
  go_wp2
  go_ret2
  exact ⟨rfl, 0, rfl⟩

theorem bytes_any (g c : Nat) (st : Option (List UInt8)) (w : World) (h : OutSt w g c st) :
    Calls Try.prog 27 #[.pointer (some ⟨g, 0, none⟩)] w (Told st w) := by
  cases st with
  | none => exact bytes_bad g c w h
  | some l =>
    rcases h.2.2 with ⟨rfl, hg⟩ | ⟨k, A, cap, hk, hg, hh, hown⟩
    · have c0 : w.cell? ⟨g, 0, none⟩ = some (.pointer none) := cell_of_row w g 0 _ _ (0, 0) hg
      have c2 : w.cell? ⟨g, 2, none⟩ = some (.bool false) := cell_of_row w g 2 _ _ (0, 0) hg
      have hcv : (convert 100 9 (.slice none 0 0)).run Try.prog w = .ok (.string ByteArray.empty) w :=
        run_convert_bytes_nil w 100 5 Try.underlying100 Try.underlying5 0 0 9 Try.underlying9
      clear h hg
      go_enter Try.func27, Try.ntmps27
      go_wp2_with fail
      refine (written_nil _ _ c0).mono ?_
      rintro e w' ⟨rfl, rfl⟩
      go_wp2
      go_ret2
      exact ⟨rfl, 0, rfl⟩
    · have c2 : w.cell? ⟨g, 2, none⟩ = some (.bool false) := cell_of_row w g 2 _ _ (0, 0) hg
      have HW : Hid (∀ W, W = w → Calls Try.prog 59 #[.pointer (some ⟨g, 0, none⟩)] W (Wr A l.length cap W)) := fun W hW => by subst hW; exact written_more g c k A cap l W hg hh hown
      obtain ⟨t, ht⟩ : ∃ t : ByteArray, t = ⟨l.toArray⟩ := ⟨_, rfl⟩
      have hcv := own_string w c A cap l hown
      rw [← ht] at hcv
      have hfin : Told (some l) w = fun e w' => e = .returned (.tuple #[.string t, .bool true]) ∧ Drew w w' := by rw [ht]; rfl
      rw [hfin]
      clear h hg hh hown ht hfin
      go_enter Try.func27, Try.ntmps27
      go_wp2_with fail
      refine (HW.out _ rfl).mono ?_
      rintro e w' ⟨rfl, n, rfl⟩
      go_wp2
      go_ret2
      exact ⟨rfl, _, rfl⟩

theorem OutSt.new (w : World) : OutSt (w.alloc (obj (.pointer none) (.int .i64 0) (.bool false))) w.heap.size (w.heap.size + 1) (some []) :=
  ⟨by omega, by simp, .inl ⟨rfl, heap_alloc_new w _⟩⟩

theorem Drew.below {w w' : World} (h : Drew w w') (B : Nat) : Below B w w' := by
  obtain ⟨n, rfl⟩ := h
  exact ⟨rfl, rfl, rfl, Nat.le_refl _, fun _ _ => rfl⟩

end Go.Proofs.Ytbkfbejbloclgaa.Oct
