/-
  Layer 21: commands in plain words; the document's text and texts.
-/
import Derived.Test.YtbkfbejbloclgaaGn
import Derived.Test.YtbkfbejbloclgaaRlRef
import Derived.Test.YtbkfbejbloclgaaOctRefPut
import Derived.Test.YtbkfbejbloclgaaCmGood
import Derived.Test.YtbkfbejbloclgaaCmMk
namespace Go.Proofs.Ytbkfbejbloclgaa.Cm
open Go.RowKit
open Oct (pb bs Strs)
open Lx (goodB)
set_option maxRecDepth 100000
set_option linter.unusedSimpArgs false
set_option linter.unusedVariables false
def mkS (l : List UInt8) : ByteArray := ⟨l.toArray⟩
def BIG : Nat := 9223372036854775807
def qText (s : ByteArray) : List UInt8 := pb s.size ++ bs s
def qStrs (l : List ByteArray) : List UInt8 := (l.map qText).flatten
def qTexts (l : List ByteArray) : List UInt8 := pb l.length ++ qStrs l
theorem mkS_size (l : List UInt8) : (mkS l).size = l.length := by show l.toArray.size = _; simp
theorem mkS_add (l k : List UInt8) : mkS l ++ mkS k = mkS (l ++ k) := by
  apply ByteArray.ext
  simp [mkS]
theorem split_at {α : Type} (f : α → List UInt8) (l : List α) (k : Nat) (h : k < l.length) : ((l.take (k + 1)).map f).flatten = ((l.take k).map f).flatten ++ f l[k] := by
  rw [List.take_succ_eq_append_getElem h, List.map_append, List.flatten_append]
  simp
theorem part_le {α : Type} (f : α → List UInt8) (l : List α) (k : Nat) : ((l.take k).map f).flatten.length ≤ ((l.map f).flatten).length := by
  have h := List.take_append_drop k l
  have : (l.map f).flatten = ((l.take k).map f).flatten ++ ((l.drop k).map f).flatten := by rw [← List.flatten_append, ← List.map_append, h]
  rw [this, List.length_append]
  omega

theorem Strs.under {w w' : World} {a : Option Addr} {n : Nat} {ss : List ByteArray} (h : Strs w a n ss) (b : Below w.heap.size w w') : Strs w' a n ss := by
  refine ⟨h.1, fun h0 => ?_⟩
  obtain ⟨r, off, e, hr, hc⟩ := h.2 h0
  exact ⟨r, off, e, by have := b.size; omega, fun i hi => (b.cell (p := ⟨r, off + i, none⟩) hr).trans (hc i hi)⟩
theorem Strs.get {w : World} {a : Option Addr} {n : Nat} {ss : List ByteArray} (h : Strs w a n ss) (k : Nat) (hk : k < n) : ∃ b off, a = some ⟨b, off, none⟩ ∧ b < w.heap.size ∧ w.cell? ⟨b, off + k, none⟩ = some (.string (ss[k]'(by rw [h.1]; exact hk))) := by
  obtain ⟨b, off, e, hb, hc⟩ := h.2 (by omega)
  refine ⟨b, off, e, hb, ?_⟩
  rw [hc k hk, List.getD_eq_getElem?_getD, List.getElem?_eq_getElem (by rw [h.1]; exact hk)]
  rfl
set_option maxHeartbeats 2000000 in
theorem rtext_any (s : ByteArray) (hs : (qText s).length ≤ BIG) (W : World) : Calls Try.prog 36 #[.string s] W fun e w' => e = .returned (.string (mkS (qText s))) ∧ Below W.heap.size W w' := by
  have HP := Lib.hid (fun w => Oct.rput_any s.size w)
  have hl : (pb s.size).length + (bs s).length ≤ BIG := by unfold qText at hs; rwa [List.length_append] at hs
  have hss : mkS (bs s) = s := by cases s; rfl
  obtain ⟨x1, hx1⟩ : ∃ x, x = mkS (pb s.size) := ⟨_, rfl⟩
  have HP := Lib.hid (fun w => show Calls Try.prog 35 #[.int .i64 s.size] w fun e w' => e = .returned (.string x1) ∧ Below w.heap.size w w' by rw [hx1]; exact HP.out w)
  have hsz : ¬ 9223372036854775807 < x1.size + s.size := by
    have h2 : s.size = (bs s).length := by cases s; simp [bs]; rfl
    have h3 : x1.size = (pb s.size).length := by rw [hx1, mkS_size]
    unfold BIG at hl
    omega
  have HE := Lib.hid (show x1 ++ s = mkS (qText s) by
    have h := mkS_add (pb s.size) (bs s)
    rw [hss, ← hx1] at h
    exact h)
  clear hs hl hss hx1
  go_enter Try.func36, Try.ntmps36
  go_wp2_with fail
  refine (HP.out _).mono ?_
  rintro e w2 ⟨rfl, hb⟩
  have HB := Lib.hid hb
  clear hb
  go_wp2_with fail
  go_ret
  exact ⟨by rw [← HE.out]; rfl, HB.out⟩

set_option maxHeartbeats 4000000 in
theorem rtexts_any (a : Option Addr) (n cap : Nat) (ss : List ByteArray) (w : World) (h : Strs w a n ss) (hs : (qTexts ss).length ≤ BIG) (hn : n ≤ 65536) :
    Calls Try.prog 37 #[.slice a n cap] w fun e w' => e = .returned (.string (mkS (qTexts ss))) ∧ Below w.heap.size w w' := by
  have HP0 := Lib.hid (fun w => Oct.rput_any (n : Int) w)
  obtain ⟨p0, hp0⟩ : ∃ p, p = mkS (pb (n : Int)) := ⟨_, rfl⟩
  have HP0 := Lib.hid (fun w => show Calls Try.prog 35 #[.int .i64 n] w fun e w' => e = .returned (.string p0) ∧ Below w.heap.size w w' by rw [hp0]; exact HP0.out w)
  have HPP := Lib.hid hp0
  have H := Lib.hid h
  have HL := Lib.hid h.1
  have hlen : (pb (n : Int)).length + (qStrs ss).length ≤ BIG := by unfold qTexts at hs; rw [List.length_append, h.1] at hs; exact hs
  have HLEN := Lib.hid hlen
  have HFIN := Lib.hid (show qTexts ss = pb (n : Int) ++ qStrs ss by unfold qTexts; rw [h.1])
  rw [HFIN.out]
  clear hp0 h hlen hs
  go_enter Try.func37, Try.ntmps37
  go_wp2_with fail
  refine (HP0.out _).mono ?_
  rintro e w1 ⟨rfl, hb1⟩
  have HB1 := Lib.hid hb1
  clear hb1
  go_wp2_with fail
  go_loopw [3, 4] (fun s x wr => ∃ (k : Nat), k ≤ n ∧ x = .int .i64 k ∧ s = .string (mkS (pb (n : Int) ++ qStrs (ss.take k))) ∧ Below w.heap.size w wr) (fun _ x _ => n - (intOf x).toNat)
  case atStart => exact ⟨0, Nat.zero_le _, rfl, by rw [HPP.out]; simp [qStrs], HB1.out⟩
  case round =>
    obtain ⟨k, hk, rfl, rfl, hb⟩ := hrel
    have HBK := Lib.hid hb
    clear hb
    obtain ⟨acc, hacc⟩ : ∃ a, a = mkS (pb (n : Int) ++ qStrs (ss.take k)) := ⟨_, rfl⟩
    rw [← hacc]
    have HACC := Lib.hid hacc
    clear hacc
    by_cases hlt : k < n
    · have hlt2 : (k : Int) < (n : Int) := by omega
      have hks : k < ss.length := by rw [HL.out]; exact hlt
      obtain ⟨b, off, rfl, hbb, hc⟩ := Strs.get (Strs.under H.out HBK.out) k hlt
      obtain ⟨x, hx⟩ : ∃ x, x = ss[k] := ⟨_, rfl⟩
      rw [← hx] at hc
      have hsp := split_at qText ss k hks
      rw [← hx] at hsp
      have hle := part_le qText ss (k + 1)
      rw [hsp, List.length_append] at hle
      have hLN := HLEN.out
      unfold qStrs at hLN
      have hBIG : BIG = 9223372036854775807 := rfl
      have HC1 := Lib.hid (fun w => rtext_any x (by omega) w)
      obtain ⟨x1, hx1⟩ : ∃ y, y = mkS (qText x) := ⟨_, rfl⟩
      have z1 : x1.size = (qText x).length := by rw [hx1, mkS_size]
      have z0 : acc.size = (pb (n : Int)).length + ((ss.take k).map qText).flatten.length := by rw [HACC.out, mkS_size, List.length_append]; rfl
      have ha1 : ¬ 9223372036854775807 < acc.size + x1.size := by omega
      have HNX := Lib.hid (show acc ++ x1 = mkS (pb (n : Int) ++ qStrs (ss.take (k + 1))) by
        rw [HACC.out, hx1, mkS_add]
        unfold qStrs
        rw [hsp, List.append_assoc])
      have HC1 := Lib.hid (fun w => show Calls Try.prog 36 #[.string x] w fun e w' => e = .returned (.string x1) ∧ Below w.heap.size w w' by rw [hx1]; exact HC1.out w)
      clear hx hsp hle hLN hBIG hx1 z1 z0
      go_wp2_with fail
      refine (HC1.out _).mono ?_
      rintro e w2 ⟨rfl, hb2⟩
      have HB2 := Lib.hid (HBK.out.trans (hb2.mono HBK.out.size))
      clear hb2
      go_wp2_with fail
      refine ⟨⟨k + 1, by omega, by go_num, by rw [← HNX.out], HB2.out⟩, by simp [intOf]; omega⟩
    · have hke : k = n := by omega
      subst hke
      have HE := Lib.hid (show acc = mkS (pb (k : Int) ++ qStrs ss) by rw [HACC.out, List.take_of_length_le (by rw [HL.out]; omega)])
      go_wp2_with fail
      go_ret
      exact ⟨by rw [HE.out]; rfl, HBK.out⟩

/-- A command. -/
structure Cmd where
  kind : Int
  who : ByteArray
  nm : ByteArray
  oth : ByteArray
  txt : ByteArray
  word : List ByteArray
  n0 : Int
  n1 : Int
  n2 : Int
  n3 : Int
/-- A name, or none. -/
def maybeB (l : List UInt8) : Bool := l.isEmpty || goodB l
def longB (l : List ByteArray) : Bool := l.any fun s => decide (16 < s.size)
/-- A number that has no bytes. -/
def farB (n : Int) : Bool := decide (n < -9007199254740992) || decide (9007199254740992 < n)
def goodC (c : Cmd) : Bool := (decide (1 ≤ c.kind) && decide (c.kind ≤ 18)) && goodB (bs c.who) && maybeB (bs c.nm) && maybeB (bs c.oth) && decide (c.txt.size ≤ 65536) && decide (c.word.length ≤ 64) && !longB c.word && !(farB c.n0 || farB c.n1 || farB c.n2 || farB c.n3)
/-- The cells of a command. -/
def cellsC (c : Cmd) (a : Option Addr) (cap : Nat) : Array Value := #[.int .i64 c.kind, .string c.who, .string c.nm, .string c.oth, .string c.txt, .slice a c.word.length cap, .int .i64 c.n0, .int .i64 c.n1, .int .i64 c.n2, .int .i64 c.n3]
end Go.Proofs.Ytbkfbejbloclgaa.Cm
