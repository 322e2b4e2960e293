/-
  The walks of an Out's methods, on: a yes or no, a length, a text; the bytes of all.
-/
import Derived.Test.YtgbpofgmomglfaaDoorMOut3
import Derived.Laws.BytesArg
namespace Go.Proofs.YtgbpofgmomglfaaDoor.Oct
set_option maxRecDepth 100000
open Go.RowKit

/-- The bytes of a yes or no, of a length or a count, of a text. -/
def eBool (b : Bool) : Option (List UInt8) := some [if b then 1 else 0]
def eLen (n : Int) : Option (List UInt8) := if 65536 < n then none else eInt n
def eText (l : List UInt8) : Option (List UInt8) := app (eLen l.length) (some l)

theorem bool_nil (b : Bool) (w : World) :
    Calls Tryd.prog 96 #[.pointer none, .bool b] w fun e w' => e = .returned (.tuple #[]) ∧ w = w' := by
  cases b
  all_goals
    go_enter Tryd.func96, Tryd.ntmps96
    go_wp2_with fail
    refine (write_nil _ _).mono ?_
    rintro e w' ⟨rfl, rfl⟩
    go_wp2
    first | refine bodyPost_ret (results_none rfl _ _ _) rfl ?_ | go_end0
    exact ⟨rfl, rfl⟩

theorem bool_any (g c : Nat) (st : Option (List UInt8)) (b : Bool) (w : World) (h : OutSt w g c st) (hb : len st + 8 ≤ 140737488355328) :
    Calls Tryd.prog 96 #[.pointer (some ⟨g, 0, none⟩), .bool b] w (Left w g c (app st (eBool b))) := by
  have HS := Lib.hid h
  clear h
  cases b
  · go_enter Tryd.func96, Tryd.ntmps96
    go_wp2_with fail
    refine (write_any g c st ⟨#[0]⟩ _ HS.out (by have : (⟨#[0]⟩ : ByteArray).size = 1 := rfl; omega)).mono ?_
    rintro e w' ⟨rfl, h1, h2⟩
    go_wp2
    go_end0
    exact ⟨rfl, h1, h2⟩
  · go_enter Tryd.func96, Tryd.ntmps96
    go_wp2_with fail
    refine (write_any g c st ⟨#[1]⟩ _ HS.out (by have : (⟨#[1]⟩ : ByteArray).size = 1 := rfl; omega)).mono ?_
    rintro e w' ⟨rfl, h1, h2⟩
    go_wp2
    refine bodyPost_ret (results_none rfl _ _ _) rfl ?_
    exact ⟨rfl, h1, h2⟩

/-- What a call leaves that tells a bool, too. -/
def LeftB (w : World) (g c : Nat) (b : Bool) (st : Option (List UInt8)) (e : Ending) (w' : World) : Prop := e = .returned (.bool b) ∧ OutSt w' g c st ∧ OSep g c w w'

theorem length_nil (n : Int) (w : World) :
    Calls Tryd.prog 97 #[.pointer none, .int .i64 n] w fun e w' => e = .returned (.bool (decide (n ≤ 65536))) ∧ Below w.heap.size w w' := by
  by_cases h : 65536 < n
  · have hd : decide (n ≤ 65536) = false := by simp; omega
    rw [hd]
    go_enter Tryd.func97, Tryd.ntmps97
    go_wp2_with fail
    refine (spoil_nil _).mono ?_
    rintro e w' ⟨rfl, rfl⟩
    go_wp2
    go_ret
    exact ⟨rfl, Below.refl _ _⟩
  · have hd : decide (n ≤ 65536) = true := by simp; omega
    rw [hd]
    have h' : n ≤ 65536 := by omega
    clear hd h
    go_enter Tryd.func97, Tryd.ntmps97
    go_wp2_with fail
    refine (int_nil _ _).mono ?_
    rintro e w' ⟨rfl, hb⟩
    go_wp2
    go_ret
    exact ⟨rfl, hb⟩

theorem length_any (g c : Nat) (st : Option (List UInt8)) (n : Int) (w : World) (h : OutSt w g c st) (hb : len st + 8 ≤ 140737488355328) :
    Calls Tryd.prog 97 #[.pointer (some ⟨g, 0, none⟩), .int .i64 n] w (LeftB w g c (decide (n ≤ 65536)) (app st (eLen n))) := by
  have HS := Lib.hid h
  clear h
  by_cases h : 65536 < n
  · have hd : decide (n ≤ 65536) = false := by simp; omega
    have hfin : app st (eLen n) = none := by rw [eLen, if_pos h, app_none]
    rw [hd, hfin]
    clear hd hfin
    go_enter Tryd.func97, Tryd.ntmps97
    go_wp2_with fail
    refine (spoil_any g c st _ HS.out).mono ?_
    rintro e w' ⟨rfl, h1, h2⟩
    go_wp2
    go_ret
    exact ⟨rfl, h1, h2⟩
  · have hd : decide (n ≤ 65536) = true := by simp; omega
    have hfin : app st (eLen n) = app st (eInt n) := by rw [eLen, if_neg h]
    rw [hd, hfin]
    have h' : n ≤ 65536 := by omega
    clear hd hfin h
    go_enter Tryd.func97, Tryd.ntmps97
    go_wp2_with fail
    refine (int_any g c st n _ HS.out hb).mono ?_
    rintro e w' ⟨rfl, h1, h2⟩
    go_wp2
    go_ret
    exact ⟨rfl, h1, h2⟩

theorem text_nil (s : ByteArray) (w : World) :
    Calls Tryd.prog 95 #[.pointer none, .string s] w fun e w' => e = .returned (.tuple #[]) ∧ Below w.heap.size w w' := by
  cases hd : decide ((s.size : Int) ≤ 65536) with
  | false =>
    have H : ∀ W : World, Calls Tryd.prog 97 #[.pointer none, .int .i64 s.size] W fun e w' => e = .returned (.bool false) ∧ Below W.heap.size W w' := fun W => by rw [← hd]; exact length_nil _ W
    have HC := Lib.hid H
    clear H hd
    go_enter Tryd.func95, Tryd.ntmps95
    go_wp2_with fail
    refine (HC.out _).mono ?_
    rintro e w' ⟨rfl, hb⟩
    go_wp2
    go_end0
    exact ⟨rfl, hb⟩
  | true =>
    have H : ∀ W : World, Calls Tryd.prog 97 #[.pointer none, .int .i64 s.size] W fun e w' => e = .returned (.bool true) ∧ Below W.heap.size W w' := fun W => by rw [← hd]; exact length_nil _ W
    have HC := Lib.hid H
    clear H hd
    go_enter Tryd.func95, Tryd.ntmps95
    go_wp2_with fail
    refine (HC.out _).mono ?_
    rintro e w' ⟨rfl, hb⟩
    go_wp2_with fail
    refine (write_nil _ _).mono ?_
    rintro e w' ⟨rfl, rfl⟩
    go_wp2
    go_end0
    exact ⟨rfl, hb⟩

theorem len_app (a b : Option (List UInt8)) : len (app a b) ≤ len a + len b := by
  cases a <;> cases b <;> simp [app, len]
theorem len_eInt (n : Int) : len (eInt n) ≤ 8 := by
  unfold eInt
  split
  · simp [len]
  · simpa [len] using pb_len n
theorem len_eLen (n : Int) : len (eLen n) ≤ 8 := by
  unfold eLen
  split
  · simp [len]
  · exact len_eInt n

theorem text_any (g c : Nat) (st : Option (List UInt8)) (s : ByteArray) (w : World) (h : OutSt w g c st) (hb : len st + 65544 ≤ 140737488355328) :
    Calls Tryd.prog 95 #[.pointer (some ⟨g, 0, none⟩), .string s] w (Left w g c (app st (eText (bs s)))) := by
  have HS := Lib.hid h
  clear h
  have hl : ((bs s).length : Int) = (s.size : Int) := rfl
  cases hd : decide ((s.size : Int) ≤ 65536) with
  | false =>
    have H : ∀ W : World, OutSt W g c st → Calls Tryd.prog 97 #[.pointer (some ⟨g, 0, none⟩), .int .i64 s.size] W (LeftB W g c false (app st (eLen s.size))) := fun W hW => by rw [← hd]; exact length_any g c st _ W hW (by omega)
    have hfin : app st (eText (bs s)) = app st (eLen s.size) := by
      have : 65536 < (s.size : Int) := by have := of_decide_eq_false hd; omega
      rw [eText, hl, eLen, if_pos this]; simp [app]
    rw [hfin]
    have HC := Lib.hid H
    clear H hd hfin hl
    go_enter Tryd.func95, Tryd.ntmps95
    go_wp2_with fail
    refine (HC.out _ HS.out).mono ?_
    rintro e w' ⟨rfl, h1, h2⟩
    go_wp2
    go_end0
    exact ⟨rfl, h1, h2⟩
  | true =>
    have H : ∀ W : World, OutSt W g c st → Calls Tryd.prog 97 #[.pointer (some ⟨g, 0, none⟩), .int .i64 s.size] W (LeftB W g c true (app st (eLen s.size))) := fun W hW => by rw [← hd]; exact length_any g c st _ W hW (by omega)
    have hsz : s.size ≤ 65536 := by have := of_decide_eq_true hd; omega
    have hfin : app st (eText (bs s)) = app (app st (eLen s.size)) (some (bs s)) := by rw [eText, hl, app_assoc]
    rw [hfin]
    have hlen : len (app st (eLen s.size)) ≤ len st + 8 := by have := len_app st (eLen s.size); have := len_eLen s.size; omega
    have HC := Lib.hid H
    clear H hd hfin hl
    go_enter Tryd.func95, Tryd.ntmps95
    go_wp2_with fail
    refine (HC.out _ HS.out).mono ?_
    rintro e w' ⟨rfl, h1, h2⟩
    go_wp2_with fail
    refine (write_any g c _ s _ h1 (by omega)).mono ?_
    rintro e w'' ⟨rfl, h3, h4⟩
    go_wp2
    go_end0
    exact ⟨rfl, h3, h2.trans h4⟩

/-! ### Bytes -/
theorem bytes_nil (w : World) :
    Calls Tryd.prog 30 #[.pointer none] w fun e w' => e = .returned (.tuple #[.string ⟨#[]⟩, .bool false]) ∧ w = w' := by
  go_enter Tryd.func30, Tryd.ntmps30
  go_wp2
  go_ret2
  exact ⟨rfl, rfl⟩

def Drew (w w' : World) : Prop := ∃ n, w' = w.drewN n
def Wr (A : Option Addr) (n cap : Nat) (w : World) (e : Ending) (w' : World) : Prop := e = .returned (.slice A n cap) ∧ Drew w w'

theorem written_more (g c h : Nat) (A : Option Addr) (cap : Nat) (l : List UInt8) (w : World)
    (hg : w.heap[g]? = some (obj (.pointer (some ⟨h, 0, none⟩)) (.int .i64 l.length) (.bool false)))
    (hh : w.heap[h]? = some (.cells #[.slice A l.length cap] 134 (0, 0)))
    (hown : w.ownsRow c 5 1 (.slice A l.length cap) l.length (l.map u8v)) :
    Calls Tryd.prog 57 #[.pointer (some ⟨g, 0, none⟩)] w (Wr A l.length cap w) := by
  have hcap : l.length ≤ cap := by
    rcases hown.2 with ⟨h1, h2⟩ | ⟨r, cp, cur, hv, _, _, h3, _⟩
    · omega
    · injection hv; omega
  have c0 : w.cell? ⟨g, 0, none⟩ = some (.pointer (some ⟨h, 0, none⟩)) := cell_of_row w g 0 _ _ (0, 0) hg
  have c1 : w.cell? ⟨g, 1, none⟩ = some (.int .i64 l.length) := cell_of_row w g 1 _ _ (0, 0) hg
  have d0 : w.cell? ⟨h, 0, none⟩ = some (.slice A l.length cap) := cell_of_row w h 0 _ _ (0, 0) hh
  have hi : (l.length : Int) ≤ cap := by omega
  clear hg hh hown
  go_enter Tryd.func57, Tryd.ntmps57
  go_wp2
  go_quiet (fail)
  go_wp2
  go_ret
  exact ⟨rfl, _, rfl⟩

end Go.Proofs.YtgbpofgmomglfaaDoor.Oct
