/-
  lex.Good by itself.
-/
import Derived.Test.YtbkfbejbloclgaaChecked
import Derived.Test.YtbkfbejbloclgaaShelf
import Derived.Lib.Hide
import Derived.Lib.IndexBytes
import Derived.Below
import Derived.Test.YtbkfbejbloclgaaGn
namespace Go.Proofs.Ytbkfbejbloclgaa.Lx
open Go.RowKit
set_option maxRecDepth 100000

/-- The bytes of a string. -/
abbrev bs (s : ByteArray) : List UInt8 := s.data.toList

def letterN (c : Nat) : Bool := decide (97 ≤ c ∧ c ≤ 122 ∨ 65 ≤ c ∧ c ≤ 90)
def nameN (c : Nat) : Bool := decide (97 ≤ c ∧ c ≤ 122 ∨ 65 ≤ c ∧ c ≤ 90 ∨ 48 ≤ c ∧ c ≤ 57 ∨ c = 95 ∨ c = 45)
def plainN (c : Nat) : Bool := decide (32 ≤ c ∧ c ≤ 126)

theorem letter_any (c : Nat) (w : World) :
    Calls Try.prog 80 #[.int .u8 c] w fun e w' => e = .returned (.bool (letterN c)) ∧ w = w' := by
  go_enter Try.func80, Try.ntmps80
  go_wp2
  all_goals (go_ret; refine ⟨congrArg (fun b => Ending.returned (Value.bool b)) (?_ : _ = letterN c), rfl⟩; rw [Bool.eq_iff_iff]; simp [letterN]; omega)

theorem inName_any (c : Nat) (w : World) :
    Calls Try.prog 81 #[.int .u8 c] w fun e w' => e = .returned (.bool (nameN c)) ∧ w = w' := by
  have K1 := Lib.hid (letter_any c)
  go_enter Try.func81, Try.ntmps81
  go_wp2_with fail
  refine (K1.out _).mono ?_
  rintro e w1 ⟨rfl, rfl⟩
  cases hl : letterN c <;> simp only [letterN, decide_eq_true_eq, decide_eq_false_iff_not] at hl
  all_goals go_wp2
  all_goals (go_ret; refine ⟨congrArg (fun b => Ending.returned (Value.bool b)) (?_ : _ = nameN c), rfl⟩; rw [Bool.eq_iff_iff]; simp [nameN]; omega)


open Go.RowKit
set_option maxRecDepth 100000

/-- How many bytes of a name a text goes on with. -/
def run (l : List UInt8) : Nat := (l.takeWhile (fun c => nameN c.toNat)).length
/-- How many bytes are the name that a text begins with. -/
def nsz : List UInt8 → Nat
  | [] => 0
  | c :: r => if letterN c.toNat = true then run (c :: r) else 0

theorem letter_name {c : Nat} (h : letterN c = true) : nameN c = true := by
  simp [letterN, nameN] at *; omega

theorem tw_len {α} (p : α → Bool) : ∀ (l : List α) (k : Nat) (_hk : k ≤ l.length), (∀ j, (h : j < l.length) → j < k → p l[j] = true) → (∀ h : k < l.length, p l[k] = false) → (l.takeWhile p).length = k
  | [], k, hk, _, _ => by simp at hk; subst hk; rfl
  | a :: l, 0, _, _, h2 => by
    have := h2 (by simp)
    simp only [List.getElem_cons_zero] at this
    rw [List.takeWhile_cons, if_neg (by simp [this])]; rfl
  | a :: l, k + 1, hk, h1, h2 => by
    have h0 := h1 0 (by simp) (by omega)
    simp only [List.getElem_cons_zero] at h0
    rw [List.takeWhile_cons, if_pos h0, List.length_cons, tw_len p l k (by simpa using hk)]
    · intro j hj hjk
      have := h1 (j + 1) (by simpa using hj) (by omega)
      simpa using this
    · intro hl
      have := h2 (by simpa using hl)
      simpa using this

theorem run_is (s : ByteArray) (k : Nat) (hk : k ≤ s.size) (h1 : ∀ j, (h : j < s.size) → j < k → nameN s[j].toNat = true) (h2 : ∀ h : k < s.size, nameN s[k].toNat = false) : run (bs s) = k :=
  tw_len _ (bs s) k hk (fun j h => h1 j h) (fun h => h2 h)

theorem nsz_list : ∀ (l : List UInt8) (h : 0 < l.length), nsz l = if letterN l[0].toNat = true then run l else 0
  | [], h => absurd h (by simp)
  | _ :: _, _ => rfl
theorem nsz_cons (s : ByteArray) (h : 0 < s.size) : nsz (bs s) = if letterN s[0].toNat = true then run (bs s) else 0 := nsz_list (bs s) h

theorem nempty {s : ByteArray} (h : 0 < s.size) : s.toList.isEmpty = false := by
  rw [Lib.toList_data]
  cases hl : s.data.toList with
  | nil => exact absurd (show s.size = 0 from by rw [← ByteArray.size_data, ← Array.length_toList, hl]; rfl) (by omega)
  | cons => rfl

theorem empty_of {s : ByteArray} (h : s.size = 0) : s = ⟨#[]⟩ := by
  apply ByteArray.ext; exact Array.eq_empty_of_size_eq_zero h

set_option maxHeartbeats 1000000 in
theorem nameSize_any (s : ByteArray) (w : World) (hs : s.size ≤ 1048576) :
    Calls Try.prog 60 #[.string s] w fun e w' => e = .returned (.int .i64 (nsz (bs s) : Nat)) ∧ w = w' := by
  by_cases h0 : s.size = 0
  · have := empty_of h0
    subst this
    go_enter Try.func60, Try.ntmps60
    go_wp2
    go_ret
    exact ⟨rfl, rfl⟩
  · have hp : 0 < s.size := by omega
    have he := nempty hp
    have hn := nsz_cons s hp
    have K1 := Lib.hid (letter_any s[0].toNat)
    have KN := Lib.hid hn
    clear hn
    by_cases hl : letterN s[0].toNat = true
    · have hl0 := letter_name hl
      go_enter Try.func60, Try.ntmps60
      go_wp2_with fail
      refine (K1.out _).mono ?_
      rintro e w1 ⟨rfl, rfl⟩
      rw [hl]
      go_wp2
      go_loop [3] (fun n => ∃ k : Nat, 1 ≤ k ∧ k ≤ s.size ∧ n = .int .i64 k ∧ ∀ j, (h : j < s.size) → j < k → nameN s[j].toNat = true) (fun n => s.size - (intOf n).toNat)
      case atStart =>
        refine ⟨1, by omega, by omega, rfl, ?_⟩
        intro j hj hj1
        have : j = 0 := by omega
        subst this; exact hl0
      case round =>
        obtain ⟨k, hk1, hk, rfl, hall⟩ := hrel
        by_cases hks : k < s.size
        · have K2 := Lib.hid (inName_any s[k].toNat)
          have HA := Lib.hid hall
          clear hall
          go_wp2_with fail
          refine (K2.out _).mono ?_
          rintro e w1 ⟨rfl, rfl⟩
          cases hn : nameN s[k].toNat
          · go_wp2
            go_ret
            refine ⟨?_, rfl⟩
            rw [KN.out, if_pos hl, run_is s k hk HA.out (fun _ => hn)]
            rfl
          · go_wp2
            go_round
            case rel =>
              refine ⟨k + 1, by omega, by omega, by go_num, ?_⟩
              intro j hj hj1
              by_cases e : j = k
              · subst e; exact hn
              · exact HA.out j hj (by omega)
            case measure => simp [intOf]; omega
        · have : k = s.size := by omega
          subst this
          have HA := Lib.hid hall
          clear hall
          go_wp2
          go_ret
          refine ⟨?_, rfl⟩
          rw [KN.out, if_pos hl, run_is s _ hk HA.out (fun h => absurd h (by omega))]
          rfl
    · have hlf : letterN s[0].toNat = false := by simpa using hl
      go_enter Try.func60, Try.ntmps60
      go_wp2_with fail
      refine (K1.out _).mono ?_
      rintro e w1 ⟨rfl, rfl⟩
      rw [hlf]
      go_wp2
      go_ret
      rw [KN.out, if_neg hl]
      exact ⟨rfl, rfl⟩


open Go.RowKit
set_option maxRecDepth 100000

/-- A good name. -/
def goodB (l : List UInt8) : Bool := decide (0 < l.length ∧ l.length ≤ 32 ∧ nsz l = l.length)

theorem good_any (s : ByteArray) (w : World) (hs : s.size ≤ 9223372036854775807) :
    Calls Try.prog 30 #[.string s] w fun e w' => e = .returned (.bool (goodB (bs s))) ∧ w = w' := by
  have hl : (bs s).length = s.size := rfl
  by_cases h0 : s.size = 0
  · have := empty_of h0
    subst this
    go_enter Try.func30, Try.ntmps30
    go_wp2
    go_ret
    exact ⟨rfl, rfl⟩
  · have he := nempty (s := s) (by omega)
    by_cases h1 : s.size ≤ 32
    · have K := Lib.hid (nameSize_any s w (by omega))
      obtain ⟨n, hn⟩ : ∃ n, n = nsz (bs s) := ⟨_, rfl⟩
      have hg : goodB (bs s) = ((n : Int) == (s.size : Int)) := by
        rw [goodB, hl, ← hn, Bool.eq_iff_iff]; simp; omega
      rw [hg]
      rw [← hn] at K
      clear hg hn hl
      go_enter Try.func30, Try.ntmps30
      go_wp2_with fail
      refine K.out.mono ?_
      rintro e w1 ⟨rfl, rfl⟩
      go_wp2
      go_ret
      exact ⟨rfl, rfl⟩
    · have hg : goodB (bs s) = false := by
        rw [goodB, hl, decide_eq_false_iff_not]; omega
      rw [hg]
      clear hl
      go_enter Try.func30, Try.ntmps30
      go_wp2
      go_ret
      exact ⟨rfl, rfl⟩

/-- All bytes go on a name. -/
theorem run_all (l : List UInt8) : run l = l.length ↔ ∀ c ∈ l, nameN c.toNat = true := by
  unfold run
  induction l with
  | nil => simp
  | cons a l ih =>
    by_cases h : nameN a.toNat = true
    · rw [List.takeWhile_cons, if_pos h]
      simp [h, ih]
    · rw [List.takeWhile_cons, if_neg h]
      simp [h]

theorem good_bad (s : ByteArray) (k : Nat) (hk : k < s.size) (h : (k = 0 ∧ letterN s[k].toNat = false) ∨ nameN s[k].toNat = false) : goodB (bs s) = false := by
  rw [goodB, decide_eq_false_iff_not]
  rintro ⟨_, _, h3⟩
  have hp : 0 < s.size := by omega
  rw [nsz_cons s hp] at h3
  have hl : (bs s).length = s.size := rfl
  split at h3
  · rename_i hlet
    rcases h with ⟨rfl, h⟩ | h
    · rw [h] at hlet; cases hlet
    · have := (run_all (bs s)).mp h3 (bs s)[k] (List.getElem_mem (by rw [hl]; exact hk))
      rw [show (bs s)[k] = s[k] from rfl, h] at this
      cases this
  · omega
theorem good_end (s : ByteArray) (h1 : ∀ j, (h : j < s.size) → nameN s[j].toNat = true) (h0 : ∀ h : 0 < s.size, letterN s[0].toNat = true) : goodB (bs s) = decide (0 < s.size ∧ s.size < 33) := by
  rw [goodB, show (bs s).length = s.size from rfl, Bool.eq_iff_iff]
  simp only [decide_eq_true_eq]
  by_cases hp : 0 < s.size
  · have : nsz (bs s) = s.size := by
      rw [nsz_cons s hp, if_pos (h0 hp)]
      exact run_is s s.size (Nat.le_refl _) (fun j h _ => h1 j h) (fun h => absurd h (by omega))
    omega
  · omega

end Go.Proofs.Ytbkfbejbloclgaa.Lx
