/-
  The walk of lex.Quote by itself.
-/
import Derived.Test.YtdknlifpoihnmaaGn
import Derived.Test.YtdknlifpoihnmaaShelf
import Derived.BigQuiet
import Derived.Deep.QuietTactic
import Derived.Deep.AppendLies
import Derived.Deep.RegionLaw
import Derived.Deep.RegionWith
import Derived.Lib.IndexBytes
import Derived.Lib.BitFns
namespace Go.Proofs.Ytdknlifpoihnmaa.Qt
open Go.RowKit
set_option maxRecDepth 100000
set_option linter.unusedSimpArgs false
set_option linter.unusedVariables false

abbrev bs (s : ByteArray) : List UInt8 := s.data.toList
theorem bs_len (t : ByteArray) : (bs t).length = t.size := rfl
def plainN (c : Nat) : Bool := decide (32 ≤ c ∧ c ≤ 126)
theorem plain_any (c : Nat) (w : World) :
    Calls Try.prog 97 #[.int .u8 c] w fun e w' => e = .returned (.bool (plainN c)) ∧ w = w' := by
  go_enter Try.func97, Try.ntmps97
  go_wp2
  all_goals (go_ret; refine ⟨congrArg (fun b => Ending.returned (Value.bool b)) (?_ : _ = plainN c), rfl⟩; rw [Bool.eq_iff_iff]; simp [plainN]; omega)
def u8v (c : UInt8) : Value := .int .u8 (c.toNat : Int)
theorem u8info : (Try.prog.info? 5).map (fun i => (i.zero, i.size, i.bytes)) = some (some (.int .u8 0), 1, 1) := by kernel_rfl
theorem own_block {w : World} {base : Nat} {e : TypeId} {size : Nat} {v : Value} {n : Nat} {xs : List Value} (h : w.ownsRow base e size v n xs) : ∀ k, v.ownBlock = some k → base ≤ k := by
  intro k hk
  rcases h.2 with ⟨h1, _⟩ | ⟨r', cp, cur, h1, h2, _⟩
  · rw [h1] at hk; simp [Value.ownBlock] at hk
  · rw [h1] at hk; simp [Value.ownBlock] at hk; omega
theorem slice_of {w : World} {base : Nat} {e : TypeId} {size : Nat} {v : Value} {n : Nat} {xs : List Value} (h : w.ownsRow base e size v n xs) : ∃ A cap, v = .slice A n cap := by
  rcases h.2 with ⟨rfl, rfl⟩ | ⟨g, cap, cur, rfl, _⟩
  · exact ⟨_, _, rfl⟩
  · exact ⟨_, _, rfl⟩
theorem own_string (w : World) (c : Nat) (A : Option Addr) (cap : Nat) (l : List UInt8) (hown : w.ownsRow c 5 1 (.slice A l.length cap) l.length (l.map u8v)) :
    (convert 76 9 (.slice A l.length cap)).run Try.prog w = .ok (.string ⟨l.toArray⟩) w := by
  rcases hown.2 with ⟨h1, h2⟩ | ⟨r, cp, cur, hv, _⟩
  · have hl : l = [] := List.eq_nil_of_length_eq_zero (by simpa using h2)
    subst hl
    injection h1 with h1 h3 h4
    subst h1
    exact run_convert_bytes_nil _ 76 5 Try.underlying76 Try.underlying5 _ _ 9 Try.underlying9
  · have hA : A = some ⟨r, 0, none⟩ := by injection hv
    subst hA
    have hc := hown.cells (g := r) rfl
    exact run_convert_bytes_back (P := Try.prog) w 76 9 5 ⟨r, 0, none⟩ cap l Try.underlying76 Try.underlying5 Try.underlying9 (fun j hj => by
      refine (hc j _ ?_)
      rw [List.getElem?_map, List.getElem?_eq_getElem hj]
      rfl)
theorem add_row (b j : Nat) : (⟨b, 0, none⟩ : Addr).add j = ⟨b, j, none⟩ := by
  unfold Addr.add
  split
  · rename_i h; subst h; rfl
  · simp
theorem row_new (w : World) (cs : List Value) (T : TypeId) (b : Nat) (hb : b = w.heap.size) : ∀ j u, cs[j]? = some u → (w.alloc (.cells cs.toArray T)).cell? ((⟨b, 0, none⟩ : Addr).add j) = some u := by
  intro j u h
  subst hb
  rw [add_row, cell_of_row _ _ j _ _ _ (heap_alloc_new w _)]
  simpa using h
def mk (l : List UInt8) : ByteArray := ⟨l.toArray⟩
def dgt : ByteArray := ⟨#[48, 49, 50, 51, 52, 53, 54, 55, 56, 57, 97, 98, 99, 100, 101, 102]⟩
def hexC (n : Nat) : UInt8 := if n < 10 then UInt8.ofNat (48 + n) else UInt8.ofNat (87 + n)
def qch (q : UInt8) (c : UInt8) : List UInt8 :=
  if c.toNat = 10 then [92, 110] else if c.toNat = 9 then [92, 116] else if c.toNat = 92 ∨ c = q then [92, c] else if plainN c.toNat = true then [c] else [92, 120, hexC (c.toNat / 16), hexC (c.toNat % 16)]
def qbody (q : UInt8) (s : List UInt8) : List UInt8 := s.flatMap (qch q)
def quoteL (q : UInt8) (s : List UInt8) : List UInt8 := q :: (qbody q s ++ [q])
/-- A row of bytes that has grown. -/
def Grown (base : Nat) (l : List UInt8) (w : World) (e : Ending) (w' : World) : Prop :=
  ∃ A cap, e = .returned (.slice A l.length cap) ∧ w'.ownsRow base 5 1 (.slice A l.length cap) l.length (l.map u8v) ∧ Below base w w'

theorem grown_of {base : Nat} {l : List UInt8} {w w2 : World} {v v' : Value} {n : Nat} (hb : base ≤ w.heap.size) (hv : ∀ k, v.ownBlock = some k → base ≤ k) (o : Obj) (hg : ((w.alloc o)).grownBy w2 v.ownBlock) (hn : n = l.length)
    (hown : w2.ownsRow base 5 1 v' n (l.map u8v)) : Grown base l w (.returned v') w2 := by
  subst hn
  obtain ⟨A, cap, rfl⟩ := slice_of hown
  refine ⟨A, cap, rfl, hown, hg.os, hg.tape, hg.output, by have := hg.size; simp at this; omega, fun b hb2 => (hg.block b (by simp; omega) (fun e => by have := hv b e.symm; omega)).trans (heap_alloc_old w o (by omega))⟩

theorem undrew {W W' : World} {r : Option Nat} (h : W.drew.grownBy W' r) : W.grownBy W' r := ⟨h.os, h.tape, h.output, h.size, h.block⟩

theorem below_drew {B : Nat} {w w' : World} (h : Below B w w') : Below B w w'.drew := ⟨h.os, h.tape, h.output, h.size, h.block⟩
theorem hexC_at : ∀ n : Fin 16, (dgt[n.val]'(by have := n.isLt; show n.val < 16; omega)) = hexC n.val := by decide

/-- The digits, spelled as the program does. -/
abbrev dgtL : ByteArray := ⟨#[48, 49, 50, 51, 52, 53, 54, 55, 56, 57, 97, 98, 99, 100, 101, 102]⟩
theorem and15_fin : ∀ n : Fin 256, bits .and .u8 ((n.val : Nat) : Int) 15 = ((n.val % 16 : Nat) : Int) := by decide +kernel
theorem and15u (c : UInt8) : bits .and .u8 (c.toNat : Int) 15 = ((c.toNat % 16 : Nat) : Int) := and15_fin ⟨c.toNat, c.toNat_lt⟩

theorem qch_len (q c : UInt8) : (qch q c).length ≤ 4 := by
  unfold qch
  split
  · simp
  · split
    · simp
    · split
      · simp
      · split <;> simp

set_option maxHeartbeats 2000000 in
theorem appendQuoted_any (A : Option Addr) (cap base : Nat) (acc : List UInt8) (c q : UInt8) (w : World) (hown : w.ownsRow base 5 1 (.slice A acc.length cap) acc.length (acc.map u8v)) (hb : base ≤ w.heap.size) (hl : acc.length ≤ 1048576) :
    Calls Try.prog 83 #[.slice A acc.length cap, .int .u8 c.toNat, .int .u8 q.toNat] w (Grown base (acc ++ qch q c) w) := by
  obtain ⟨i0, hi0, hz0, hz1, hz2⟩ := info_parts u8info
  have hlt := c.toNat_lt
  have HV := Lib.hid (own_block hown)
  have HO := Lib.hid hown
  clear hown
  by_cases h10 : c.toNat = 10
  · have hq : qch q c = [92, 110] := by rw [qch, if_pos h10]
    rw [hq]
    clear hq
    have h10' : (c.toNat : Int) = 10 := by omega
    rw [h10']
    clear h10 h10'
    go_enter Try.func83, Try.ntmps83
    go_wp2_with ((at_builtin; refine wpList_append_own _ rfl _ _ 76 rfl base 5 i0 (.int .u8 0) 1 1 Try.underlying76 hi0 hz0 hz1 hz2 rfl (by decide) _ _ _ rfl (HO.out.alloc _) ⟨w.heap.size, 0, none⟩ 2 2 [.int .u8 92, .int .u8 110] rfl rfl ?c1 ?c2 ?c3 ?c4 ?c5 ?_))
    case c1 => exact row_new _ [.int .u8 92, .int .u8 110] _ _ rfl
    case c2 => simp [Value.oneCell']
    case c3 => unfold maxLen; omega
    case c4 => omega
    case c5 => simp; omega
    intro v' w4 hown4 hgrow4 _
    have HO4 := Lib.hid hown4
    have HG4 := Lib.hid hgrow4
    clear hown4 hgrow4
    go_wp2
    go_ret
    exact grown_of (n := acc.length + 2) hb HV.out _ HG4.out (by simp) (by rw [List.map_append]; exact HO4.out)
  have e10 : ((c.toNat : Int) == 10) = false := by rw [beq_eq_false_iff_ne]; omega
  by_cases h9 : c.toNat = 9
  · have hq : qch q c = [92, 116] := by rw [qch, if_neg h10, if_pos h9]
    rw [hq]
    clear hq e10 h10
    have h9' : (c.toNat : Int) = 9 := by omega
    rw [h9']
    clear h9 h9'
    go_enter Try.func83, Try.ntmps83
    go_wp2_with ((at_builtin; refine wpList_append_own _ rfl _ _ 76 rfl base 5 i0 (.int .u8 0) 1 1 Try.underlying76 hi0 hz0 hz1 hz2 rfl (by decide) _ _ _ rfl (HO.out.alloc _) ⟨w.heap.size, 0, none⟩ 2 2 [.int .u8 92, .int .u8 116] rfl rfl ?c1 ?c2 ?c3 ?c4 ?c5 ?_))
    case c1 => exact row_new _ [.int .u8 92, .int .u8 116] _ _ rfl
    case c2 => simp [Value.oneCell']
    case c3 => unfold maxLen; omega
    case c4 => omega
    case c5 => simp; omega
    intro v' w4 hown4 hgrow4 _
    have HO4 := Lib.hid hown4
    have HG4 := Lib.hid hgrow4
    clear hown4 hgrow4
    go_wp2
    go_ret
    exact grown_of (n := acc.length + 2) hb HV.out _ HG4.out (by simp) (by rw [List.map_append]; exact HO4.out)
  have e9 : ((c.toNat : Int) == 9) = false := by rw [beq_eq_false_iff_ne]; omega
  by_cases hcq : c.toNat = 92 ∨ c = q
  · have hq : qch q c = [92, c] := by rw [qch, if_neg h10, if_neg h9, if_pos hcq]
    rw [hq]
    have e92 : ((c.toNat : Int) == 92) = true ∨ (((c.toNat : Int) == 92) = false ∧ ((c.toNat : Int) == (q.toNat : Int)) = true) := by
      by_cases h : c.toNat = 92
      · exact .inl (by rw [beq_iff_eq]; omega)
      · rcases hcq with h2 | h2
        · exact absurd h2 h
        · exact .inr ⟨by rw [beq_eq_false_iff_ne]; omega, by rw [h2]; simp⟩
    clear hq hcq
    rcases e92 with e92 | ⟨e92, eq⟩
    all_goals
      go_enter Try.func83, Try.ntmps83
      go_wp2_with ((at_builtin; refine wpList_append_own _ rfl _ _ 76 rfl base 5 i0 (.int .u8 0) 1 1 Try.underlying76 hi0 hz0 hz1 hz2 rfl (by decide) _ _ _ rfl (HO.out.alloc _) ⟨w.heap.size, 0, none⟩ 2 2 [.int .u8 92, .int .u8 c.toNat] rfl rfl ?c1 ?c2 ?c3 ?c4 ?c5 ?_))
      case c1 => exact row_new _ [.int .u8 92, .int .u8 c.toNat] _ _ rfl
      case c2 => simp [Value.oneCell']
      case c3 => unfold maxLen; omega
      case c4 => omega
      case c5 => simp; omega
      intro v' w4 hown4 hgrow4 _
      have HO4 := Lib.hid hown4
      have HG4 := Lib.hid hgrow4
      clear hown4 hgrow4
      go_wp2
      go_ret
      exact grown_of (n := acc.length + 2) hb HV.out _ HG4.out (by simp) (by rw [List.map_append]; exact HO4.out)
  have e92 : ((c.toNat : Int) == 92) = false := by rw [beq_eq_false_iff_ne]; exact fun e => hcq (.inl (by omega))
  have eq : ((c.toNat : Int) == (q.toNat : Int)) = false := by rw [beq_eq_false_iff_ne]; exact fun e => hcq (.inr (UInt8.toNat_inj.mp (by omega)))
  have KP := Lib.hid (plain_any c.toNat)
  cases hp : plainN c.toNat
  · have hq : qch q c = [92, 120, hexC (c.toNat / 16), hexC (c.toNat % 16)] := by rw [qch, if_neg h10, if_neg h9, if_neg hcq, if_neg (by rw [hp]; simp)]
    rw [hq]
    clear hq hcq
    have hA : (c.toNat : Int) / 16 = ((c.toNat / 16 : Nat) : Int) := by omega
    have hB : bits .and .u8 (c.toNat : Int) 15 = ((c.toNat % 16 : Nat) : Int) := and15u c
    have ha16 : c.toNat / 16 < 16 := by omega
    have hb16 : c.toNat % 16 < 16 := by omega
    obtain ⟨a, ha⟩ : ∃ a, a = c.toNat / 16 := ⟨_, rfl⟩
    obtain ⟨b, hbb⟩ : ∃ b, b = c.toNat % 16 := ⟨_, rfl⟩
    rw [← ha] at ha16 hA ⊢
    rw [← hbb] at hb16 hB ⊢
    have hxa : ∀ h, dgtL[a]'h = hexC a := fun _ => hexC_at ⟨a, ha16⟩
    have hxb : ∀ h, dgtL[b]'h = hexC b := fun _ => hexC_at ⟨b, hb16⟩
    have haI : (a : Int) < 16 := by omega
    have hbI : (b : Int) < 16 := by omega
    clear ha hbb
    go_enter Try.func83, Try.ntmps83
    go_wp2_with fail
    refine (KP.out _).mono ?_
    rintro e w3 ⟨rfl, rfl⟩
    rw [hp]
    go_wp2_with fail
    go_region_law (refine step_append_lies _ rfl (.tmp 38) (.tmp 45) 76 rfl base 5 i0 (.int .u8 0) 1 1 Try.underlying76 hi0 hz0 hz1 hz2 rfl (by decide) (.slice A acc.length cap) acc.length (acc.map u8v) (by simp [Act.eval]) (HO.out.alloc _) ⟨w.heap.size, 0, none⟩ 4 4 [.int .u8 92, .int .u8 120, .int .u8 (hexC a).toNat, .int .u8 (hexC b).toNat] (by simp [Act.eval]) rfl (row_new _ [.int .u8 92, .int .u8 120, .int .u8 (hexC a).toNat, .int .u8 (hexC b).toNat] _ _ rfl) (by simp [Value.oneCell']) (by decide) (by unfold maxLen; omega) (by omega) (by simp; omega) (w.heap.size + 1) (by simp) ?_; intro g4 cap4 w4 hown4 hgrow4 _ _; have HO4 := Lib.hid hown4; have HG4 := Lib.hid hgrow4; clear hown4 hgrow4)
    all_goals go_wp2
    all_goals go_ret
    all_goals first
      | exact grown_of (n := acc.length + 4) hb HV.out _ HG4.out (by simp) (by rw [List.map_append]; exact HO4.out)
      | exact grown_of (n := acc.length + 4) hb HV.out _ (undrew HG4.out) (by simp) (by rw [List.map_append]; exact HO4.out)
  · have hq : qch q c = [c] := by rw [qch, if_neg h10, if_neg h9, if_neg hcq, if_pos hp]
    rw [hq]
    clear hq hcq
    go_enter Try.func83, Try.ntmps83
    go_wp2_with fail
    refine (KP.out _).mono ?_
    rintro e w3 ⟨rfl, rfl⟩
    rw [hp]
    go_wp2_with ((at_builtin; refine wpList_append_own _ rfl _ _ 76 rfl base 5 i0 (.int .u8 0) 1 1 Try.underlying76 hi0 hz0 hz1 hz2 rfl (by decide) _ _ _ rfl (HO.out.alloc _) ⟨w.heap.size, 0, none⟩ 1 1 [.int .u8 c.toNat] rfl rfl ?c1 ?c2 ?c3 ?c4 ?c5 ?_))
    case c1 => exact row_new _ [.int .u8 c.toNat] _ _ rfl
    case c2 => simp [Value.oneCell']
    case c3 => unfold maxLen; omega
    case c4 => omega
    case c5 => simp; omega
    intro v' w4 hown4 hgrow4 _
    have HO4 := Lib.hid hown4
    have HG4 := Lib.hid hgrow4
    clear hown4 hgrow4
    go_wp2
    go_ret
    exact grown_of (n := acc.length + 1) hb HV.out _ HG4.out (by simp) (by rw [List.map_append]; exact HO4.out)

/-- What a literal stands between. -/
def qOf (s : List UInt8) : UInt8 := if Lib.countByte s 34 < Lib.countByte s 39 then 34 else 39
theorem qOf_is (s : List UInt8) : (qOf s).toNat = 39 ∨ (qOf s).toNat = 34 := by
  unfold qOf; split <;> simp
theorem qbody_snoc (q : UInt8) (l : List UInt8) (c : UInt8) : qbody q (l ++ [c]) = qbody q l ++ qch q c := by simp [qbody]
theorem qbody_len (q : UInt8) (l : List UInt8) : (qbody q l).length ≤ 4 * l.length := by
  induction l with
  | nil => simp [qbody]
  | cons c l ih =>
    have := qch_len q c
    simp [qbody] at ih ⊢
    omega
theorem take_snoc' (s : ByteArray) (k : Nat) (h : k < s.size) : (bs s).take (k + 1) = (bs s).take k ++ [s[k]] := by
  rw [List.take_succ_eq_append_getElem (by simpa using h)]; rfl

/-- How far Quote is. -/
def QuAt (s : ByteArray) (q : UInt8) (w wr : World) (v n : Value) : Prop :=
  ∃ (k cap : Nat) (A : Option Addr) (l : List UInt8), k ≤ s.size ∧ n = .int .i64 k ∧ l = q :: qbody q ((bs s).take k) ∧ v = .slice A l.length cap ∧ wr.ownsRow w.heap.size 5 1 (.slice A l.length cap) l.length (l.map u8v) ∧ Below w.heap.size w wr

theorem own_first (w : World) (q : UInt8) : (w.drew.alloc (.cells #[.int .u8 q.toNat] 5)).ownsRow w.heap.size 5 1 (.slice (some ⟨w.heap.size, 0, none⟩) 1 1) 1 [u8v q] :=
  ⟨rfl, .inr ⟨w.heap.size, 1, _, rfl, Nat.le_refl _, heap_alloc_new w.drew _, Nat.le_refl _, by unfold maxLen; omega, rfl, rfl⟩⟩

set_option maxHeartbeats 4000000 in
theorem quote_any (s : ByteArray) (w : World) (hs : s.size ≤ 200000) :
    Calls Try.prog 65 #[.string s] w fun e w' => e = .returned (.string (mk (quoteL (qOf (bs s)) (bs s)))) ∧ Below w.heap.size w w' := by
  obtain ⟨i0, hi0, hz0, hz1, hz2⟩ := info_parts u8info
  have K1 := Try.strings_Count_one s 39
  have K2 := Try.strings_Count_one s 34
  obtain ⟨n1, hn1⟩ : ∃ n, n = Lib.countByte s.data.toList 39 := ⟨_, rfl⟩
  obtain ⟨n2, hn2⟩ : ∃ n, n = Lib.countByte s.data.toList 34 := ⟨_, rfl⟩
  rw [← hn1] at K1
  rw [← hn2] at K2
  obtain ⟨q, hq⟩ : ∃ q, q = qOf (bs s) := ⟨_, rfl⟩
  rw [← hq]
  have HQ : q = if n2 < n1 then 34 else 39 := by rw [hq, hn1, hn2]; rfl
  have K1h := Lib.hid K1
  have K2h := Lib.hid K2
  have KA := Lib.hid (fun A cap acc c W a b d => appendQuoted_any A cap w.heap.size acc c q W a b d)
  clear K1 K2 hn1 hn2 hq
  have s1 : ∀ W : World, (Instr.slice 9 (.string ⟨#[39, 34]⟩) none (some (.int .i64 1)) none).run Try.prog W = .ok (.string ⟨#[39]⟩) W := by
    intro W
    rw [run_slice_string_h W 9 _ Try.underlying9 .i64 _ (by omega) (by decide)]
    rfl
  have s2 : ∀ W : World, (Instr.slice 9 (.string ⟨#[39, 34]⟩) (some (.int .i64 1)) none none).run Try.prog W = .ok (.string ⟨#[34]⟩) W := by
    intro W
    rw [run_slice_string_l W 9 _ Try.underlying9 .i64 _ (by omega) (by decide)]
    rfl
  have x0 : ∀ h, (⟨#[39, 34]⟩ : ByteArray)[0]'h = 39 := fun _ => rfl
  have x1 : ∀ h, (⟨#[39, 34]⟩ : ByteArray)[1]'h = 34 := fun _ => rfl
  obtain ⟨qn, hqn⟩ : ∃ qn : Nat, qn = q.toNat := ⟨_, rfl⟩
  have hq2 : (n2 : Int) < n1 ∧ qn = 34 ∨ (n1 : Int) ≤ n2 ∧ qn = 39 := by
    by_cases h : n2 < n1
    · rw [if_pos h] at HQ; exact .inl ⟨by omega, by rw [hqn, HQ]; rfl⟩
    · rw [if_neg h] at HQ; exact .inr ⟨by omega, by rw [hqn, HQ]; rfl⟩
  have HOF := Lib.hid (own_first w q)
  rw [← hqn] at HOF KA
  have HQN := Lib.hid hqn
  clear HQ hqn
  rcases hq2 with ⟨hlt, rfl⟩ | ⟨hlt, rfl⟩
  all_goals
    go_enter Try.func65, Try.ntmps65
    go_wp2_with fail
    go_region_with (first | ((with_reducible refine (K1h.out _).mono ?_); rintro e w1 ⟨rfl, rfl⟩) | ((with_reducible refine (K2h.out _).mono ?_); rintro e w1 ⟨rfl, rfl⟩))
    clear s1 s2
    go_wp2
    go_loopw [4, 19] (fun v n wr => QuAt s q w wr v n) (fun _ n _ => s.size - (intOf n).toNat)
    case atStart => exact ⟨0, 1, some ⟨w.heap.size, 0, none⟩, [q], by omega, rfl, rfl, rfl, HOF.out, below_drew ((Below.refl _ _).alloc (Nat.le_refl _) _)⟩
    case round =>
      obtain ⟨k, cap, A, l, hk, rfl, hll, rfl, hown, hbel⟩ := hrel
      have hlen : l.length ≤ 1 + 4 * k := by
        have := qbody_len q ((bs s).take k)
        rw [List.length_take] at this
        rw [hll, List.length_cons]
        omega
      have HLL := Lib.hid hll
      have HO := Lib.hid hown
      have HB := Lib.hid hbel
      have hwr := hbel.size
      clear hll hown hbel
      by_cases hks : k < s.size
      · have hts := Lib.hid (take_snoc' s k hks)
        go_wp2_with fail
        refine (KA.out A cap l s[k] wr HO.out hwr (by omega)).mono ?_
        rintro e w2 ⟨A2, cap2, rfl, hown2, hb2⟩
        have HO2 := Lib.hid hown2
        have HB2 := Lib.hid (HB.out.trans hb2)
        clear hown2 hb2
        go_wp2
        go_roundw
        case rel => exact ⟨k + 1, cap2, A2, l ++ qch q s[k], by omega, by go_num, by rw [hts.out, qbody_snoc, HLL.out]; rfl, by simp, HO2.out, HB2.out⟩
        case measure => simp [intOf]; omega
      · obtain rfl : k = s.size := by omega
        have hfin : l ++ [q] = quoteL q (bs s) := by
          rw [HLL.out, List.take_of_length_le (by rw [bs_len]; omega)]; rfl
        have HFI := Lib.hid hfin
        clear hfin
        go_wp2_with ((at_builtin; refine wpList_append_own _ rfl _ _ 76 rfl w.heap.size 5 i0 (.int .u8 0) 1 1 Try.underlying76 hi0 hz0 hz1 hz2 rfl (by decide) _ _ _ rfl (HO.out.alloc _) ⟨wr.heap.size, 0, none⟩ 1 1 [u8v q] (by first | rfl | (rw [u8v, ← HQN.out]; rfl)) rfl ?c1 ?c2 ?c3 ?c4 ?c5 ?_))
        case c1 => rw [u8v, ← HQN.out]; exact row_new _ [.int .u8 _] _ _ rfl
        case c2 => simp [u8v, Value.oneCell']
        case c3 => unfold maxLen; omega
        case c4 => omega
        case c5 => simp; omega
        intro v' w4 hown4 hgrow4 _
        obtain ⟨A', cap', rfl⟩ := slice_of hown4
        have hown5 : w4.ownsRow w.heap.size 5 1 (.slice A' (l ++ [q]).length cap') (l ++ [q]).length ((l ++ [q]).map u8v) := by
          rw [List.map_append, List.length_append]; exact hown4
        have hcv := own_string w4 _ A' cap' (l ++ [q]) hown5
        rw [HFI.out] at hcv
        have hle : (quoteL q (bs s)).length = l.length + 1 := by rw [← HFI.out]; simp
        rw [hle] at hcv
        have hbf : Below w.heap.size w w4 := HB.out.trans ⟨hgrow4.os, hgrow4.tape, hgrow4.output, by have := hgrow4.size; simp at this; omega, fun b hb => (hgrow4.block b (by simp; omega) (fun e => by have := own_block HO.out b e.symm; omega)).trans (heap_alloc_old wr _ (by omega))⟩
        have HBF := Lib.hid hbf
        clear hown4 hown5 hgrow4 hle hbf
        go_wp2
        go_ret
        exact ⟨rfl, HBF.out⟩

end Go.Proofs.Ytdknlifpoihnmaa.Qt

