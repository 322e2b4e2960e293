/-
  What numbers' map holds; the walks of numbers and distinct.
-/
import Derived.Test.YtdknlifpoihnmaaFxNum2
namespace Go.Proofs.Ytdknlifpoihnmaa.Fx
open Go.RowKit
open Gn (Asks)
set_option maxRecDepth 100000

/-- Is it among them? Are no two alike? -/
def inB (s : ByteArray) (l : List ByteArray) : Bool := l.any fun a => decide (a.data.toList = s.data.toList)
def nodupB : List ByteArray → Bool
  | [] => true
  | a :: r => !inB a r && nodupB r
/-- The places of texts, the first one's at k, of several alike that of the first. -/
def plD : List ByteArray → Nat → DataW Unit
  | [], _ => .map []
  | a :: r, k => (plD r (k + 1)).put (.string a.data.toList) (.lit (.int .i64 (k : Int)))
def numP (xs : List (Int × ByteArray)) : DataW Unit := xs.foldl (fun D x => D.put (.string x.2.data.toList) (.lit (.int .i64 x.1))) (.map [])
theorem numD_numP (xs : List Nm) : numD xs = numP (xs.map (·.1)) := by
  unfold numD numP
  rw [List.foldl_map]
theorem numP_snoc (xs : List (Int × ByteArray)) (x : Int × ByteArray) : numP (xs ++ [x]) = (numP xs).put (.string x.2.data.toList) (.lit (.int .i64 x.1)) := by simp [numP]
theorem numP_plD : ∀ (l : List ByteArray) (k : Nat), numP ((List.range l.length).map fun j => (((k + (l.length - 1 - j) : Nat) : Int), l.getD (l.length - 1 - j) ByteArray.empty)) = plD l k
  | [], k => rfl
  | a :: r, k => by
    rw [List.length_cons, List.range_succ, List.map_append, List.map_singleton, numP_snoc, plD, ← numP_plD r (k + 1)]
    have e1 : ((List.range r.length).map fun j => (((k + (r.length + 1 - 1 - j) : Nat) : Int), (a :: r).getD (r.length + 1 - 1 - j) ByteArray.empty)) = (List.range r.length).map fun j => (((k + 1 + (r.length - 1 - j) : Nat) : Int), r.getD (r.length - 1 - j) ByteArray.empty) := by
      refine List.map_congr_left fun j hj => ?_
      have hj2 := List.mem_range.1 hj
      have e2 : r.length + 1 - 1 - j = (r.length - 1 - j) + 1 := by omega
      rw [e2, List.getD_cons_succ, show k + (r.length - 1 - j + 1) = k + 1 + (r.length - 1 - j) by omega]
    rw [e1]
    have e3 : r.length + 1 - 1 - r.length = 0 := by omega
    simp only [e3, Nat.add_zero, List.getD_cons_zero]
theorem lit_inj {a b : ByteArray} (h : (Lit.string a.data.toList) = .string b.data.toList) : a = b := by
  injection h with h
  exact ByteArray.ext (Array.toList_inj.1 h)
theorem key_lit (a : ByteArray) : WideAt.IsKeyLit (.string a.data.toList) := trivial
theorem plD_tidy : ∀ (l : List ByteArray) (k : Nat), Maps.Tidy (plD l k)
  | [], _ => Maps.tidy_empty
  | a :: r, k => (plD_tidy r (k + 1)).put (key_lit a) _
theorem plD_has (s : ByteArray) : ∀ (l : List ByteArray) (k : Nat), Maps.has (plD l k) (.string s.data.toList) = inB s l
  | [], _ => by simp [plD, Maps.has, inB]
  | a :: r, k => by
    rw [plD]
    by_cases h : a.data.toList = s.data.toList
    · rw [h, Maps.has_put_same (plD_tidy r (k + 1)).isMap (key_lit s), inB, List.any_cons, decide_eq_true h]
      rfl
    · rw [Maps.has_put_other (fun e => h (by injection e with e; exact e.symm)), plD_has s r (k + 1), inB, inB, List.any_cons, decide_eq_false h]
      rfl
theorem plD_size : ∀ (l : List ByteArray) (k : Nat), Maps.size (plD l k) ≤ l.length ∧ (Maps.size (plD l k) = l.length ↔ nodupB l = true)
  | [], _ => by simp [plD, Maps.size, nodupB]
  | a :: r, k => by
    obtain ⟨h1, h2⟩ := plD_size r (k + 1)
    rw [plD, Maps.size_put (plD_tidy r (k + 1)), plD_has, nodupB]
    cases h : inB a r
    · rw [if_neg (by decide)]
      refine ⟨by simp; omega, fun e => ?_, fun e => ?_⟩
      · have := h2.1 (by simp at e; omega)
        rw [this]; rfl
      · have := h2.2 (by simpa using e)
        simp; omega
    · rw [if_pos rfl]
      refine ⟨by simp; omega, fun e => ?_, fun e => ?_⟩
      · simp at e; omega
      · simp at e

theorem numbers_any (l : List ByteArray) (hl : l.length ≤ 1099511627776) (hs : ∀ s ∈ l, s.size ≤ maxLen) (P : Nat → Prop) (W : World) (v : Value) (h : StrsAt P W l v) :
    Calls Try.prog 76 #[v] W fun e w' => e = .returned (.map (some W.heap.size)) ∧ w'.ownsMap Try.prog 9 (plainElem (H := Unit) Try.prog 3) W.heap.size l.length (plD l 0) ∧ Below W.heap.size W w' := by
  obtain ⟨A, cap, b, rfl, hcap, h3, h4⟩ := h
  have hsz : ∀ j, (l.getD j ByteArray.empty).size ≤ maxLen := fun j => by
    rcases Nat.lt_or_ge j l.length with hj | hj
    · rw [List.getD_eq_getElem?_getD, List.getElem?_eq_getElem hj]; exact hs _ (List.getElem_mem hj)
    · rw [List.getD_eq_getElem?_getD, List.getElem?_eq_none hj]; exact Nat.zero_le _
  have hwf : ∀ j : Nat, (Lit.int .i64 ((l.length - 1 - j : Nat) : Int)).wf = true := fun j => WalkArith.wf_i64 (by omega)
  have := (callsIn_wide (n := 3)).1 (numbers_in Fence.wide 3 trivial trivial trivial rfl (Nat.le_refl _) b l.length cap A (fun j => ⟨(((l.length - 1 - j : Nat) : Int), l.getD (l.length - 1 - j) ByteArray.empty), hwf j, hsz _⟩) hl W (fun h0 => ⟨(h3 h0).1, (h3 h0).2.1⟩)
    (fun j hj => by
      have hj2 : l.length - 1 - j < l.length := by omega
      rw [h4 _ hj2]
      show _ = some (Value.string (l.getD (l.length - 1 - j) ByteArray.empty))
      rw [List.getD_eq_getElem?_getD, List.getElem?_eq_getElem hj2]; rfl) (fun j _ => rfl))
  refine this.mono fun e w' ⟨h1, h2, h3⟩ => ⟨h1, ?_, h3⟩
  have e1 : numD (upto (fun j => (⟨(((l.length - 1 - j : Nat) : Int), l.getD (l.length - 1 - j) ByteArray.empty), hwf j, hsz _⟩ : Nm)) l.length) = plD l 0 := by
    rw [numD_numP, ← numP_plD, upto, List.map_map]
    congr 1
    refine List.map_congr_left fun j _ => ?_
    simp
  rw [e1] at h2
  exact h2

/-- No two alike, none empty. -/
def distinctB (l : List ByteArray) : Bool := nodupB l && !inB ByteArray.empty l
theorem zero_int (w : World) : (zeroValue 3).run Try.prog w = .ok (.int .i64 0) w := by kernel_rfl
set_option maxHeartbeats 2000000 in
theorem distinct_any (l : List ByteArray) (hl : l.length ≤ 1099511627776) (hs : ∀ s ∈ l, s.size ≤ maxLen) (P : Nat → Prop) (W : World) (v : Value) (h : StrsAt P W l v) :
    Calls Try.prog 54 #[v] W (Asks (distinctB l) W) := by
  have KN := Lib.hid (numbers_any l hl hs P W v h)
  obtain ⟨A, cap, rfl⟩ := h.form
  obtain ⟨h1, h2⟩ := plD_size l 0
  have h3 := plD_has ByteArray.empty l 0
  have hkey := Go.WideMaps.keyOf_string_mk (P := Try.prog) Try.underlying9 (s := ⟨#[]⟩) (Nat.zero_le _)
  obtain ⟨R, hR⟩ : ∃ R, R = distinctB l := ⟨_, rfl⟩
  rw [← hR]
  have HR := Lib.hid hR
  obtain ⟨n, hn⟩ : ∃ n, n = l.length := ⟨_, rfl⟩
  rw [← hn] at KN h1 h2 hl ⊢
  obtain ⟨q, hq⟩ : ∃ q, q = Maps.size (plD l 0) := ⟨_, rfl⟩
  obtain ⟨b, hb⟩ : ∃ b, b = Maps.has (plD l 0) (.string (ByteArray.empty).data.toList) := ⟨_, rfl⟩
  rw [← hq] at h1 h2
  rw [← hb] at h3
  have HQ := Lib.hid hq
  have HB := Lib.hid hb
  have H3 := Lib.hid h3
  have H2 := Lib.hid h2
  clear hR hn hq hb h h3 h2
  go_enter Try.func54, Try.ntmps54
  go_wp2_with fail
  refine KN.out.mono ?_
  rintro e w1 ⟨rfl, hown, b1⟩
  have HB1 := Lib.hid b1
  clear b1
  by_cases hqn : q = n
  · have e1 : ((q : Int) == (n : Int)) = true := by rw [beq_iff_eq]; omega
    have HF := Lib.hid (show R = !b by
      rw [HR.out, distinctB, H3.out, H2.out.1 hqn]; rfl)
    go_wp2_with (first | (at_lookup; refine wpList_lookup_own_ok_int _ rfl _ _ 140 rfl 9 3 .i64 (Maps.string_keyed Try.underlying9) Try.underlying140 Try.underlying3 (zero_int _) W.heap.size n _ rfl hown _ _ rfl hkey ?_; intro c hat hwc; rw [show Maps.has (plD l 0) (Lit.string (⟨#[]⟩ : ByteArray).data.toList) = b from HB.out.symm]; clear hat) | (at_len; refine wpList_len_own _ rfl _ 140 rfl 9 3 Try.underlying140 _ W.heap.size n _ rfl hown ?_; rw [← HQ.out]))
    go_ret
    exact ⟨by rw [HF.out]; rfl, HB1.out⟩
  · have e1 : ((q : Int) == (n : Int)) = false := by rw [beq_eq_false_iff_ne]; omega
    have HF := Lib.hid (show R = false by
      rw [HR.out, distinctB]
      cases hnd : nodupB l
      · rfl
      · exact absurd (H2.out.2 hnd) hqn)
    go_wp2_with (first | (at_lookup; refine wpList_lookup_own_ok_int _ rfl _ _ 140 rfl 9 3 .i64 (Maps.string_keyed Try.underlying9) Try.underlying140 Try.underlying3 (zero_int _) W.heap.size n _ rfl hown _ _ rfl hkey ?_; intro c hat hwc; rw [show Maps.has (plD l 0) (Lit.string (⟨#[]⟩ : ByteArray).data.toList) = b from HB.out.symm]; clear hat) | (at_len; refine wpList_len_own _ rfl _ 140 rfl 9 3 Try.underlying140 _ W.heap.size n _ rfl hown ?_; rw [← HQ.out]))
    go_ret
    exact ⟨by rw [HF.out]; rfl, HB1.out⟩
end Go.Proofs.Ytdknlifpoihnmaa.Fx
