/-
  The walks of closing, joined, around.
-/
import Derived.Test.YtakihbjfkpebcaaSxPars2
import Derived.Laws.Rows
namespace Go.Proofs.Ytakihbjfkpebcaa.Sx
open Go.RowKit
open Lx (Tk Toks)
set_option maxRecDepth 100000

/-- What closing tells of a token's kind and text. -/
def clo (k : Nat) (t : List UInt8) : List UInt8 := if k ≠ 3 then [] else if t = [40] then [41] else if t = [91] then [93] else if t = [123] then [125] else []
theorem clo_clos (ts : List Tk) (i : Nat) : clo (tkAt ts i).kind (tkAt ts i).text = match clos ts i with | none => [] | some c => [c] := by
  unfold clo clos isSg
  by_cases hk : (tkAt ts i).kind = 3
  · rw [if_neg (by omega)]
    simp only [hk, decide_true, Bool.true_and, decide_eq_true_eq]
    split
    · rfl
    · split
      · rfl
      · split <;> rfl
  · rw [if_pos hk]
    simp [hk]

set_option maxHeartbeats 2000000 in
theorem closing_any (k : Nat) (t : List UInt8) (l c : Int) (W : World) :
    Calls Try.prog 102 #[.agg #[.int .i64 k, .string (Lx.mk t), .int .i64 l, .int .i64 c]] W fun e w' => e = .returned (.string (Lx.mk (clo k t))) ∧ Below W.heap.size W w' := by
  by_cases hk : k = 3
  · subst hk
    by_cases h1 : t = [40]
    · subst h1
      rw [show clo 3 [40] = [41] from rfl, show Lx.mk [40] = (⟨#[40]⟩ : ByteArray) from rfl, show Lx.mk [41] = (⟨#[41]⟩ : ByteArray) from rfl]
      go_enter Try.func102, Try.ntmps102
      go_wp2
      go_ret
      exact ⟨rfl, (Below.refl _ _).alloc (Nat.le_refl _) _⟩
    · by_cases h2 : t = [91]
      · subst h2
        rw [show clo 3 [91] = [93] from rfl, show Lx.mk [91] = (⟨#[91]⟩ : ByteArray) from rfl, show Lx.mk [93] = (⟨#[93]⟩ : ByteArray) from rfl]
        clear h1
        go_enter Try.func102, Try.ntmps102
        go_wp2
        go_ret
        exact ⟨rfl, (Below.refl _ _).alloc (Nat.le_refl _) _⟩
      · by_cases h3 : t = [123]
        · subst h3
          rw [show clo 3 [123] = [125] from rfl, show Lx.mk [123] = (⟨#[123]⟩ : ByteArray) from rfl, show Lx.mk [125] = (⟨#[125]⟩ : ByteArray) from rfl]
          clear h1 h2
          go_enter Try.func102, Try.ntmps102
          go_wp2
          go_ret
          exact ⟨rfl, (Below.refl _ _).alloc (Nat.le_refl _) _⟩
        · have hc : clo 3 t = [] := by unfold clo; rw [if_neg (by omega), if_neg h1, if_neg h2, if_neg h3]
          rw [hc, show Lx.mk [] = (⟨#[]⟩ : ByteArray) from rfl]
          obtain ⟨tx, htx⟩ : ∃ tx, tx = Lx.mk t := ⟨_, rfl⟩
          rw [← htx]
          have e : tx.toList = t := by rw [htx, Lib.toList_data]; rfl
          have b1 : (tx.toList == [40]) = false := by rw [e, beq_eq_false_iff_ne]; exact h1
          have b2 : (tx.toList == [91]) = false := by rw [e, beq_eq_false_iff_ne]; exact h2
          have b3 : (tx.toList == [123]) = false := by rw [e, beq_eq_false_iff_ne]; exact h3
          clear hc e htx h1 h2 h3
          go_enter Try.func102, Try.ntmps102
          go_wp2
          go_ret
          exact ⟨rfl, (Below.refl _ _).alloc (Nat.le_refl _) _⟩
  · have hc : clo k t = [] := by unfold clo; rw [if_pos hk]
    rw [hc, show Lx.mk [] = (⟨#[]⟩ : ByteArray) from rfl]
    have b1 : ((k : Int) != 3) = true := by rw [bne_iff_ne]; omega
    clear hc hk
    go_enter Try.func102, Try.ntmps102
    go_wp2
    go_ret
    exact ⟨rfl, (Below.refl _ _).alloc (Nat.le_refl _) _⟩

theorem Nd.form {P : Nat → Prop} {W : World} {t : Tree} {x y z : Value} (h : Nd P W t x y z) : ∃ (k : Nat) (tx : ByteArray) (A : Option Addr) (n cap : Nat), x = .int .i64 k ∧ y = .string tx ∧ z = .slice A n cap := by
  cases h with
  | mk k text kids A cap r a b c => exact ⟨k, _, A, _, cap, rfl, rfl, rfl⟩

/-- A node is told: its three cells. -/
def NodeOut (lo : Nat) (W : World) (t : Tree) (e : Ending) (w' : World) : Prop :=
  ∃ x y z, e = .returned (.agg #[x, y, z]) ∧ Nd (fun r => lo ≤ r) w' t x y z ∧ Below W.heap.size W w'

theorem heap_size_alloc' (W : World) (o : Obj) : (W.alloc o).heap.size = W.heap.size + 1 := by simp
theorem nd_one {lo : Nat} {W : World} {t : Tree} {x y z : Value} (h : Nd (fun r => lo ≤ r) W t x y z) (hlo : lo ≤ W.heap.size) (k : Nat) : Nd (fun r => lo ≤ r) (W.alloc (.cells #[x, y, z] 63)) (around k t) (.int .i64 k) (.string ⟨#[]⟩) (.slice (some ⟨W.heap.size, 0, none⟩) 1 1) := by
  have hb : Below W.heap.size W (W.alloc (.cells #[x, y, z] 63)) := (Below.refl _ _).alloc (Nat.le_refl _) _
  have hh := heap_alloc_new W (.cells #[x, y, z] 63)
  have := Nd.mk (P := fun r => lo ≤ r) (W := W.alloc (.cells #[x, y, z] 63)) k [] [t] (some ⟨W.heap.size, 0, none⟩) 1 W.heap.size (fun _ => x) (fun _ => y) (fun _ => z)
    (fun _ => ⟨rfl, by simp, hlo⟩) (Nat.le_refl _)
    (fun i hi => by
      have : i = 0 := by simp at hi; omega
      subst this
      exact ⟨cell_of_row _ _ 0 _ _ (0, 0) hh, cell_of_row _ _ 1 _ _ (0, 0) hh, cell_of_row _ _ 2 _ _ (0, 0) hh⟩)
    (fun i hi => by
      have : i = 0 := by simp at hi; omega
      subst this
      exact h.under hb)
  exact this

set_option maxHeartbeats 2000000 in
theorem around_any (lo k : Nat) (t : Tree) (x y z : Value) (W : World) (h : Nd (fun r => lo ≤ r) W t x y z) (hlo : lo ≤ W.heap.size) :
    Calls Try.prog 106 #[.int .i64 k, .agg #[x, y, z]] W (NodeOut lo W (around k t)) := by
  obtain ⟨k0, tx, A, n, cap, rfl, rfl, rfl⟩ := h.form
  have H := Lib.hid h
  clear h
  go_enter Try.func106, Try.ntmps106
  go_wp2
  have b1 : Below W.heap.size W ((W.alloc (.cells #[.int .i64 k0, .string tx, .slice A n cap] 63)).alloc (.cells #[.int .i64 k, .string ⟨#[]⟩, .slice (some ⟨W.heap.size + 1 + 1, 0, none⟩) 1 1] 63)) := ((Below.refl _ _).alloc (Nat.le_refl _) _).alloc (by simp) _
  have h2 := nd_one (H.out.under b1) (by simp; omega) k
  simp only [heap_size_alloc'] at h2
  have hh : (((W.alloc (.cells #[.int .i64 k0, .string tx, .slice A n cap] 63)).alloc (.cells #[.int .i64 k, .string ⟨#[]⟩, .slice (some ⟨W.heap.size + 1 + 1, 0, none⟩) 1 1] 63)).alloc (.cells #[.int .i64 k0, .string tx, .slice A n cap] 63)).heap[W.heap.size + 1]? = some (.cells #[.int .i64 k, .string ⟨#[]⟩, .slice (some ⟨W.heap.size + 1 + 1, 0, none⟩) 1 1] 63 (0, 0)) :=
    (heap_alloc_old _ _ (by simp)).trans (heap_alloc2_new W _ _)
  exact bodyPost_ret (results_cell_row rfl _ _ (W.heap.size + 1) 63 _ (0, 0) _ rfl hh Try.underlying63 rfl rfl) rfl ⟨_, _, _, rfl, h2, b1.alloc (by simp; omega) _⟩

set_option maxHeartbeats 2000000 in
theorem joined_any (base k : Nat) (A : Option Addr) (cap : Nat) (acc : List Tree) (W : World) (h : Items base W A cap acc) (hn : acc.length ≤ 1048576) :
    Calls Try.prog 98 #[.int .i64 k, .slice A acc.length cap] W (NodeOut base W (joined k acc)) := by
  by_cases h1 : acc.length = 1
  · obtain ⟨t, rfl⟩ : ∃ t, acc = [t] := by
      match acc, h1 with
      | [t], _ => exact ⟨t, rfl⟩
    obtain ⟨r, x, y, z, rfl, hr, cx, cy, cz, hnd⟩ := h.one
    obtain ⟨k0, tx, A, n, cap2, rfl, rfl, rfl⟩ := hnd.form
    have HN := Lib.hid hnd
    clear hnd h h1
    simp only [List.length_cons, List.length_nil]
    go_enter Try.func98, Try.ntmps98
    go_wp2
    have b1 : Below W.heap.size W (W.alloc (.cells #[.int .i64 k0, .string tx, .slice A n cap2] 63)) := (Below.refl _ _).alloc (Nat.le_refl _) _
    exact bodyPost_ret (results_cell_row rfl _ _ W.heap.size 63 _ (0, 0) _ rfl (heap_alloc_new W _) Try.underlying63 rfl rfl) rfl ⟨_, _, _, rfl, HN.out.under b1, b1⟩
  · have hj : joined k acc = .node k [] acc := by
      match acc, h1 with
      | [], _ => rfl
      | [_], h => exact absurd rfl h
      | _ :: _ :: _, _ => rfl
    rw [hj]
    have hI : ((acc.length : Int) == 1) = false := by rw [beq_eq_false_iff_ne]; omega
    have H := Lib.hid h
    clear h hj h1
    go_enter Try.func98, Try.ntmps98
    go_wp2
    have b1 : Below W.heap.size W (W.alloc (.cells #[.int .i64 k, .string ⟨#[]⟩, .slice A acc.length cap] 63)) := (Below.refl _ _).alloc (Nat.le_refl _) _
    exact bodyPost_ret (results_cell_row rfl _ _ W.heap.size 63 _ (0, 0) _ rfl (heap_alloc_new W _) Try.underlying63 rfl rfl) rfl ⟨_, _, _, rfl, (H.out.node k).under b1, b1⟩

end Go.Proofs.Ytakihbjfkpebcaa.Sx
