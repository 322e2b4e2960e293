/-
  What the laws of syntax have in common: a text's parse and its tokens; a grammar in memory behind calls.
-/
import Derived.Test.YtppdemdjlhdfcaaSxSpeaks
import Derived.Test.YtppdemdjlhdfcaaSxCodes
import Derived.Test.YtppdemdjlhdfcaaLxPlace
namespace Go.Proofs.Ytppdemdjlhdfcaa.Sx
open Go.RowKit
open Lx (Tk Toks bs)
set_option maxRecDepth 100000

theorem parseS_code {s : List UInt8} {l c e : Nat} (h : parseS s = .no l c e) : e ≠ 0 := by
  unfold parseS at h
  split at h
  · rename_i hk
    injection h with _ _ h
    rw [← h]; exact hk
  · exact parseT_code h
/-- A text that is a grammar's: its tokens. -/
theorem parseS_ok {s : List UInt8} {G : Gram} {j : Nat} (h : parseS s = .ok G j) (hl : s.length ≤ 65536) :
    ∃ T e, Lx.scanS s = (T ++ [e], (0, 0, 0)) ∧ e.kind = 4 ∧ e.text = [] ∧ (∀ t ∈ T, Lx.Valid t) ∧ T.length ≤ s.length ∧ (∀ t ∈ T ++ [e], t.line ≤ 1 + s.length) ∧ parseT (T ++ [e]) = .ok G j := by
  unfold parseS at h
  split at h
  · cases h
  · rename_i hk
    rcases Lx.scanS_cases s hl with ⟨f, hf, hs⟩ | ⟨T, e, hs, he, ht, hv, hln, hT⟩
    · rw [hs] at hk; exact absurd hf hk
    · rw [hs] at h
      exact ⟨T, e, hs, he, ht, hv, hT, hln, h⟩
theorem valid_kind {t : Tk} (h : Lx.Valid t) : t.kind ≠ 4 := by
  rcases h with h | h | h <;> rw [h.1] <;> decide
/-- What all rules of a text are: short, their trees small. -/
theorem parse_small {T : List Tk} {e : Tk} {G : Gram} {j : Nat} (he : e.kind = 4) (hv : ∀ t ∈ T, Lx.Valid t) (hT : T.length ≤ 65536) (h : parseT (T ++ [e]) = .ok G j) :
    G.start.length ≤ 32 ∧ (∀ r ∈ G.rules, r.1.length ≤ 32 ∧ WeT r.2) ∧ 0 < G.rules.length ∧ G.rules.length ≤ 64 := by
  have hkt : ∀ i, (tkAt (T ++ [e]) i).kind = 1 ∨ (tkAt (T ++ [e]) i).kind = 2 → (tkAt (T ++ [e]) i).text.length ≤ 32 := by
    intro i hk
    have hi : i < T.length := by
      rcases Nat.lt_or_ge i T.length with h1 | h1
      · exact h1
      · exfalso
        have : (tkAt (T ++ [e]) i).kind = 4 := by
          rcases Nat.eq_or_lt_of_le h1 with h2 | h2
          · have := tkAt_app_right (a := T) (b := [e]) 0
            rw [Nat.zero_add] at this
            rw [← h2, this]; exact he
          · unfold tkAt
            rw [List.getD_eq_getElem?_getD, List.getElem?_eq_none (by simp; omega)]
            rfl
        omega
    rw [tkAt_app_left hi] at hk ⊢
    have e1 : tkAt T i = T[i] := by simp [tkAt, List.getD, List.getElem?_eq_getElem hi]
    rw [e1] at hk ⊢
    rcases hv _ (List.getElem_mem hi) with h1 | h1 | h1
    · exact h1.2.2.1
    · omega
    · rw [h1.1] at hk; omega
  have hP := parseT_is (T ++ [e])
  rw [h] at hP
  have := gram_all (T ++ [e]) (ended_app T e he) WeT
    (fun i hk => .mk _ _ _ (by have := hkt i (.inl hk); omega) (by simp) fun a ha => absurd ha (by simp))
    (fun i hk => .mk _ _ _ (by have := hkt i (.inr hk); omega) (by simp) fun a ha => absurd ha (by simp))
    (fun acc ha hl _ => .mk _ _ _ (by simp) (by simp at hl; omega) ha)
    (fun acc ha hl _ => .mk _ _ _ (by simp) (by simp at hl; omega) ha)
    (fun k t _ ht => .mk _ _ _ (by simp) (by simp) fun a ha => by rw [List.mem_singleton.1 ha]; exact ht)
    (fun n => n.length ≤ 32) (fun i hk => hkt i (.inl hk)) _ (by simp) G j hP
  exact this
theorem below_cells {W w : World} (b : Below W.heap.size W w) : (∀ b o, b < W.heap.size → w.cell? ⟨b, o, none⟩ = W.cell? ⟨b, o, none⟩) ∧ (∀ b o, b < W.heap.size → w.frozen? ⟨b, o, none⟩ = W.frozen? ⟨b, o, none⟩) :=
  ⟨fun b' o h => b.cell (p := ⟨b', o, none⟩) h, fun b' o h => b.frozen (p := ⟨b', o, none⟩) h⟩
theorem RlsAt.set {B g i : Nat} {W : World} {rs : List Rul} {v u : Value} (h : RlsAt (fun q => B ≤ q) W rs v) (hg : g < B) : RlsAt (fun q => B ≤ q) (W.setCell ⟨g, i, none⟩ u) rs v :=
  h.keep (by simp [World.setCell]) fun q hq _ => ⟨hq, fun j => by
    have := Lx.set_keep W i u (show g ≠ q by omega)
    unfold World.cell?
    simp only [this]⟩
theorem cell_after {w : World} {g : Nat} {cs : Array Value} {T : TypeId} (h : w.heap[g]? = some (.cells cs T (0, 0))) (o : Obj) (j : Nat) : (w.alloc o).cell? ⟨g, j, none⟩ = cs[j]? :=
  (((Below.refl w.heap.size w).alloc (Nat.le_refl _) o).cell (p := ⟨g, j, none⟩) (Lx.heap_lt h)).trans (cell_of_row _ _ j _ _ (0, 0) h)
theorem cell_after2 {w : World} {g : Nat} {cs : Array Value} {T : TypeId} (h : w.heap[g]? = some (.cells cs T (0, 0))) (o o' : Obj) (j : Nat) : ((w.alloc o).alloc o').cell? ⟨g, j, none⟩ = cs[j]? :=
  cell_after ((((Below.refl w.heap.size w).alloc (Nat.le_refl _) o).block g (Lx.heap_lt h)).trans h) o' j
theorem frozen_after2 {w : World} {g : Nat} {cs : Array Value} {T : TypeId} (h : w.heap[g]? = some (.cells cs T (0, 0))) (o o' : Obj) (j : Nat) : ((w.alloc o).alloc o').frozen? ⟨g, j, none⟩ = false :=
  frozen_row (((((Below.refl w.heap.size w).alloc (Nat.le_refl _) o).alloc (by simp) o').block g (Lx.heap_lt h)).trans h) j
theorem two_blocks {w w3 : World} {cs ds : Array Value} {T U : TypeId} (b : Below ((w.alloc (.cells cs T)).alloc (.cells ds U)).heap.size ((w.alloc (.cells cs T)).alloc (.cells ds U)) w3) :
    w3.heap[w.heap.size]? = some (.cells cs T (0, 0)) ∧ w3.heap[w.heap.size + 1]? = some (.cells ds U (0, 0)) ∧ w.heap.size + 2 ≤ w3.heap.size ∧ Below w.heap.size w w3 := by
  have hs : ((w.alloc (.cells cs T)).alloc (.cells ds U)).heap.size = w.heap.size + 2 := by simp
  have hn := heap_alloc_new (w.alloc (.cells cs T)) (.cells ds U)
  rw [heap_size_alloc'] at hn
  refine ⟨(b.block _ (by omega)).trans ((heap_alloc_old _ _ (by simp)).trans (heap_alloc_new w _)), (b.block _ (by omega)).trans hn, by rw [← hs]; exact b.size, ?_⟩
  exact (((Below.refl w.heap.size w).alloc (Nat.le_refl _) _).alloc (by simp) _).trans (b.mono (by omega))
theorem RlsAt.set' {B g i : Nat} {W : World} {rs : List Rul} {v u : Value} (h : RlsAt (fun q => B ≤ q ∧ q ≠ g) W rs v) : RlsAt (fun q => B ≤ q ∧ q ≠ g) (W.setCell ⟨g, i, none⟩ u) rs v :=
  h.keep (by simp [World.setCell]) fun q hq _ => ⟨hq, fun j => by
    have := Lx.set_keep W i u (show g ≠ q from fun h => hq.2 h.symm)
    unfold World.cell?
    simp only [this]⟩
theorem good_list (l : List UInt8) (h : Lx.goodB l = true) : Lx.GoodL l := by
  unfold Lx.goodB at h
  rw [decide_eq_true_eq] at h
  obtain ⟨h0, h32, hn⟩ := h
  cases l with
  | nil => simp at h0
  | cons b r =>
    rw [Lx.nsz] at hn
    by_cases hl : Lx.letterN b.toNat = true
    · rw [if_pos hl] at hn
      refine ⟨h0, h32, ?_, (Lx.run_all _).1 hn⟩
      intro b' r' e
      injection e with e1 e2
      rw [← e1]; exact hl
    · rw [if_neg hl] at hn
      simp at hn
/-- Lists of tokens alike but for their places. -/
theorem tkAt_kt {us ts : List Tk} (h : us.map Lx.Tk.kt = ts.map Lx.Tk.kt) (k : Nat) : (tkAt us k).kind = (tkAt ts k).kind ∧ (tkAt us k).text = (tkAt ts k).text := by
  have h1 : (us.map Lx.Tk.kt)[k]? = (ts.map Lx.Tk.kt)[k]? := by rw [h]
  rw [List.getElem?_map, List.getElem?_map] at h1
  unfold tkAt
  rw [List.getD_eq_getElem?_getD, List.getD_eq_getElem?_getD]
  cases hu : us[k]? with
  | none =>
    rw [hu] at h1
    cases ht : ts[k]? with
    | none => exact ⟨rfl, rfl⟩
    | some t => rw [ht] at h1; cases h1
  | some u =>
    rw [hu] at h1
    cases ht : ts[k]? with
    | none => rw [ht] at h1; cases h1
    | some t =>
      rw [ht] at h1
      injection h1 with h1
      unfold Lx.Tk.kt at h1
      injection h1 with h1 h2
      exact ⟨h1, h2⟩
end Go.Proofs.Ytppdemdjlhdfcaa.Sx
