/-
  Layer 7: what is read is small (as in layer 5).
  The sentence that the laws of symbols open with, read, and what is read is small.
  The laws' read: a text's grammar.
-/
import Derived.Test.YtakihbjfkpebcaaSyA
import Derived.Test.YtakihbjfkpebcaaSxCodes
import Derived.Test.YtakihbjfkpebcaaSxTrees
import Derived.Test.YtakihbjfkpebcaaSxText
import Derived.Test.YtakihbjfkpebcaaSyC

namespace Go.Proofs.Ytakihbjfkpebcaa.Sx
open Go.RowKit
open Lx (Tk Toks bs)
set_option maxRecDepth 100000
set_option linter.unusedSimpArgs false

theorem parseS_code {s : List UInt8} {l c e : Nat} (h : parseS s = .no l c e) : e ≠ 0 := by
  unfold parseS at h
  split at h
  · rename_i hk
    injection h with _ _ h
    rw [← h]; exact hk
  · exact parseT_code h
/-- A text that is a grammar's: its tokens. -/
theorem parseS_ok {s : List UInt8} {G : Gram} {j : Nat} (h : parseS s = .ok G j) (hl : s.length ≤ 65536) :
    ∃ T e, Lx.scanS s = (T ++ [e], (0, 0, 0)) ∧ e.kind = 4 ∧ e.text = [] ∧ (∀ t ∈ T, Lx.Valid t) ∧ T.length ≤ s.length ∧ (∀ t ∈ T ++ [e], t.line ≤ 1 + s.length) ∧ parseT (T ++ [e]) = .ok G j := by
  unfold parseS at h
  split at h
  · cases h
  · rename_i hk
    rcases Lx.scanS_cases s hl with ⟨f, hf, hs⟩ | ⟨T, e, hs, he, ht, hv, hln, hT⟩
    · rw [hs] at hk; exact absurd hf hk
    · rw [hs] at h
      exact ⟨T, e, hs, he, ht, hv, hT, hln, h⟩
theorem valid_kind {t : Tk} (h : Lx.Valid t) : t.kind ≠ 4 := by
  rcases h with h | h | h <;> rw [h.1] <;> decide
/-- What all rules of a text are: short, their trees small. -/
theorem parse_small {T : List Tk} {e : Tk} {G : Gram} {j : Nat} (he : e.kind = 4) (hv : ∀ t ∈ T, Lx.Valid t) (hT : T.length ≤ 65536) (h : parseT (T ++ [e]) = .ok G j) :
    G.start.length ≤ 32 ∧ (∀ r ∈ G.rules, r.1.length ≤ 32 ∧ SmW r.2) ∧ 0 < G.rules.length ∧ G.rules.length ≤ 64 := by
  have hkt : ∀ i, (tkAt (T ++ [e]) i).kind = 1 ∨ (tkAt (T ++ [e]) i).kind = 2 → (tkAt (T ++ [e]) i).text.length ≤ 32 := by
    intro i hk
    have hi : i < T.length := by
      rcases Nat.lt_or_ge i T.length with h1 | h1
      · exact h1
      · exfalso
        have : (tkAt (T ++ [e]) i).kind = 4 := by
          rcases Nat.eq_or_lt_of_le h1 with h2 | h2
          · have := tkAt_app_right (a := T) (b := [e]) 0
            rw [Nat.zero_add] at this
            rw [← h2, this]; exact he
          · unfold tkAt
            rw [List.getD_eq_getElem?_getD, List.getElem?_eq_none (by simp; omega)]
            rfl
        omega
    rw [tkAt_app_left hi] at hk ⊢
    have e1 : tkAt T i = T[i] := by simp [tkAt, List.getD, List.getElem?_eq_getElem hi]
    rw [e1] at hk ⊢
    rcases hv _ (List.getElem_mem hi) with h1 | h1 | h1
    · exact h1.2.2.1
    · omega
    · rw [h1.1] at hk; omega
  have hP := parseT_is (T ++ [e])
  rw [h] at hP
  have := gram_all (T ++ [e]) (ended_app T e he) SmW
    (fun i hk => .mk _ _ _ (by have := hkt i (.inl hk); omega) (by simp) fun a ha => absurd ha (by simp))
    (fun i hk => .mk _ _ _ (by have := hkt i (.inr hk); omega) (by simp) fun a ha => absurd ha (by simp))
    (fun acc ha hl _ => .mk _ _ _ (by simp) (by simp at hl; omega) ha)
    (fun acc ha hl _ => .mk _ _ _ (by simp) (by simp at hl; omega) ha)
    (fun k t _ ht => .mk _ _ _ (by simp) (by simp) fun a ha => by rw [List.mem_singleton.1 ha]; exact ht)
    (fun n => n.length ≤ 32) (fun i hk => hkt i (.inl hk)) _ (by simp) G j hP
  exact this
end Go.Proofs.Ytakihbjfkpebcaa.Sx

namespace Go.Proofs.Ytakihbjfkpebcaa.Sx
open Go.RowKit
open Lx (bs Tk Toks)
set_option maxRecDepth 100000
set_option linter.unusedSimpArgs false
set_option linter.unusedVariables false

/-- What is read is small. -/
theorem read_small {s : List UInt8} {G : Gram} {j : Nat} (h : parseS s = .ok G j) (hs : s.length ≤ 1000) :
    G.start.length ≤ 1048576 ∧ G.rules.length ≤ 1024 ∧ ∀ r ∈ G.rules, r.1.length ≤ 1048576 ∧ SmW r.2 ∧ (refs r.2).length ≤ 65537 := by
  obtain ⟨T, e, hsc, hek, het, hv, hT, _, hPT⟩ := parseS_ok h (by omega)
  obtain ⟨h32, hsm, hl0, h64⟩ := parse_small hek hv (by omega) hPT
  have hP := parseT_is (T ++ [e])
  rw [hPT] at hP
  have hc := gram_cn (T ++ [e]) _ G j hP
  exact ⟨by omega, by omega, fun r hr => ⟨by have := (hsm r hr).1; omega, (hsm r hr).2, by have := hc r hr; unfold rc at this; simp at this; omega⟩⟩
def gSy : Gram := ⟨[97], [([97], .node 3 [] [.node 1 [98] [], .node 1 [98] []]), ([99], .node 3 [] [.node 1 [97] [], .node 2 [120] []])]⟩
theorem parse_sy : parseS (bs ⟨#[97, 58, 32, 98, 32, 98, 59, 32, 99, 58, 32, 97, 32, 39, 120, 39, 59]⟩) = .ok gSy 10 := by kernel_rfl
theorem check_sy : checkP gSy = [(10, 0, [98])] := by kernel_rfl
theorem table_sy : tableP gSy.rules = [([97], 0, 1), ([99], 1, 0), ([98], -1, 2)] := by kernel_rfl

set_option maxHeartbeats 4000000 in
theorem speaks_true (W : World) : Calls Try.prog 7 #[] W fun e w' => e = .returned (.bool true) ∧ Below W.heap.size W w' := by
  have KP := parse_text ⟨#[97, 58, 32, 98, 32, 98, 59, 32, 99, 58, 32, 97, 32, 39, 120, 39, 59]⟩ W (by decide)
  rw [parse_sy] at KP
  have HK := Lib.hid KP
  obtain ⟨m1, m2, m3⟩ := read_small parse_sy (by decide)
  clear KP
  go_enter Try.func7, Try.ntmps7
  go_wp2_with fail
  refine HK.out.mono ?_
  rintro e w1 ⟨x, y, rfl, hb, ⟨yy, rfl, hr⟩, rfl⟩
  have hr0 := hr
  obtain ⟨A, cap, rr, fa, fb, fc, rfl, hcap, hA, hc⟩ := hr
  have b2 : Below w1.heap.size w1 ((w1.alloc (.cells #[.string (Lx.mk gSy.start), .slice A gSy.rules.length cap] 25)).alloc (.cells #[.int .i64 0, .int .i64 0, .int .i64 0] 67)) := ((Below.refl _ _).alloc (Nat.le_refl _) _).alloc (by simp) _
  have KC := fun w (b : Below w1.heap.size w1 w) => check_any gSy (Nat.le_trans m2 (by decide)) m1 65537 (by decide) m3 _ w _ (hr0.under b)
  have KT := fun w (b : Below w1.heap.size w1 w) => table_any gSy m2 65537 (by decide) m3 _ w _ (hr0.under b)
  rw [check_sy] at KC
  rw [table_sy] at KT
  have HKC := Lib.hid KC
  have HKT := Lib.hid KT
  have HB1 := Lib.hid hb
  have HB2 := Lib.hid b2
  have nb := (heap_alloc_old (w1.alloc (.cells #[.string (Lx.mk gSy.start), .slice A gSy.rules.length cap] 25)) (.cells #[.int .i64 0, .int .i64 0, .int .i64 0] 67) (by simp)).trans (heap_alloc_new w1 (.cells #[.string (Lx.mk gSy.start), .slice A gSy.rules.length cap] 25))
  have HNB := Lib.hid nb
  have l0 := cell_of_row _ _ 0 _ _ (0, 0) nb
  have l1 := cell_of_row _ _ 1 _ _ (0, 0) nb
  clear KC KT hb b2 hr0 hA hc nb hcap m1 m2 m3
  obtain ⟨ss, hss⟩ : ∃ ss, ss = Lx.mk gSy.start := ⟨_, rfl⟩
  obtain ⟨nr, hnr⟩ : ∃ nr, nr = gSy.rules.length := ⟨_, rfl⟩
  simp only [← hss, ← hnr] at HKC HKT HB2 HNB l0 l1 ⊢
  clear hss hnr HK
  go_wp2_with fail
  generalize hV : World.alloc (World.alloc w1 _) _ = V
  rw [hV] at HB2 HNB l0 l1
  clear hV
  refine (HKC.out _ HB2.out).mono ?_
  rintro e w3 ⟨pv, rfl, ho3, b3⟩
  have HB3 := Lib.hid (HB2.out.trans (b3.mono HB2.out.size))
  have nb3 := (b3.block _ (Gn.heap_lt HNB.out)).trans HNB.out
  have HO3 := Lib.hid ho3
  have HNB3 := Lib.hid nb3
  have l0 := cell_of_row _ _ 0 _ _ (0, 0) nb3
  have l1 := cell_of_row _ _ 1 _ _ (0, 0) nb3
  clear ho3 b3 nb3
  go_wp2_with fail
  refine (HKT.out _ HB3.out).mono ?_
  rintro e w4 ⟨tv, rfl, ho4, b4⟩
  have ho3 := own_under HO3.out b4
  obtain ⟨g3, c3, rfl⟩ := row_some ho3 (by decide)
  obtain ⟨g4, c4, rfl⟩ := row_some ho4 (by decide)
  have y0 : w4.cell? ⟨g3, 0, none⟩ = some (.int .i64 10) := World.ownsRow.cellAt ho3 0 (by decide)
  have y1 : w4.cell? ⟨g3, 1, none⟩ = some (.int .i64 0) := World.ownsRow.cellAt ho3 1 (by decide)
  have y2 : w4.cell? ⟨g3, 2, none⟩ = some (.string ⟨#[98]⟩) := World.ownsRow.cellAt ho3 2 (by decide)
  have z0 : w4.cell? ⟨g4, 6, none⟩ = some (.string ⟨#[98]⟩) := World.ownsRow.cellAt ho4 6 (by decide)
  have z1 : w4.cell? ⟨g4, 7, none⟩ = some (.int .i64 (-1)) := World.ownsRow.cellAt ho4 7 (by decide)
  have z2 : w4.cell? ⟨g4, 8, none⟩ = some (.int .i64 2) := World.ownsRow.cellAt ho4 8 (by decide)
  have HB4 := Lib.hid (HB1.out.trans ((HB3.out.trans (b4.mono HB3.out.size)).mono HB1.out.size))
  clear ho3 ho4 b4
  simp only [List.length_cons, List.length_nil]
  go_wp2
  go_ret
  exact ⟨rfl, HB4.out⟩
end Go.Proofs.Ytakihbjfkpebcaa.Sx

namespace Go.Proofs.Ytakihbjfkpebcaa.Sx
open Go.RowKit
open Lx (bs)
set_option maxRecDepth 100000
set_option linter.unusedSimpArgs false
set_option linter.unusedVariables false

theorem results_ct {P : Program} {fn : Func} {p q : Tmp} {ty : TypeId} (h : fn.results = #[.cell p ty, .tmp q]) (tmps : Array Value) (w : World) (g : Nat) (t : TypeId) (cs : Array Value) (fr : Nat × Nat) (d : TypeDesc)
    (hp : tmps.getD p undef = .pointer (some ⟨g, 0, none⟩)) (hg : w.heap[g]? = some (.cells cs t fr)) (hu : P.underlying ty = some d) (hd : (match d with | .struct _ | .array _ _ => true | _ => false) = true) (hi : (P.info? ty).map (·.size) = some cs.size) :
    (results fn tmps).run P w = .ok (.tuple #[.agg cs, tmps.getD q undef]) w := by
  have hp' : tmps[p]?.getD undef = .pointer (some ⟨g, 0, none⟩) := by simpa using hp
  simp [results, h, hp', asAddr, run_loadVar_row w g t ty cs fr d hg hu hd hi]
/-- A grammar and true, or none and false. -/
def ReadS (s : ByteArray) (W : World) (e : Ending) (w' : World) : Prop :=
  ∃ x b, e = .returned (.tuple #[x, .bool b]) ∧ Below W.heap.size W w' ∧ ((b = false ∧ x = .agg #[.string ⟨#[]⟩, .slice none 0 0]) ∨ (b = true ∧ s.size ≤ 1000 ∧ ∃ G j, parseS (bs s) = .ok G j ∧ GV W.heap.size G x w'))
theorem set2 {w : World} {g : Nat} {c0 c1 : Value} {T : TypeId} (h : w.heap[g]? = some (.cells #[c0, c1] T (0, 0))) (x y : Value) : ((w.setCell ⟨g, 0, none⟩ x).setCell ⟨g, 1, none⟩ y).heap[g]? = some (.cells #[x, y] T (0, 0)) := by
  have h1 := Gn.heap_set (Gn.heap_set h 0 x) 1 y
  exact h1

set_option maxHeartbeats 4000000 in
theorem read_any (s : ByteArray) (W : World) : Calls Try.prog 8 #[.string s] W (ReadS s W) := by
  have n0 := heap_alloc_new W (.cells #[.string ⟨#[]⟩, .slice none 0 0] 25)
  have b0 : Below W.heap.size W (W.alloc (.cells #[.string ⟨#[]⟩, .slice none 0 0] 25)) := (Below.refl _ _).alloc (Nat.le_refl _) _
  have z0 : (W.alloc (.cells #[.string ⟨#[]⟩, .slice none 0 0] 25)).heap.size = W.heap.size + 1 := by simp
  have N0 := Lib.hid n0
  have B0 := Lib.hid b0
  by_cases hs : 1000 < (s.size : Int)
  · clear n0 b0
    go_enter Try.func8, Try.ntmps8
    go_wp2
    refine bodyPost_ret (results_ct rfl _ _ W.heap.size 25 _ (0, 0) _ rfl N0.out Try.underlying25 rfl rfl) rfl ?_
    exact ⟨_, false, rfl, B0.out, .inl ⟨rfl, rfl⟩⟩
  · have hsz : s.size ≤ 1000 := by omega
    have HK := Lib.hid (parse_text s (W.alloc (.cells #[.string ⟨#[]⟩, .slice none 0 0] 25)) (by omega))
    have HE := Lib.hid (fun l c e (h : parseS (bs s) = .no l c e) => parseS_code h)
    clear n0 b0
    go_enter Try.func8, Try.ntmps8
    go_wp2_with fail
    refine HK.out.mono ?_
    rintro e w1 ⟨x, y, rfl, hb, hR⟩
    have HB1 := Lib.hid (B0.out.trans (hb.mono (by omega)))
    have n1 := (hb.block W.heap.size (by omega)).trans N0.out
    have hz1 := hb.size
    rw [z0] at hz1
    have F0 := Lib.hid (frozen_of_row w1 W.heap.size · _ _ n1)
    have N1 := Lib.hid n1
    clear n1
    have KX : ∃ (u : ByteArray) (A : Option Addr) (n c : Nat) (l c' k : Nat), x = .agg #[.string u, .slice A n c] ∧ y = .agg #[.int .i64 l, .int .i64 c', .int .i64 k] ∧ ∀ w', Below w1.heap.size w1 w' → ∀ W'', (∀ q, W.heap.size < q → W''.heap[q]? = w'.heap[q]?) → w'.heap.size ≤ W''.heap.size → ((decide ((k : Int) = 0) = false ∧ u = ⟨#[]⟩ ∧ A = none ∧ n = 0 ∧ c = 0) ∨ (decide ((k : Int) = 0) = true ∧ ∃ G j, parseS (bs s) = .ok G j ∧ GV W.heap.size G (.agg #[.string u, .slice A n c]) W'')) := by
      cases hP : parseS (bs s) with
      | no l c k =>
        rw [hP] at hR
        obtain ⟨rfl, rfl⟩ := hR
        exact ⟨_, _, _, _, l, c, k, rfl, rfl, fun _ _ _ _ _ => .inl ⟨decide_eq_false (by have := HE.out l c k hP; omega), rfl, rfl, rfl, rfl⟩⟩
      | ok G j =>
        rw [hP] at hR
        obtain ⟨⟨v, rfl, hr⟩, rfl⟩ := hR
        have hr0 := hr
        obtain ⟨A, cap, r, a, b, c, rfl, _⟩ := hr0
        refine ⟨_, _, _, _, 0, 0, 0, rfl, rfl, fun w' hw W'' hq hsz => .inr ⟨rfl, G, j, rfl, _, rfl, (hr.under hw).keep hsz fun q hq1 hq2 => ⟨by rw [z0] at hq1; omega, fun i => Gn.cell_same (hq q (by rw [z0] at hq1; omega)) i⟩⟩⟩
    obtain ⟨u, A, n, c, l, c', k, rfl, rfl, hKX⟩ := KX
    have HKX := Lib.hid hKX
    have m0 := heap_alloc_new w1 (.cells #[.string u, .slice A n c] 25)
    obtain ⟨V, hV⟩ : ∃ V, V = (w1.alloc (.cells #[.string u, .slice A n c] 25)).alloc (.cells #[.int .i64 l, .int .i64 c', .int .i64 k] 67) := ⟨_, rfl⟩
    have bV : Below w1.heap.size w1 V := by rw [hV]; exact ((Below.refl _ _).alloc (Nat.le_refl _) _).alloc (by simp) _
    have v1 : V.heap[w1.heap.size]? = some (.cells #[.string u, .slice A n c] 25 (0, 0)) := by rw [hV]; exact (heap_alloc_old _ _ (by simp)).trans m0
    have v2 : V.heap[w1.heap.size + 1]? = some (.cells #[.int .i64 l, .int .i64 c', .int .i64 k] 67 (0, 0)) := by
      have := heap_alloc_new (w1.alloc (.cells #[.string u, .slice A n c] 25)) (.cells #[.int .i64 l, .int .i64 c', .int .i64 k] 67)
      rw [heap_size_alloc'] at this
      rw [hV]; exact this
    have v0 := (bV.block W.heap.size (by omega)).trans N1.out
    have x0 := cell_of_row _ _ 0 _ _ (0, 0) v1
    have x1 := cell_of_row _ _ 1 _ _ (0, 0) v1
    have x2 := cell_of_row _ _ 2 _ _ (0, 0) v2
    have g0 := frozen_of_row V W.heap.size 0 _ _ v0
    have g1 := frozen_of_row V W.heap.size 1 _ _ v0
    have c0 := cell_of_row _ _ 0 _ _ (0, 0) v0
    have c1 := cell_of_row _ _ 1 _ _ (0, 0) v0
    have HN := Lib.hid (set2 v0 (.string u) (.slice A n c))
    have HB := Lib.hid (show Below W.heap.size W ((V.setCell ⟨W.heap.size, 0, none⟩ (.string u)).setCell ⟨W.heap.size, 1, none⟩ (.slice A n c)) from ((HB1.out.trans (bV.mono (by omega))).setCell (Nat.le_refl _) _).setCell (Nat.le_refl _) _)
    have HZ := Lib.hid (hKX V bV ((V.setCell ⟨W.heap.size, 0, none⟩ (.string u)).setCell ⟨W.heap.size, 1, none⟩ (.slice A n c)) (fun q hq => (Gn.set_keep _ _ _ (by omega)).trans (Gn.set_keep _ _ _ (by omega))) (by simp [World.setCell]))
    clear hKX m0 hb hR bV v1 v2 v0 HKX
    go_wp2_with fail
    rw [← hV]
    clear hV
    go_region
    all_goals
      go_wp2
      refine bodyPost_ret (results_ct rfl _ _ W.heap.size 25 _ (0, 0) _ rfl HN.out Try.underlying25 rfl rfl) rfl ?_
      rcases HZ.out with ⟨h1, rfl, rfl, rfl, rfl⟩ | ⟨h1, G, j, h2, h3⟩
      · exact ⟨_, false, by rw [← h1]; rfl, HB.out.drew, .inl ⟨rfl, rfl⟩⟩
      · exact ⟨_, true, by rw [← h1]; rfl, HB.out.drew, .inr ⟨rfl, hsz, G, j, h2, by obtain ⟨v, e, hr⟩ := h3; exact ⟨v, e, hr.under (Below.refl _ _).drew⟩⟩⟩
end Go.Proofs.Ytakihbjfkpebcaa.Sx
