/-
  SyntaxJoins: of any two texts the call returns true: of two texts of grammars, the second one without a start of its own, one behind the other with a newline between, the grammar has the first one's start, its rules, and then the second one's. For every two texts; no condition of ours.
-/
import Derived.Test.YtogddlcalhjlpaaSxLaw
import Derived.Test.YtogddlcalhjlpaaRows
import Derived.Deep.RegionHeld3
import Derived.ProofKit
import Derived.OpenShut
import Derived.ShutString
import Derived.ChangeOld
namespace Go.Proofs.Ytogddlcalhjlpaa.syntaxJoins
open Go.ChangeShapes Go.WideShapes Go.ChangeAt Go.RowKit
open Go.ChangeMaps (open_string shut_string)
open Lx (bs Tk Toks)
open Sx (Asks RlsAt Nd Rul)
set_option linter.unusedVariables false
set_option maxRecDepth 100000

theorem own : ownKnob Try.prog.godebug = none := by kernel_rfl

theorem tkAt_down (d : Nat) (M : List Tk) (k : Nat) : (Sx.tkAt (M.map (Lx.Tk.down d)) k).kind = (Sx.tkAt M k).kind ∧ (Sx.tkAt (M.map (Lx.Tk.down d)) k).text = (Sx.tkAt M k).text :=
  Sx.tkAt_kt (by rw [List.map_map]; congr 1) k
theorem join_scan (a b : List UInt8) (ha : a.length ≤ 500) (hb : b.length ≤ 500) (T M : List Tk) (e : Tk) (h1 : Lx.scanS a = (T ++ [e], (0, 0, 0))) (h2 : Lx.scanS b = (M, (0, 0, 0))) :
    Lx.scanS (a ++ 10 :: b) = (T ++ M.map (Lx.Tk.down e.line), (0, 0, 0)) := by
  rw [Lx.scanS, if_neg (by omega)] at h1 h2
  rw [Lx.scanS, if_neg (by simp; omega)]
  obtain ⟨init, e', he, h3⟩ := Lx.scan_join b false a 1 1 _ h1
  obtain ⟨rfl, h5⟩ := List.append_inj' he rfl
  obtain rfl : e = e' := by simpa using h5
  have h4 := Lx.scan_down e.line false b 1 1 _ h2
  rw [h3, Nat.add_comm e.line 1, h4]
  rfl
theorem join_text {a b : List UInt8} {T M : List Tk} {e : Tk} {G H : Sx.Gram} {i j : Nat} (ha : a.length ≤ 500) (hb : b.length ≤ 500) (h1 : Lx.scanS a = (T ++ [e], (0, 0, 0))) (h2 : Lx.scanS b = (M, (0, 0, 0))) (he : e.kind = 4) (hv : ∀ t ∈ T, Lx.Valid t) (hT : T.length ≤ a.length) (hM : M.length ≤ b.length + 1)
    (hp : Sx.parseT (T ++ [e]) = .ok G i) (hq : Sx.parseT M = .ok H j) (h37 : (M.getD 0 Sx.tkEnd).text ≠ [37]) (hl : G.rules.length + H.rules.length ≤ 64) : ∃ k, Sx.parseS (a ++ 10 :: b) = .ok ⟨G.start, G.rules ++ H.rules⟩ k := by
  have h37' : Sx.isSg M 0 37 = false := by
    unfold Sx.isSg
    rw [Bool.and_eq_false_iff]
    right
    exact decide_eq_false h37
  obtain ⟨k, hk⟩ := Sx.join_parse (fun t ht => Sx.valid_kind (hv t ht)) he hp hq h37' hl (M.map (Lx.Tk.down e.line)) (tkAt_down e.line M) (by simp; omega)
  refine ⟨k, ?_⟩
  rw [Sx.parseS, join_scan a b ha hb T M e h1 h2, if_neg (by simp)]
  exact hk

theorem below_same (V : World) : Below V.heap.size V V.drew := ⟨rfl, rfl, rfl, Nat.le_refl _, fun _ _ => rfl⟩
theorem below_of_drew {V w : World} (b : Below V.drew.heap.size V.drew w) : Below V.heap.size V w := ⟨b.os, b.tape, b.output, b.size, b.block⟩
/-- While the rules are compared: three grammars in blocks. -/
structure JAt (w0 : World) (g h q : Nat) (Gr Hr : List Rul) (x0 x1 x2 : Value) (vg vh va : Value) (W : World) : Prop where
  gG : W.heap[g]? = some (.cells #[x0, vg] 25 (0, 0))
  gH : W.heap[h]? = some (.cells #[x1, vh] 25 (0, 0))
  gA : W.heap[q]? = some (.cells #[x2, va] 25 (0, 0))
  rG : RlsAt (fun _ => True) W Gr vg
  rH : RlsAt (fun _ => True) W Hr vh
  rA : RlsAt (fun _ => True) W (Gr ++ Hr) va
  bel : Below w0.heap.size w0 W
theorem JAt.below {w0 : World} {g h q : Nat} {Gr Hr : List Rul} {x0 x1 x2 vg vh va : Value} {W W' : World} (j : JAt w0 g h q Gr Hr x0 x1 x2 vg vh va W) (b : Below W.heap.size W W') : JAt w0 g h q Gr Hr x0 x1 x2 vg vh va W' :=
  ⟨(b.block g (Lx.heap_lt j.gG)).trans j.gG, (b.block h (Lx.heap_lt j.gH)).trans j.gH, (b.block q (Lx.heap_lt j.gA)).trans j.gA, j.rG.under b, j.rH.under b, j.rA.under b, j.bel.trans (b.mono j.bel.size)⟩
/-- A rule of a row. -/
theorem rule_at {P : Nat → Prop} {W : World} {rs : List Rul} {A : Option Addr} {n cap : Nat} (h : RlsAt P W rs (.slice A n cap)) {k : Nat} (hk : k < rs.length) :
    ∃ r ka ta Aa na ca, A = some ⟨r, 0, none⟩ ∧ n ≤ cap ∧ r < W.heap.size ∧ W.cell? ⟨r, k * 4, none⟩ = some (.string (Lx.mk rs[k].1)) ∧ W.cell? ⟨r, k * 4 + 1, none⟩ = some (.int .i64 (ka : Nat)) ∧ W.cell? ⟨r, k * 4 + 2, none⟩ = some (.string ta) ∧ W.cell? ⟨r, k * 4 + 3, none⟩ = some (.slice Aa na ca) ∧
      Nd P W rs[k].2 (.int .i64 (ka : Nat)) (.string ta) (.slice Aa na ca) := by
  obtain ⟨A', cap', r, a, b, c, e, hc, h3, h4⟩ := h
  injection e with e1 e2 e3
  subst e1 e2 e3
  obtain ⟨rfl, hr, _⟩ := h3 (by omega)
  obtain ⟨⟨c0, c1, c2, c3⟩, hnd⟩ := h4 k hk
  obtain ⟨ka, ta, Aa, na, ca, ea, eb, ec⟩ := hnd.form
  rw [ea] at c1 hnd; rw [eb] at c2 hnd; rw [ec] at c3 hnd
  exact ⟨r, ka, ta, Aa, na, ca, rfl, hc, hr, c0, c1, c2, c3, hnd⟩

set_option maxHeartbeats 16000000 in
theorem walk (a b : ByteArray) (w : World) :
    Calls Try.prog 4 #[.string a, .string b] w fun e w' => e = .returned (.bool true) ∧ Below w.heap.size w w' := by
  by_cases ha : 500 < (a.size : Int)
  · go_enter Try.func4, Try.ntmps4
    go_wp2_with fail
    refine (Sx.speaks_true _).mono ?_
    rintro e w1 ⟨rfl, b1⟩
    go_wp2
    go_ret
    exact ⟨rfl, b1⟩
  by_cases hb : 500 < (b.size : Int)
  · go_enter Try.func4, Try.ntmps4
    go_wp2_with fail
    refine (Sx.speaks_true _).mono ?_
    rintro e w1 ⟨rfl, b1⟩
    go_wp2
    go_ret
    exact ⟨rfl, b1⟩
  have KA := fun w => Sx.parse_text a w (by omega)
  have KB := fun w => Sx.parse_text b w (by omega)
  have KS := fun w => Lx.scan_any b w (by omega)
  have hal : (bs a).length = a.size := Lx.bs_len a
  have hbl : (bs b).length = b.size := Lx.bs_len b
  have e0 : ((0 : Int) != 0) = false := rfl
  cases hPA : Sx.parseS (bs a) with
  | no l c k =>
    rw [hPA] at KA
    have e1 : ((k : Int) != 0) = true := by rw [bne_iff_ne]; have := Sx.parseS_code hPA; omega
    obtain ⟨RS, hRS⟩ : ∃ R, R = Lx.scanS (bs b) := ⟨_, rfl⟩
    rw [← hRS] at KS
    obtain ⟨M, f0, f1, f2⟩ := RS
    have HKA := Lib.hid KA
    have HKS := Lib.hid KS
    cases hPB : Sx.parseS (bs b) with
    | no l' c' k' =>
      rw [hPB] at KB
      have HKB := Lib.hid KB
      clear KA KB KS hPA hPB hRS hal hbl
      go_enter Try.func4, Try.ntmps4
      go_wp2_with fail
      refine (Sx.speaks_true _).mono ?_
      rintro e w1 ⟨rfl, bw1⟩
      go_wp2_with fail
      refine (HKA.out _).mono ?_
      rintro e w2 ⟨x, y, rfl, bw2, rfl, rfl⟩
      have HB2 := Lib.hid (bw1.trans (bw2.mono bw1.size))
      clear bw1 bw2
      go_wp2_with fail
      refine (HKB.out _).mono ?_
      rintro e w3 ⟨x, y, rfl, bw3, rfl, rfl⟩
      obtain ⟨hG3, hF3, hsz3, hbw3⟩ := Sx.two_blocks bw3
      have HB23 := Lib.hid hbw3
      clear bw3
      go_wp2_with fail
      refine (HKS.out _).mono ?_
      rintro e w4 ⟨A, cap, rfl, hown, bw4⟩
      simp only [Lx.fltV]
      obtain ⟨hH4, hI4, hsz4, hbw4⟩ := Sx.two_blocks bw4
      have hG4 := (hbw4.block _ (by omega)).trans hG3
      have hF4 := (hbw4.block _ (by omega)).trans hF3
      have cF : ∀ o, (w4.alloc o).cell? ⟨w2.heap.size + 1, 2, none⟩ = some (.int .i64 k) := fun o => Sx.cell_after hF4 o 2
      have cI : ∀ o, (w4.alloc o).cell? ⟨w3.heap.size + 1, 2, none⟩ = some (.int .i64 k') := fun o => Sx.cell_after hI4 o 2
      have HB34 := Lib.hid hbw4
      have HB4 := Lib.hid (HB2.out.trans ((HB23.out.trans (hbw4.mono HB23.out.size)).mono HB2.out.size))
      clear hown bw4 hbw3 hbw4 hG3 hF3 hG4 hF4 hH4 hI4
      go_wp2
      go_ret
      exact ⟨rfl, HB4.out.alloc HB4.out.size _⟩
    | ok H jb =>
      rw [hPB] at KB
      have HKB := Lib.hid KB
      clear KA KB KS hPA hPB hRS hal hbl
      go_enter Try.func4, Try.ntmps4
      go_wp2_with fail
      refine (Sx.speaks_true _).mono ?_
      rintro e w1 ⟨rfl, bw1⟩
      go_wp2_with fail
      refine (HKA.out _).mono ?_
      rintro e w2 ⟨x, y, rfl, bw2, rfl, rfl⟩
      have HB2 := Lib.hid (bw1.trans (bw2.mono bw1.size))
      clear bw1 bw2
      go_wp2_with fail
      refine (HKB.out _).mono ?_
      rintro e w3 ⟨x, y, rfl, bw3, ⟨vH, rfl, hrH⟩, rfl⟩
      obtain ⟨Ah, ch, rfl⟩ := hrH.form
      have HRH := Lib.hid (hrH.keep (Q := fun q => w2.heap.size + 2 ≤ q) (Nat.le_refl _) fun q hq _ => ⟨by simp at hq; omega, fun _ => rfl⟩)
      obtain ⟨hG3, hF3, hsz3, hbw3⟩ := Sx.two_blocks bw3
      have HB23 := Lib.hid hbw3
      clear bw3 hrH
      go_wp2_with fail
      refine (HKS.out _).mono ?_
      rintro e w4 ⟨A, cap, rfl, hown, bw4⟩
      simp only [Lx.fltV]
      obtain ⟨hH4, hI4, hsz4, hbw4⟩ := Sx.two_blocks bw4
      have hG4 := (hbw4.block _ (by omega)).trans hG3
      have hF4 := (hbw4.block _ (by omega)).trans hF3
      have cF : ∀ o, (w4.alloc o).cell? ⟨w2.heap.size + 1, 2, none⟩ = some (.int .i64 k) := fun o => Sx.cell_after hF4 o 2
      have cI : ∀ o, (w4.alloc o).cell? ⟨w3.heap.size + 1, 2, none⟩ = some (.int .i64 0) := fun o => Sx.cell_after hI4 o 2
      have HB34 := Lib.hid hbw4
      have HB4 := Lib.hid (HB2.out.trans ((HB23.out.trans (hbw4.mono HB23.out.size)).mono HB2.out.size))
      clear hown bw4 hbw3 hbw4 hG3 hF3 hG4 hF4 hH4 hI4
      go_wp2
      go_ret
      exact ⟨rfl, HB4.out.alloc HB4.out.size _⟩
  | ok G ja =>
    rw [hPA] at KA
    have HKA := Lib.hid KA
    cases hPB : Sx.parseS (bs b) with
    | no l' c' k' =>
      rw [hPB] at KB
      have e1 : ((k' : Int) != 0) = true := by rw [bne_iff_ne]; have := Sx.parseS_code hPB; omega
      obtain ⟨RS, hRS⟩ : ∃ R, R = Lx.scanS (bs b) := ⟨_, rfl⟩
      rw [← hRS] at KS
      obtain ⟨M, f0, f1, f2⟩ := RS
      have HKB := Lib.hid KB
      have HKS := Lib.hid KS
      clear KA KB KS hPA hPB hRS hal hbl
      go_enter Try.func4, Try.ntmps4
      go_wp2_with fail
      refine (Sx.speaks_true _).mono ?_
      rintro e w1 ⟨rfl, bw1⟩
      go_wp2_with fail
      refine (HKA.out _).mono ?_
      rintro e w2 ⟨x, y, rfl, bw2, ⟨vG, rfl, hrG⟩, rfl⟩
      obtain ⟨Av, cv, rfl⟩ := hrG.form
      have HRG := Lib.hid hrG
      have HB2 := Lib.hid (bw1.trans (bw2.mono bw1.size))
      clear bw1 bw2 hrG
      go_wp2_with fail
      refine (HKB.out _).mono ?_
      rintro e w3 ⟨x, y, rfl, bw3, rfl, rfl⟩
      obtain ⟨hG3, hF3, hsz3, hbw3⟩ := Sx.two_blocks bw3
      have HB23 := Lib.hid hbw3
      clear bw3
      go_wp2_with fail
      refine (HKS.out _).mono ?_
      rintro e w4 ⟨A, cap, rfl, hown, bw4⟩
      simp only [Lx.fltV]
      obtain ⟨hH4, hI4, hsz4, hbw4⟩ := Sx.two_blocks bw4
      have hG4 := (hbw4.block _ (by omega)).trans hG3
      have hF4 := (hbw4.block _ (by omega)).trans hF3
      have cF : ∀ o, (w4.alloc o).cell? ⟨w2.heap.size + 1, 2, none⟩ = some (.int .i64 0) := fun o => Sx.cell_after hF4 o 2
      have cI : ∀ o, (w4.alloc o).cell? ⟨w3.heap.size + 1, 2, none⟩ = some (.int .i64 k') := fun o => Sx.cell_after hI4 o 2
      have HB34 := Lib.hid hbw4
      have HB4 := Lib.hid (HB2.out.trans ((HB23.out.trans (hbw4.mono HB23.out.size)).mono HB2.out.size))
      clear hown bw4 hbw3 hbw4 hG3 hF3 hG4 hF4 hH4 hI4
      go_wp2
      go_ret
      exact ⟨rfl, HB4.out.alloc HB4.out.size _⟩
    | ok H jb =>
      rw [hPB] at KB
      have HKB := Lib.hid KB
      obtain ⟨T, e, hsc, hek, het, hv, hT, _, hPT⟩ := Sx.parseS_ok hPA (by omega)
      obtain ⟨_, hsm, hg0, h64⟩ := Sx.parse_small hek hv (by omega) hPT
      obtain ⟨T2, e2, hsc2, hek2, _, hv2, hT2, _, hPT2⟩ := Sx.parseS_ok hPB (by omega)
      obtain ⟨_, hsm2, hh0, h642⟩ := Sx.parse_small hek2 hv2 (by omega) hPT2
      rw [hsc2] at KS
      obtain ⟨M, hM⟩ : ∃ M, M = T2 ++ [e2] := ⟨_, rfl⟩
      have hMl : M.length = T2.length + 1 := by rw [hM]; simp
      rw [← hM] at KS hsc2 hPT2
      have HKS := Lib.hid KS
      obtain ⟨n1, hn1⟩ : ∃ n, n = G.rules.length := ⟨_, rfl⟩
      obtain ⟨n2, hn2⟩ : ∃ n, n = H.rules.length := ⟨_, rfl⟩
      have HN1 := Lib.hid hn1
      have HN2 := Lib.hid hn2
      have b1 : n1 ≤ 64 := by omega
      have b2 : n2 ≤ 64 := by omega
      by_cases h65 : 64 < n1 + n2
      · have hgt : (64 : Int) < (n1 : Int) + (n2 : Int) := by omega
        clear KA KB KS hPA hPB hal hbl hn1 hn2 hM hMl h65 hsc hsc2 hPT hPT2 hT hT2 hek hek2 het
        go_enter Try.func4, Try.ntmps4
        go_wp2_with fail
        refine (Sx.speaks_true _).mono ?_
        rintro e w1 ⟨rfl, bw1⟩
        go_wp2_with fail
        refine (HKA.out _).mono ?_
        rintro e w2 ⟨x, y, rfl, bw2, ⟨vG, rfl, hrG⟩, rfl⟩
        obtain ⟨Av, cv, rfl⟩ := hrG.form
        rw [← HN1.out]
        have HRG := Lib.hid hrG
        have HB2 := Lib.hid (bw1.trans (bw2.mono bw1.size))
        clear bw1 bw2 hrG
        go_wp2_with fail
        refine (HKB.out _).mono ?_
        rintro e w3 ⟨x, y, rfl, bw3, ⟨vH, rfl, hrH⟩, rfl⟩
        obtain ⟨Ah, ch, rfl⟩ := hrH.form
        rw [← HN2.out]
        have HRH := Lib.hid (hrH.keep (Q := fun q => w2.heap.size + 2 ≤ q) (Nat.le_refl _) fun q hq _ => ⟨by simp at hq; omega, fun _ => rfl⟩)
        obtain ⟨hG3, hF3, hsz3, hbw3⟩ := Sx.two_blocks bw3
        have HB23 := Lib.hid hbw3
        clear bw3 hrH
        go_wp2_with fail
        refine (HKS.out _).mono ?_
        rintro e w4 ⟨A, cap, rfl, hown, bw4⟩
        simp only [Lx.fltV]
        obtain ⟨hH4, hI4, hsz4, hbw4⟩ := Sx.two_blocks bw4
        have hG4 := (hbw4.block _ (by omega)).trans hG3
        have hF4 := (hbw4.block _ (by omega)).trans hF3
        have cF : ∀ o, (w4.alloc o).cell? ⟨w2.heap.size + 1, 2, none⟩ = some (.int .i64 0) := fun o => Sx.cell_after hF4 o 2
        have cI : ∀ o, (w4.alloc o).cell? ⟨w3.heap.size + 1, 2, none⟩ = some (.int .i64 0) := fun o => Sx.cell_after hI4 o 2
        have cG : ∀ o, (w4.alloc o).cell? ⟨w2.heap.size, 1, none⟩ = some (.slice Av n1 cv) := fun o => Sx.cell_after hG4 o 1
        have cH : ∀ o, (w4.alloc o).cell? ⟨w3.heap.size, 1, none⟩ = some (.slice Ah n2 ch) := fun o => Sx.cell_after hH4 o 1
        have HB34 := Lib.hid hbw4
        have HB4 := Lib.hid (HB2.out.trans ((HB23.out.trans (hbw4.mono HB23.out.size)).mono HB2.out.size))
        clear hown bw4 hbw3 hbw4 hG3 hF3 hG4 hF4 hH4 hI4
        go_wp2
        go_ret
        exact ⟨rfl, HB4.out.alloc HB4.out.size _⟩
      · have hgt : ¬ (64 : Int) < (n1 : Int) + (n2 : Int) := by omega
        obtain ⟨tx, htx0⟩ : ∃ tx, tx = Lx.mk (M.getD 0 Sx.tkEnd).text := ⟨_, rfl⟩
        have hml0 : 0 < M.length := by omega
        have hT0 : Lx.mk (M[0]'hml0).text = tx := by
          rw [htx0]
          simp [List.getD, List.getElem?_eq_getElem hml0]
        have htl : (tx.toList == [37]) = decide ((M.getD 0 Sx.tkEnd).text = [37]) := by
          have e1 : tx.toList = (M.getD 0 Sx.tkEnd).text := by rw [htx0, Lib.toList_data]; rfl
          rw [e1, Bool.eq_iff_iff]; simp
        have HT0 := Lib.hid hT0
        have HLN := Lib.hid hml0
        by_cases h37 : (M.getD 0 Sx.tkEnd).text = [37]
        · have ht : (tx.toList == [37]) = true := by rw [htl, decide_eq_true h37]
          clear KA KB KS hPA hPB hal hbl hn1 hn2 hM hMl h65 hsc hsc2 hPT hPT2 hT hT2 hek hek2 het htl hT0 htx0 h37
          go_enter Try.func4, Try.ntmps4
          go_wp2_with fail
          refine (Sx.speaks_true _).mono ?_
          rintro e w1 ⟨rfl, bw1⟩
          go_wp2_with fail
          refine (HKA.out _).mono ?_
          rintro e w2 ⟨x, y, rfl, bw2, ⟨vG, rfl, hrG⟩, rfl⟩
          obtain ⟨Av, cv, rfl⟩ := hrG.form
          rw [← HN1.out]
          have HRG := Lib.hid hrG
          have HB2 := Lib.hid (bw1.trans (bw2.mono bw1.size))
          clear bw1 bw2 hrG
          go_wp2_with fail
          refine (HKB.out _).mono ?_
          rintro e w3 ⟨x, y, rfl, bw3, ⟨vH, rfl, hrH⟩, rfl⟩
          obtain ⟨Ah, ch, rfl⟩ := hrH.form
          rw [← HN2.out]
          have HRH := Lib.hid (hrH.keep (Q := fun q => w2.heap.size + 2 ≤ q) (Nat.le_refl _) fun q hq _ => ⟨by simp at hq; omega, fun _ => rfl⟩)
          obtain ⟨hG3, hF3, hsz3, hbw3⟩ := Sx.two_blocks bw3
          have HB23 := Lib.hid hbw3
          clear bw3 hrH
          go_wp2_with fail
          refine (HKS.out _).mono ?_
          rintro e w4 ⟨A, cap, rfl, hown, bw4⟩
          simp only [Lx.fltV]
          obtain ⟨hH4, hI4, hsz4, hbw4⟩ := Sx.two_blocks bw4
          have hG4 := (hbw4.block _ (by omega)).trans hG3
          have hF4 := (hbw4.block _ (by omega)).trans hF3
          have cF : ∀ o, (w4.alloc o).cell? ⟨w2.heap.size + 1, 2, none⟩ = some (.int .i64 0) := fun o => Sx.cell_after hF4 o 2
          have cI : ∀ o, (w4.alloc o).cell? ⟨w3.heap.size + 1, 2, none⟩ = some (.int .i64 0) := fun o => Sx.cell_after hI4 o 2
          have cG : ∀ o, (w4.alloc o).cell? ⟨w2.heap.size, 1, none⟩ = some (.slice Av n1 cv) := fun o => Sx.cell_after hG4 o 1
          have cH : ∀ o, (w4.alloc o).cell? ⟨w3.heap.size, 1, none⟩ = some (.slice Ah n2 ch) := fun o => Sx.cell_after hH4 o 1
          obtain ⟨r, rfl, htk, hcap⟩ := Lx.toks_of hown HLN.out
          have htx := (htk.at_ 0 HLN.out).2.1
          rw [HT0.out] at htx
          have hrl := htk.1
          have ct : ∀ o, (w4.alloc o).cell? ⟨r, 1, none⟩ = some (.string tx) := fun o => (((Below.refl w4.heap.size w4).alloc (Nat.le_refl _) o).cell (p := ⟨r, 1, none⟩) hrl).trans htx
          have HG4 := Lib.hid hG4
          have HH4 := Lib.hid hH4
          clear htk htx
          have HB34 := Lib.hid hbw4
          have HB4 := Lib.hid (HB2.out.trans ((HB23.out.trans (hbw4.mono HB23.out.size)).mono HB2.out.size))
          clear hown bw4 hbw3 hbw4 hG3 hF3 hG4 hF4 hH4 hI4
          go_wp2
          go_ret
          exact ⟨rfl, HB4.out.alloc HB4.out.size _⟩
        · have ht : (tx.toList == [37]) = false := by rw [htl, decide_eq_false h37]
          obtain ⟨kj, hj⟩ := join_text (by omega) (by omega) hsc hsc2 hek hv (by omega) (by omega) hPT hPT2 h37 (by omega)
          obtain ⟨t, htt⟩ : ∃ t, t = a ++ ⟨#[10]⟩ ++ b := ⟨_, rfl⟩
          have hbt : bs t = bs a ++ 10 :: bs b := by rw [htt]; simp [bs]
          have hts : t.size = a.size + 1 + b.size := by have := congrArg List.length hbt; simp at this; omega
          have KT := fun w => Sx.parse_text t w (by omega)
          rw [hbt, hj] at KT
          rw [htt] at KT
          have HKT := Lib.hid KT
          have hc1 : ¬ 9223372036854775807 < a.size + 1 := by omega
          have hc2 : ¬ 9223372036854775807 < a.size + 1 + b.size := by omega
          clear KA KB KS KT hPA hPB hal hbl hn1 hn2 hM hMl h65 hsc hsc2 hPT hPT2 hT hT2 hek hek2 het htl hT0 htx0 h37 hj htt hbt hts
          go_enter Try.func4, Try.ntmps4
          go_wp2_with fail
          refine (Sx.speaks_true _).mono ?_
          rintro e w1 ⟨rfl, bw1⟩
          go_wp2_with fail
          refine (HKA.out _).mono ?_
          rintro e w2 ⟨x, y, rfl, bw2, ⟨vG, rfl, hrG⟩, rfl⟩
          obtain ⟨Av, cv, rfl⟩ := hrG.form
          rw [← HN1.out]
          have HRG := Lib.hid hrG
          have HB2 := Lib.hid (bw1.trans (bw2.mono bw1.size))
          clear bw1 bw2 hrG
          go_wp2_with fail
          refine (HKB.out _).mono ?_
          rintro e w3 ⟨x, y, rfl, bw3, ⟨vH, rfl, hrH⟩, rfl⟩
          obtain ⟨Ah, ch, rfl⟩ := hrH.form
          rw [← HN2.out]
          have HRH := Lib.hid (hrH.keep (Q := fun q => w2.heap.size + 2 ≤ q) (Nat.le_refl _) fun q hq _ => ⟨by simp at hq; omega, fun _ => rfl⟩)
          obtain ⟨hG3, hF3, hsz3, hbw3⟩ := Sx.two_blocks bw3
          have HB23 := Lib.hid hbw3
          clear bw3 hrH
          go_wp2_with fail
          refine (HKS.out _).mono ?_
          rintro e w4 ⟨A, cap, rfl, hown, bw4⟩
          simp only [Lx.fltV]
          obtain ⟨hH4, hI4, hsz4, hbw4⟩ := Sx.two_blocks bw4
          have hG4 := (hbw4.block _ (by omega)).trans hG3
          have hF4 := (hbw4.block _ (by omega)).trans hF3
          have cF : ∀ o, (w4.alloc o).cell? ⟨w2.heap.size + 1, 2, none⟩ = some (.int .i64 0) := fun o => Sx.cell_after hF4 o 2
          have cI : ∀ o, (w4.alloc o).cell? ⟨w3.heap.size + 1, 2, none⟩ = some (.int .i64 0) := fun o => Sx.cell_after hI4 o 2
          have cG : ∀ o, (w4.alloc o).cell? ⟨w2.heap.size, 1, none⟩ = some (.slice Av n1 cv) := fun o => Sx.cell_after hG4 o 1
          have cH : ∀ o, (w4.alloc o).cell? ⟨w3.heap.size, 1, none⟩ = some (.slice Ah n2 ch) := fun o => Sx.cell_after hH4 o 1
          obtain ⟨r, rfl, htk, hcap⟩ := Lx.toks_of hown HLN.out
          have htx := (htk.at_ 0 HLN.out).2.1
          rw [HT0.out] at htx
          have hrl := htk.1
          have ct : ∀ o, (w4.alloc o).cell? ⟨r, 1, none⟩ = some (.string tx) := fun o => (((Below.refl w4.heap.size w4).alloc (Nat.le_refl _) o).cell (p := ⟨r, 1, none⟩) hrl).trans htx
          have HG4 := Lib.hid hG4
          have HH4 := Lib.hid hH4
          clear htk htx
          have HB34 := Lib.hid hbw4
          have HB4 := Lib.hid (HB2.out.trans ((HB23.out.trans (hbw4.mono HB23.out.size)).mono HB2.out.size))
          clear hown bw4 hbw3 hbw4 hG3 hF3 hG4 hF4 hH4 hI4
          go_wp2_with fail
          refine (HKT.out _).mono ?_
          rintro e w5 ⟨x, y, rfl, b5, ⟨v, rfl, hr5⟩, rfl⟩
          obtain ⟨Av5, cv5, rfl⟩ := hr5.form
          have b45 : Below w4.heap.size w4 w5 := ((Below.refl w4.heap.size w4).alloc (Nat.le_refl _) _).trans (b5.mono (by simp))
          have hG5 := (b45.block _ (by omega)).trans HG4.out
          have hH5 := (b45.block _ (by omega)).trans HH4.out
          have hsz5 := b45.size
          obtain ⟨n3, hn3⟩ : ∃ n, n = (G.rules ++ H.rules).length := ⟨_, rfl⟩
          have hn3' : n3 = n1 + n2 := by rw [hn3, HN1.out, HN2.out, List.length_append]
          rw [← hn3]
          have g0 : ∀ o o', ((w5.alloc o).alloc o').cell? ⟨w2.heap.size, 0, none⟩ = some (.string (Lx.mk G.start)) := fun o o' => Sx.cell_after2 hG5 o o' 0
          have g1 : ∀ o o', ((w5.alloc o).alloc o').cell? ⟨w2.heap.size, 1, none⟩ = some (.slice Av n1 cv) := fun o o' => Sx.cell_after2 hG5 o o' 1
          have h1 : ∀ o o', ((w5.alloc o).alloc o').cell? ⟨w3.heap.size, 1, none⟩ = some (.slice Ah n2 ch) := fun o o' => Sx.cell_after2 hH5 o o' 1
          have hlen3 : ((n3 : Int) != (n1 : Int) + (n2 : Int)) = false := by rw [bne_eq_false_iff_eq]; omega
          obtain ⟨st, hst⟩ : ∃ st, st = Lx.mk G.start := ⟨_, rfl⟩
          rw [← hst] at g0 ⊢
          have hse : (st.toList != st.toList) = false := by simp
          have HST := Lib.hid hst
          have HR5 := Lib.hid hr5
          have HN3 := Lib.hid hn3
          have HN4 := Lib.hid hn3'
          have HB45 := Lib.hid b45
          have HG5 := Lib.hid hG5
          have HH5 := Lib.hid hH5
          clear hr5 b5 b45 hG5 hH5 hn3 hn3' hst HT0
          go_wp2_with fail
          have hJ : JAt w w2.heap.size w3.heap.size w5.heap.size G.rules H.rules (.string st) (.string (Lx.mk H.start)) (.string st) (.slice Av n1 cv) (.slice Ah n2 ch) (.slice Av5 n3 cv5) ((w5.alloc (.cells #[.string st, .slice Av5 n3 cv5] 25)).alloc (.cells #[.int .i64 0, .int .i64 0, .int .i64 0] 28)) := by
            have b56 : Below w5.heap.size w5 ((w5.alloc (.cells #[.string st, .slice Av5 n3 cv5] 25)).alloc (.cells #[.int .i64 0, .int .i64 0, .int .i64 0] 28)) := ((Below.refl _ _).alloc (Nat.le_refl _) _).alloc (by simp) _
            have b36 := (HB34.out.trans (HB45.out.mono HB34.out.size)).trans (b56.mono (Nat.le_trans HB34.out.size HB45.out.size))
            have b26 := HB23.out.trans (b36.mono HB23.out.size)
            refine ⟨(b56.block _ (by omega)).trans (by rw [HST.out]; exact HG5.out), (b56.block _ (by omega)).trans HH5.out, (heap_alloc_old _ _ (by simp)).trans (heap_alloc_new w5 _), ?_, ?_, ?_, HB4.out.trans ((HB45.out.trans (b56.mono HB45.out.size)).mono HB4.out.size)⟩
            · rw [HN1.out]
              exact (HRG.out.under b26).keep (Nat.le_refl _) fun _ _ _ => ⟨trivial, fun _ => rfl⟩
            · rw [HN2.out]
              exact (HRH.out.under b36).keep (Nat.le_refl _) fun _ _ _ => ⟨trivial, fun _ => rfl⟩
            · have := (HR5.out.under b56).keep (Q := fun _ => True) (Nat.le_refl _) fun _ _ _ => ⟨trivial, fun _ => rfl⟩
              rw [← HN3.out] at this
              exact this
          have HJ0 := Lib.hid hJ
          clear hJ g0 g1 h1 cF cI cG cH ct
          go_loopw [13] (fun i wr => ∃ k : Nat, k ≤ n3 ∧ i = .int .i64 k ∧ JAt w w2.heap.size w3.heap.size w5.heap.size G.rules H.rules (.string st) (.string (Lx.mk H.start)) (.string st) (.slice Av n1 cv) (.slice Ah n2 ch) (.slice Av5 n3 cv5) wr) (fun i _ => n3 - (intOf i).toNat)
          case atStart => exact ⟨0, Nat.zero_le _, rfl, HJ0.out⟩
          case round =>
            obtain ⟨k, hk, rfl, hja⟩ := hrel
            have h12a : n3 ≤ n1 + n2 := Nat.le_of_eq HN4.out
            have h12b : n1 + n2 ≤ n3 := Nat.le_of_eq HN4.out.symm
            by_cases hk3 : k < n3
            · have hlen12 : k < G.rules.length + H.rules.length := by rw [← HN1.out, ← HN2.out]; omega
              by_cases hk1 : k < n1
              · have hgk : k < G.rules.length := by rw [← HN1.out]; exact hk1
                obtain ⟨rg, ka, ta, Aa, na, ca, rfl, hcg, hrg, r0, r1, r2, r3, hnd⟩ := rule_at hja.rG hgk
                have hax : (G.rules ++ H.rules)[k]'(by rw [List.length_append]; omega) = G.rules[k] := List.getElem_append_left hgk
                have hlt : (k : Int) < (n1 : Int) := by omega
                obtain ⟨ra, kb, tb, Ab, nb, cb, rfl, hca, hra, a0, a1, a2, a3, hnda⟩ := rule_at hja.rA (k := k) (by rw [List.length_append]; omega)
                rw [hax] at a0 hnda
                obtain ⟨nm, hnm⟩ : ∃ nm, nm = Lx.mk G.rules[k].1 := ⟨_, rfl⟩
                rw [← hnm] at r0 a0
                have hne : (nm.toList != nm.toList) = false := by simp
                have hsmt := (hsm _ (List.getElem_mem hgk)).2.sm
                have bx : ∀ o : Obj, Below wr.heap.size wr (wr.alloc o) := fun o => (Below.refl _ _).alloc (Nat.le_refl _) o
                have R0 := fun o => ((bx o).cell (p := ⟨rg, k * 4, none⟩) hrg).trans r0
                have R1 := fun o => ((bx o).cell (p := ⟨rg, k * 4 + 1, none⟩) hrg).trans r1
                have R2 := fun o => ((bx o).cell (p := ⟨rg, k * 4 + 2, none⟩) hrg).trans r2
                have R3 := fun o => ((bx o).cell (p := ⟨rg, k * 4 + 3, none⟩) hrg).trans r3
                have q1 : wr.cell? ⟨w5.heap.size, 1, none⟩ = some (.slice (some ⟨ra, 0, none⟩) n3 cv5) := cell_of_row _ _ 1 _ _ (0, 0) hja.gA
                have G1 := fun o => Sx.cell_after hja.gG o 1
                have H1 := fun o => Sx.cell_after hja.gH o 1
                have hqs := Lx.heap_lt hja.gA
                have bV := bx (.cells #[.string nm, .int .i64 ka, .string ta, .slice Aa na ca] 51)
                have hn := heap_alloc_new wr (.cells #[.string nm, .int .i64 ka, .string ta, .slice Aa na ca] 51)
                have HJ := Lib.hid (hja.below bV)
                have HNA := Lib.hid (hnda.under bV)
                have HNX := Lib.hid (hnd.under bV)
                have A0 := (bV.cell (p := ⟨ra, k * 4, none⟩) hra).trans a0
                have A1 := (bV.cell (p := ⟨ra, k * 4 + 1, none⟩) hra).trans a1
                have A2 := (bV.cell (p := ⟨ra, k * 4 + 2, none⟩) hra).trans a2
                have A3 := (bV.cell (p := ⟨ra, k * 4 + 3, none⟩) hra).trans a3
                have Q1 := (bV.cell (p := ⟨w5.heap.size, 1, none⟩) hqs).trans q1
                have hra2 : ra < (wr.alloc (.cells #[.string nm, .int .i64 ka, .string ta, .slice Aa na ca] 51)).heap.size := by simp; omega
                have hqs2 : w5.heap.size < (wr.alloc (.cells #[.string nm, .int .i64 ka, .string ta, .slice Aa na ca] 51)).heap.size := by simp; omega
                have hxs2 : wr.heap.size < (wr.alloc (.cells #[.string nm, .int .i64 ka, .string ta, .slice Aa na ca] 51)).heap.size := by simp
                have X0 : (wr.alloc (.cells #[.string nm, .int .i64 ka, .string ta, .slice Aa na ca] 51)).cell? ⟨wr.heap.size, 0, none⟩ = some (.string nm) := cell_of_row _ _ 0 _ _ (0, 0) hn
                have X1 : (wr.alloc (.cells #[.string nm, .int .i64 ka, .string ta, .slice Aa na ca] 51)).cell? ⟨wr.heap.size, 1, none⟩ = some (.int .i64 ka) := cell_of_row _ _ 1 _ _ (0, 0) hn
                have X2 : (wr.alloc (.cells #[.string nm, .int .i64 ka, .string ta, .slice Aa na ca] 51)).cell? ⟨wr.heap.size, 2, none⟩ = some (.string ta) := cell_of_row _ _ 2 _ _ (0, 0) hn
                have X3 : (wr.alloc (.cells #[.string nm, .int .i64 ka, .string ta, .slice Aa na ca] 51)).cell? ⟨wr.heap.size, 3, none⟩ = some (.slice Aa na ca) := cell_of_row _ _ 3 _ _ (0, 0) hn
                have HAX := Lib.hid hax
                clear hja hnd hnda r0 r1 r2 r3 a0 a1 a2 a3 bV hn hnm hax bx
                go_wp2_with fail
                generalize hV : World.alloc wr _ = V
                rw [hV] at HJ HNA HNX A0 A1 A2 A3 Q1 hra2 hqs2 hxs2 X0 X1 X2 X3
                have KC := fun w (b : Below V.heap.size V w) => Sx.same_node hsmt G.rules[k].2 (fun _ => True) (fun _ => True) w _ _ _ _ _ _ (HNA.out.under b) (HNX.out.under b)
                have hqt : Sx.eqT G.rules[k].2 G.rules[k].2 = true := (Sx.eqT_iff _ _).2 rfl
                rw [hqt] at KC
                have HKC := Lib.hid KC
                clear KC hqt R0 R1 R2 R3 G1 H1 hV q1
                go_region_held3 (fun W' => W'.cell? ⟨w5.heap.size, 1, none⟩ = some (.slice (some ⟨ra, 0, none⟩) n3 cv5) ∧ W'.cell? ⟨ra, k * 4, none⟩ = some (.string nm) ∧ W'.cell? ⟨ra, k * 4 + 1, none⟩ = some (.int .i64 kb) ∧ W'.cell? ⟨ra, k * 4 + 2, none⟩ = some (.string tb) ∧ W'.cell? ⟨ra, k * 4 + 3, none⟩ = some (.slice Ab nb cb) ∧ W'.cell? ⟨wr.heap.size, 0, none⟩ = some (.string nm) ∧ W'.cell? ⟨wr.heap.size, 1, none⟩ = some (.int .i64 ka) ∧ W'.cell? ⟨wr.heap.size, 2, none⟩ = some (.string ta) ∧ W'.cell? ⟨wr.heap.size, 3, none⟩ = some (.slice Aa na ca)) (first | exact ⟨Q1, A0, A1, A2, A3, X0, X1, X2, X3⟩ | exact ⟨(hb9.cell (p := ⟨w5.heap.size, 1, none⟩) hqs2).trans Q1, (hb9.cell (p := ⟨ra, k * 4, none⟩) hra2).trans A0, (hb9.cell (p := ⟨ra, k * 4 + 1, none⟩) hra2).trans A1, (hb9.cell (p := ⟨ra, k * 4 + 2, none⟩) hra2).trans A2, (hb9.cell (p := ⟨ra, k * 4 + 3, none⟩) hra2).trans A3, (hb9.cell (p := ⟨wr.heap.size, 0, none⟩) hxs2).trans X0, (hb9.cell (p := ⟨wr.heap.size, 1, none⟩) hxs2).trans X1, (hb9.cell (p := ⟨wr.heap.size, 2, none⟩) hxs2).trans X2, (hb9.cell (p := ⟨wr.heap.size, 3, none⟩) hxs2).trans X3⟩) (first | (go_at_call 14; refine (HKC.out _ (below_same V)).mono ?_; rintro e w9 ⟨rfl, hb9⟩))
                all_goals
                  have HJ9 := Lib.hid (HJ.out.below (below_of_drew hb9))
                  clear hb9 Q1 A0 A1 A2 A3 X0 X1 X2 X3
                  go_wp2
                  go_roundw
                  case rel => first | exact ⟨k + 1, by omega, by go_num, HJ9.out⟩ | ((repeat apply Exists.intro); refine ⟨⟨k + 1, by omega, ?_, HJ9.out⟩, rfl⟩; go_num)
                  case measure => simp [intOf]; omega
              · have hgk : k - n1 < H.rules.length := by rw [← HN2.out]; omega
                obtain ⟨rg, ka, ta, Aa, na, ca, rfl, hcg, hrg, r0, r1, r2, r3, hnd⟩ := rule_at hja.rH hgk
                have hax : (G.rules ++ H.rules)[k]'(by rw [List.length_append]; omega) = H.rules[k - n1] := by
                  rw [List.getElem_append_right (by rw [← HN1.out]; omega)]
                  congr 1
                  rw [HN1.out]
                have hlt : ¬ (k : Int) < (n1 : Int) := by omega
                have hsub : ((k : Int) - (n1 : Int)) = ((k - n1 : Nat) : Int) := by omega
                obtain ⟨ra, kb, tb, Ab, nb, cb, rfl, hca, hra, a0, a1, a2, a3, hnda⟩ := rule_at hja.rA (k := k) (by rw [List.length_append]; omega)
                rw [hax] at a0 hnda
                obtain ⟨nm, hnm⟩ : ∃ nm, nm = Lx.mk H.rules[k - n1].1 := ⟨_, rfl⟩
                rw [← hnm] at r0 a0
                have hne : (nm.toList != nm.toList) = false := by simp
                have hsmt := (hsm2 _ (List.getElem_mem hgk)).2.sm
                have bx : ∀ o : Obj, Below wr.heap.size wr (wr.alloc o) := fun o => (Below.refl _ _).alloc (Nat.le_refl _) o
                have R0 := fun o => ((bx o).cell (p := ⟨rg, (k - n1) * 4, none⟩) hrg).trans r0
                have R1 := fun o => ((bx o).cell (p := ⟨rg, (k - n1) * 4 + 1, none⟩) hrg).trans r1
                have R2 := fun o => ((bx o).cell (p := ⟨rg, (k - n1) * 4 + 2, none⟩) hrg).trans r2
                have R3 := fun o => ((bx o).cell (p := ⟨rg, (k - n1) * 4 + 3, none⟩) hrg).trans r3
                have q1 : wr.cell? ⟨w5.heap.size, 1, none⟩ = some (.slice (some ⟨ra, 0, none⟩) n3 cv5) := cell_of_row _ _ 1 _ _ (0, 0) hja.gA
                have G1 := fun o => Sx.cell_after hja.gG o 1
                have H1 := fun o => Sx.cell_after hja.gH o 1
                have hqs := Lx.heap_lt hja.gA
                have bV := bx (.cells #[.string nm, .int .i64 ka, .string ta, .slice Aa na ca] 51)
                have hn := heap_alloc_new wr (.cells #[.string nm, .int .i64 ka, .string ta, .slice Aa na ca] 51)
                have HJ := Lib.hid (hja.below bV)
                have HNA := Lib.hid (hnda.under bV)
                have HNX := Lib.hid (hnd.under bV)
                have A0 := (bV.cell (p := ⟨ra, k * 4, none⟩) hra).trans a0
                have A1 := (bV.cell (p := ⟨ra, k * 4 + 1, none⟩) hra).trans a1
                have A2 := (bV.cell (p := ⟨ra, k * 4 + 2, none⟩) hra).trans a2
                have A3 := (bV.cell (p := ⟨ra, k * 4 + 3, none⟩) hra).trans a3
                have Q1 := (bV.cell (p := ⟨w5.heap.size, 1, none⟩) hqs).trans q1
                have hra2 : ra < (wr.alloc (.cells #[.string nm, .int .i64 ka, .string ta, .slice Aa na ca] 51)).heap.size := by simp; omega
                have hqs2 : w5.heap.size < (wr.alloc (.cells #[.string nm, .int .i64 ka, .string ta, .slice Aa na ca] 51)).heap.size := by simp; omega
                have hxs2 : wr.heap.size < (wr.alloc (.cells #[.string nm, .int .i64 ka, .string ta, .slice Aa na ca] 51)).heap.size := by simp
                have X0 : (wr.alloc (.cells #[.string nm, .int .i64 ka, .string ta, .slice Aa na ca] 51)).cell? ⟨wr.heap.size, 0, none⟩ = some (.string nm) := cell_of_row _ _ 0 _ _ (0, 0) hn
                have X1 : (wr.alloc (.cells #[.string nm, .int .i64 ka, .string ta, .slice Aa na ca] 51)).cell? ⟨wr.heap.size, 1, none⟩ = some (.int .i64 ka) := cell_of_row _ _ 1 _ _ (0, 0) hn
                have X2 : (wr.alloc (.cells #[.string nm, .int .i64 ka, .string ta, .slice Aa na ca] 51)).cell? ⟨wr.heap.size, 2, none⟩ = some (.string ta) := cell_of_row _ _ 2 _ _ (0, 0) hn
                have X3 : (wr.alloc (.cells #[.string nm, .int .i64 ka, .string ta, .slice Aa na ca] 51)).cell? ⟨wr.heap.size, 3, none⟩ = some (.slice Aa na ca) := cell_of_row _ _ 3 _ _ (0, 0) hn
                have HAX := Lib.hid hax
                clear hja hnd hnda r0 r1 r2 r3 a0 a1 a2 a3 bV hn hnm hax bx
                go_wp2_with fail
                generalize hV : World.alloc wr _ = V
                rw [hV] at HJ HNA HNX A0 A1 A2 A3 Q1 hra2 hqs2 hxs2 X0 X1 X2 X3
                have KC := fun w (b : Below V.heap.size V w) => Sx.same_node hsmt H.rules[k - n1].2 (fun _ => True) (fun _ => True) w _ _ _ _ _ _ (HNA.out.under b) (HNX.out.under b)
                have hqt : Sx.eqT H.rules[k - n1].2 H.rules[k - n1].2 = true := (Sx.eqT_iff _ _).2 rfl
                rw [hqt] at KC
                have HKC := Lib.hid KC
                clear KC hqt R0 R1 R2 R3 G1 H1 hV q1
                go_region_held3 (fun W' => W'.cell? ⟨w5.heap.size, 1, none⟩ = some (.slice (some ⟨ra, 0, none⟩) n3 cv5) ∧ W'.cell? ⟨ra, k * 4, none⟩ = some (.string nm) ∧ W'.cell? ⟨ra, k * 4 + 1, none⟩ = some (.int .i64 kb) ∧ W'.cell? ⟨ra, k * 4 + 2, none⟩ = some (.string tb) ∧ W'.cell? ⟨ra, k * 4 + 3, none⟩ = some (.slice Ab nb cb) ∧ W'.cell? ⟨wr.heap.size, 0, none⟩ = some (.string nm) ∧ W'.cell? ⟨wr.heap.size, 1, none⟩ = some (.int .i64 ka) ∧ W'.cell? ⟨wr.heap.size, 2, none⟩ = some (.string ta) ∧ W'.cell? ⟨wr.heap.size, 3, none⟩ = some (.slice Aa na ca)) (first | exact ⟨Q1, A0, A1, A2, A3, X0, X1, X2, X3⟩ | exact ⟨(hb9.cell (p := ⟨w5.heap.size, 1, none⟩) hqs2).trans Q1, (hb9.cell (p := ⟨ra, k * 4, none⟩) hra2).trans A0, (hb9.cell (p := ⟨ra, k * 4 + 1, none⟩) hra2).trans A1, (hb9.cell (p := ⟨ra, k * 4 + 2, none⟩) hra2).trans A2, (hb9.cell (p := ⟨ra, k * 4 + 3, none⟩) hra2).trans A3, (hb9.cell (p := ⟨wr.heap.size, 0, none⟩) hxs2).trans X0, (hb9.cell (p := ⟨wr.heap.size, 1, none⟩) hxs2).trans X1, (hb9.cell (p := ⟨wr.heap.size, 2, none⟩) hxs2).trans X2, (hb9.cell (p := ⟨wr.heap.size, 3, none⟩) hxs2).trans X3⟩) (first | (go_at_call 14; refine (HKC.out _ (below_same V)).mono ?_; rintro e w9 ⟨rfl, hb9⟩))
                all_goals
                  have HJ9 := Lib.hid (HJ.out.below (below_of_drew hb9))
                  clear hb9 Q1 A0 A1 A2 A3 X0 X1 X2 X3
                  go_wp2
                  go_roundw
                  case rel => first | exact ⟨k + 1, by omega, by go_num, HJ9.out⟩ | ((repeat apply Exists.intro); refine ⟨⟨k + 1, by omega, ?_, HJ9.out⟩, rfl⟩; go_num)
                  case measure => simp [intOf]; omega
            · have q1 : wr.cell? ⟨w5.heap.size, 1, none⟩ = some (.slice Av5 n3 cv5) := cell_of_row _ _ 1 _ _ (0, 0) hja.gA
              have HJ := Lib.hid hja
              clear hja
              go_wp2
              go_ret
              exact ⟨rfl, HJ.out.bel⟩

set_option maxRecDepth 100000 in
theorem lifted (os : Os) (started : os.Started) (H : Type) (enc : TypeId × Value → H) :
    ReturnsInHanded {} Try.checked os 4 .any (Rows.syntaxJoinsSpec.pre6 enc Try.prog Try.f4 Rows.syntaxJoinsRow.domain false) (Rows.syntaxJoinsSpec.post enc Try.prog Try.f4 false true false false) := by
  refine returnsInHanded_of_change (C := Try.checked) own started (by kernel_rfl) Try.func4
    (ChangeSpec.witness6 (enc := enc) (C := Try.checked) false ⟨#[], #[.string ByteArray.empty, .string ByteArray.empty], []⟩ 8 (by kernel_rfl) (by kernel_rfl) (by kernel_rfl) (by kernel_rfl)) ?_
  intro W base args ds gs before hval0 hW hcnd _
  have hval : ∀ (j : Nat) t v, Try.f4.params[j]? = some t → args[j]? = some v → Value.okWide Try.prog W .any base t v := hval0
  have hW' := hW
  obtain ⟨p, q, hA0, hV, rfl, hfz, hnd⟩ := hW
  have hA : DataW.TrodAll enc Try.prog W 0 (fun _ => true) true Try.f4.params.toList args.toList ds p := hA0
  rw [Try.params4] at hA hval
  obtain ⟨v0, vs0, d0, ds0, p0, q0, hargs, rfl, rfl, h0, r0⟩ := trodAll_cons hA
  obtain ⟨v1, vs1, d1, ds1, p1, q1, rfl, rfl, rfl, h1, r1⟩ := trodAll_cons r0
  obtain ⟨rfl, rfl, rfl⟩ := trodAll_nil r1
  obtain rfl : args = #[v0, v1] := by cases args; simp_all
  obtain ⟨rfl, rfl⟩ := trodVars_none hV
  obtain ⟨a0, rfl, rfl, rfl, w0⟩ := open_string Try.underlying9 (hval 0 9 v0 rfl rfl) h0
  obtain ⟨a1, rfl, rfl, rfl, w1⟩ := open_string Try.underlying9 (hval 1 9 v1 rfl rfl) h1
  clear hA0 hval0
  refine (walk a0 a1 W).mono fun e W' ⟨he, bel⟩ => ?_
  subst he
  exact ⟨_, rfl, _, _, _, [], _, [], hW', trodAll_mk1 (shut_bool Try.underlying4 _), (trodAll_cons_mk (shut_string Try.underlying9 w0) (trodAll_cons_mk (shut_string Try.underlying9 w1) trodAll_mk0)), rfl, bel.frame _, fun h => by cases h⟩

theorem over : Rows.SyntaxJoinsSaid :=
  OpenClaim.holds_of_wide 4 Try.f4 rfl rfl rfl rfl rfl rfl rfl ⟨rfl, rfl, rfl, rfl, rfl⟩ rfl rfl rfl rfl rfl (by kernel_rfl) Try.func4 (by kernel_rfl)
    (of_decide_eq_true (by kernel_rfl)) (by unfold Func.isWrapper; first | (rw [if_pos (by decide +kernel)]; kernel_rfl) | (rw [if_neg (by decide +kernel)]; exact ⟨rfl, rfl⟩))
    (fun os started H enc _ => lifted os started H enc)

theorem proved : Rows.SyntaxJoinsSaid := over
#print axioms proved
end Go.Proofs.Ytogddlcalhjlpaa.syntaxJoins
