/-
  SyntaxStart: of any name and any text the call returns true: a start that is named ahead of a grammar's text is the grammar's start, its rules are the text's. For every name and every text; no condition of ours.
-/
import Derived.Test.YtogddlcalhjlpaaSxLaw
import Derived.Test.YtogddlcalhjlpaaRows
import Derived.ProofKit
import Derived.OpenShut
import Derived.ShutString
import Derived.ChangeOld
namespace Go.Proofs.Ytogddlcalhjlpaa.syntaxStart
open Go.ChangeShapes Go.WideShapes Go.ChangeAt Go.RowKit
open Go.ChangeMaps (open_string shut_string)
open Lx (bs Tk Toks)
open Sx (Asks RlsAt)
set_option linter.unusedVariables false
set_option maxRecDepth 100000

theorem own : ownKnob Try.prog.godebug = none := by kernel_rfl

theorem start_text {s name : List UInt8} {T : List Tk} {e : Tk} {G : Sx.Gram} {j : Nat} (hs : Lx.scanS s = (T ++ [e], (0, 0, 0))) (hl : s.length ≤ 500) (hT : T.length ≤ s.length) (hn : Lx.GoodL name) (h37 : ((T ++ [e]).getD 0 Sx.tkEnd).text ≠ [37])
    (hP : Sx.parseT (T ++ [e]) = .ok G j) (h64 : G.rules.length ≤ 64) : ∃ j', Sx.parseS (37 :: (name ++ 59 :: s)) = .ok ⟨name, G.rules⟩ j' := by
  rw [Lx.scanS, if_neg (by omega)] at hs
  obtain ⟨us, hus, hm⟩ := Lx.scan_place false s 1 1 _ hs 1 (1 + 1 + name.length + 1)
  have h32 := hn.2.1
  have hopen : Lx.Open (59 :: s) := by
    intro b r e
    injection e with e1 _
    rw [← e1]
    decide
  have hsc : Lx.scanS (37 :: (name ++ 59 :: s)) = ([⟨3, [37], 1, 1⟩, ⟨1, name, 1, 1 + 1⟩, ⟨3, [59], 1, 1 + 1 + name.length⟩] ++ us, (0, 0, 0)) := by
    rw [Lx.scanS, if_neg (by simp; omega), Lx.scan_sign 37 _ 1 1 (by decide), Lx.scan_name name _ 1 (1 + 1) hn hopen, Lx.scan_sign 59 _ 1 (1 + 1 + name.length) (by decide), hus]
    rfl
  have hA := Sx.tkAt_kt hm
  have hlen : us.length = T.length + 1 := by
    have := congrArg List.length hm
    simpa using this
  have h37' : Sx.isSg (T ++ [e]) 0 37 = false := by
    unfold Sx.isSg
    rw [Bool.and_eq_false_iff]
    right
    exact decide_eq_false h37
  obtain ⟨j', hj⟩ := Sx.start_parse hP h37' (p := [⟨3, [37], 1, 1⟩, ⟨1, name, 1, 1 + 1⟩, ⟨3, [59], 1, 1 + 1 + name.length⟩]) rfl rfl rfl rfl rfl (us := us) (by omega) hA h64
  refine ⟨j', ?_⟩
  rw [Sx.parseS, hsc, if_neg (by simp)]
  exact hj

set_option maxHeartbeats 1000000 in
theorem good_same (s : ByteArray) (w : World) (hs : s.size ≤ 9223372036854775807) : Calls Try.prog 15 #[.string s] w fun e w' => e = .returned (.bool true) ∧ w = w' := by
  have KR := Lx.rgood_any s w hs
  have KG := Lx.good_any s w hs
  cases hg : Lx.goodB (bs s) <;> rw [hg] at KR KG
  all_goals
    have HR := Lib.hid KR
    have HG := Lib.hid KG
    clear KR KG hg
    go_enter Try.func15, Try.ntmps15
    go_wp2_with fail
    refine HR.out.mono ?_
    rintro e w1 ⟨rfl, rfl⟩
    go_wp2_with fail
    refine HG.out.mono ?_
    rintro e w1 ⟨rfl, rfl⟩
    go_wp2
    go_ret
    exact ⟨rfl, rfl⟩

set_option maxHeartbeats 8000000 in
theorem walk (a : ByteArray) (wa : a.size ≤ maxLen) (s : ByteArray) (ws : s.size ≤ maxLen) (w : World) :
    Calls Try.prog 6 #[.string a, .string s] w fun e w' => e = .returned (.bool true) ∧ Below w.heap.size w w' := by
  have KG := fun w => good_same a w (by unfold maxLen at wa; omega)
  have HKG := Lib.hid KG
  clear KG wa ws
  by_cases hs : 500 < (s.size : Int)
  · go_enter Try.func6, Try.ntmps6
    go_wp2_with fail
    refine (Sx.speaks_true _).mono ?_
    rintro e w1 ⟨rfl, b1⟩
    go_wp2_with fail
    refine (HKG.out _).mono ?_
    rintro e w2 ⟨rfl, rfl⟩
    go_wp2
    go_ret
    exact ⟨rfl, b1⟩
  by_cases ha : 100 < (a.size : Int)
  · go_enter Try.func6, Try.ntmps6
    go_wp2_with fail
    refine (Sx.speaks_true _).mono ?_
    rintro e w1 ⟨rfl, b1⟩
    go_wp2_with fail
    refine (HKG.out _).mono ?_
    rintro e w2 ⟨rfl, rfl⟩
    go_wp2
    go_ret
    exact ⟨rfl, b1⟩
  have KP := fun w => Sx.parse_text s w (by omega)
  have KS := fun w => Lx.scan_any s w (by omega)
  have hbl : (bs s).length = s.size := Lx.bs_len s
  cases hP : Sx.parseS (bs s) with
  | no l c k =>
    rw [hP] at KP
    have e1 : ((k : Int) != 0) = true := by rw [bne_iff_ne]; have := Sx.parseS_code hP; omega
    obtain ⟨RS, hRS⟩ : ∃ R, R = Lx.scanS (bs s) := ⟨_, rfl⟩
    rw [← hRS] at KS
    obtain ⟨M, f0, f1, f2⟩ := RS
    have HKP := Lib.hid KP
    have HKS := Lib.hid KS
    clear KP KS hP hRS hbl
    go_enter Try.func6, Try.ntmps6
    go_wp2_with fail
    refine (Sx.speaks_true _).mono ?_
    rintro e w1 ⟨rfl, b1⟩
    go_wp2_with fail
    refine (HKG.out _).mono ?_
    rintro e w2 ⟨rfl, rfl⟩
    go_wp2_with fail
    refine (HKP.out _).mono ?_
    rintro e w2 ⟨x, y, rfl, b2, rfl, rfl⟩
    have HB2 := Lib.hid (b1.trans (b2.mono b1.size))
    clear b1 b2
    go_wp2_with fail
    refine (HKS.out _).mono ?_
    rintro e w3 ⟨A, cap, rfl, hown, b3⟩
    simp only [Lx.fltV]
    obtain ⟨hg1, hg2, hsz, hb3⟩ := Sx.two_blocks b3
    have c2 : ∀ o, (w3.alloc o).cell? ⟨w2.heap.size + 1, 2, none⟩ = some (.int .i64 k) := fun o => Sx.cell_after hg2 o 2
    have HB3 := Lib.hid (HB2.out.trans (hb3.mono HB2.out.size))
    clear b3 hown hg1 hg2 hb3
    go_wp2
    go_ret
    exact ⟨rfl, HB3.out.alloc HB3.out.size _⟩
  | ok G j =>
    obtain ⟨T, e, hsc, hek, het, hv, hT, _, hPT⟩ := Sx.parseS_ok hP (by omega)
    obtain ⟨_, hsm, _, h64⟩ := Sx.parse_small hek hv (by omega) hPT
    rw [hP] at KP
    rw [hsc] at KS
    obtain ⟨tx, htx0⟩ : ∃ tx, tx = Lx.mk ((T ++ [e]).getD 0 Sx.tkEnd).text := ⟨_, rfl⟩
    have hT0 : Lx.mk ((T ++ [e])[0]'(by simp)).text = tx := by
      rw [htx0]
      simp [List.getD]
    have htl : (tx.toList == [37]) = decide (((T ++ [e]).getD 0 Sx.tkEnd).text = [37]) := by
      have e1 : tx.toList = ((T ++ [e]).getD 0 Sx.tkEnd).text := by rw [htx0, Lib.toList_data]; rfl
      rw [e1, Bool.eq_iff_iff]; simp
    have HT0 := Lib.hid hT0
    have HLN := Lib.hid (show 0 < (T ++ [e]).length by simp)
    have e1 : ((0 : Int) != 0) = false := rfl
    have hal : (bs a).length = a.size := Lx.bs_len a
    by_cases h37 : ((T ++ [e]).getD 0 Sx.tkEnd).text = [37]
    · have ht : (tx.toList == [37]) = true := by rw [htl, decide_eq_true h37]
      have HKP := Lib.hid KP
      have HKS := Lib.hid KS
      clear KP KS hP hbl htl hT0 htx0 h37 hPT hv hsc hek het hal hT
      go_enter Try.func6, Try.ntmps6
      go_wp2_with fail
      refine (Sx.speaks_true _).mono ?_
      rintro e w1 ⟨rfl, b1⟩
      go_wp2_with fail
      refine (HKG.out _).mono ?_
      rintro e w2 ⟨rfl, rfl⟩
      go_wp2_with fail
      refine (HKP.out _).mono ?_
      rintro e w2 ⟨x, y, rfl, b2, ⟨v, rfl, hr⟩, rfl⟩
      obtain ⟨Av, cv, rfl⟩ := hr.form
      have HRL := Lib.hid hr
      have HB1 := Lib.hid b1
      have HB2 := Lib.hid (b1.trans (b2.mono b1.size))
      clear b1 b2 hr
      go_wp2_with fail
      refine (HKS.out _).mono ?_
      rintro e w3 ⟨A, cap, rfl, hown, b3⟩
      simp only [Lx.fltV]
      obtain ⟨hg1, hg2, hsz, hb3⟩ := Sx.two_blocks b3
      obtain ⟨r, rfl, htk, hcap⟩ := Lx.toks_of hown (by simp)
      have htx := (htk.at_ 0 (by simp)).2.1
      rw [HT0.out] at htx
      have hrl := htk.1
      have c2 : ∀ o, (w3.alloc o).cell? ⟨w2.heap.size + 1, 2, none⟩ = some (.int .i64 0) := fun o => Sx.cell_after hg2 o 2
      have ct : ∀ o, (w3.alloc o).cell? ⟨r, 1, none⟩ = some (.string tx) := fun o => (((Below.refl w3.heap.size w3).alloc (Nat.le_refl _) o).cell (p := ⟨r, 1, none⟩) hrl).trans htx
      have hn0 := HLN.out
      have HG1 := Lib.hid hg1
      have HB3 := Lib.hid (HB2.out.trans (hb3.mono HB2.out.size))
      have HB23 := Lib.hid hb3
      clear b3 hown hg1 hg2 hb3 htk htx
      go_wp2
      go_ret
      exact ⟨rfl, HB3.out.alloc HB3.out.size _⟩
    · have ht : (tx.toList == [37]) = false := by rw [htl, decide_eq_false h37]
      have KD := fun w => Lx.good_any a w (by omega)
      cases hga : Lx.goodB (bs a)
      · rw [hga] at KD
        have HKD := Lib.hid KD
        have HKP := Lib.hid KP
        have HKS := Lib.hid KS
        clear KD KP KS hP hbl htl hT0 htx0 h37 hPT hv hsc hek het hal hga hT
        go_enter Try.func6, Try.ntmps6
        go_wp2_with fail
        refine (Sx.speaks_true _).mono ?_
        rintro e w1 ⟨rfl, b1⟩
        go_wp2_with fail
        refine (HKG.out _).mono ?_
        rintro e w2 ⟨rfl, rfl⟩
        go_wp2_with fail
        refine (HKP.out _).mono ?_
        rintro e w2 ⟨x, y, rfl, b2, ⟨v, rfl, hr⟩, rfl⟩
        obtain ⟨Av, cv, rfl⟩ := hr.form
        have HRL := Lib.hid hr
        have HB1 := Lib.hid b1
        have HB2 := Lib.hid (b1.trans (b2.mono b1.size))
        clear b1 b2 hr
        go_wp2_with fail
        refine (HKS.out _).mono ?_
        rintro e w3 ⟨A, cap, rfl, hown, b3⟩
        simp only [Lx.fltV]
        obtain ⟨hg1, hg2, hsz, hb3⟩ := Sx.two_blocks b3
        obtain ⟨r, rfl, htk, hcap⟩ := Lx.toks_of hown (by simp)
        have htx := (htk.at_ 0 (by simp)).2.1
        rw [HT0.out] at htx
        have hrl := htk.1
        have c2 : ∀ o, (w3.alloc o).cell? ⟨w2.heap.size + 1, 2, none⟩ = some (.int .i64 0) := fun o => Sx.cell_after hg2 o 2
        have ct : ∀ o, (w3.alloc o).cell? ⟨r, 1, none⟩ = some (.string tx) := fun o => (((Below.refl w3.heap.size w3).alloc (Nat.le_refl _) o).cell (p := ⟨r, 1, none⟩) hrl).trans htx
        have hn0 := HLN.out
        have HG1 := Lib.hid hg1
        have HB3 := Lib.hid (HB2.out.trans (hb3.mono HB2.out.size))
        have HB23 := Lib.hid hb3
        clear b3 hown hg1 hg2 hb3 htk htx
        go_wp2_with fail
        refine (HKD.out _).mono ?_
        rintro e w4 ⟨rfl, rfl⟩
        go_wp2
        go_ret
        exact ⟨rfl, HB3.out.alloc HB3.out.size _⟩
      · rw [hga] at KD
        obtain ⟨j', hst⟩ := start_text hsc (by omega) hT (Sx.good_list _ hga) h37 hPT h64
        obtain ⟨t, htt⟩ : ∃ t, t = ⟨#[37]⟩ ++ a ++ ⟨#[59]⟩ ++ s := ⟨_, rfl⟩
        have hbt : bs t = 37 :: (bs a ++ 59 :: bs s) := by rw [htt]; simp [bs]
        have hts : t.size = 1 + a.size + 1 + s.size := by have := congrArg List.length hbt; simp at this; omega
        have KT := fun w => Sx.parse_text t w (by omega)
        rw [hbt, hst] at KT
        rw [htt] at KT
        have hc1 : ¬ 9223372036854775807 < 1 + a.size := by omega
        have hc2 : ¬ 9223372036854775807 < 1 + a.size + 1 := by omega
        have hc3 : ¬ 9223372036854775807 < 1 + a.size + 1 + s.size := by omega
        have hq : (decide (bs a = bs a) && Sx.eqRs G.rules G.rules) = true := by rw [decide_eq_true rfl, (Sx.eqRs_iff _ _).2 rfl]; rfl
        have KQ : ∀ (w : World) (P P' : Nat → Prop) (v v' : Value), RlsAt P w G.rules v → RlsAt P' w G.rules v' → Calls Try.prog 17 #[.agg #[.string a, v], .agg #[.string a, v']] w (Asks true w) := fun w P P' v v' h1 h2 => by
          have := Sx.same_any (bs a) (bs a) G.rules G.rules (fun q hq => (hsm q hq).2.sm) P P' w v v' h1 h2 (by omega)
          rw [hq] at this
          exact this
        have HKQ := Lib.hid KQ
        have HKT := Lib.hid KT
        have HKD := Lib.hid KD
        have HKP := Lib.hid KP
        have HKS := Lib.hid KS
        clear KQ KT KD KP KS hP hbl htl hT0 htx0 h37 hPT hv hsc hek het hga hst htt hbt hts hq hal hT
        go_enter Try.func6, Try.ntmps6
        go_wp2_with fail
        refine (Sx.speaks_true _).mono ?_
        rintro e w1 ⟨rfl, b1⟩
        go_wp2_with fail
        refine (HKG.out _).mono ?_
        rintro e w2 ⟨rfl, rfl⟩
        go_wp2_with fail
        refine (HKP.out _).mono ?_
        rintro e w2 ⟨x, y, rfl, b2, ⟨v, rfl, hr⟩, rfl⟩
        obtain ⟨Av, cv, rfl⟩ := hr.form
        have HRL := Lib.hid hr
        have HB1 := Lib.hid b1
        have HB2 := Lib.hid (b1.trans (b2.mono b1.size))
        clear b1 b2 hr
        go_wp2_with fail
        refine (HKS.out _).mono ?_
        rintro e w3 ⟨A, cap, rfl, hown, b3⟩
        simp only [Lx.fltV]
        obtain ⟨hg1, hg2, hsz, hb3⟩ := Sx.two_blocks b3
        obtain ⟨r, rfl, htk, hcap⟩ := Lx.toks_of hown (by simp)
        have htx := (htk.at_ 0 (by simp)).2.1
        rw [HT0.out] at htx
        have hrl := htk.1
        have c2 : ∀ o, (w3.alloc o).cell? ⟨w2.heap.size + 1, 2, none⟩ = some (.int .i64 0) := fun o => Sx.cell_after hg2 o 2
        have ct : ∀ o, (w3.alloc o).cell? ⟨r, 1, none⟩ = some (.string tx) := fun o => (((Below.refl w3.heap.size w3).alloc (Nat.le_refl _) o).cell (p := ⟨r, 1, none⟩) hrl).trans htx
        have hn0 := HLN.out
        have HG1 := Lib.hid hg1
        have HB3 := Lib.hid (HB2.out.trans (hb3.mono HB2.out.size))
        have HB23 := Lib.hid hb3
        clear b3 hown hg1 hg2 hb3 htk htx
        go_wp2_with fail
        refine (HKD.out _).mono ?_
        rintro e w4 ⟨rfl, rfl⟩
        go_wp2_with fail
        refine (HKT.out _).mono ?_
        rintro e w5 ⟨x, y, rfl, b5, ⟨v, rfl, hr5⟩, rfl⟩
        obtain ⟨Av5, cv5, rfl⟩ := hr5.form
        have b35 : Below w3.heap.size w3 w5 := ((Below.refl w3.heap.size w3).alloc (Nat.le_refl _) _).trans (b5.mono (by simp))
        have hg5 := (b35.block _ (by omega)).trans HG1.out
        have hsz5 := b35.size
        have u0 : ∀ o o', ((w5.alloc o).alloc o').cell? ⟨w2.heap.size, 0, none⟩ = some (.string (Lx.mk G.start)) := fun o o' => Sx.cell_after2 hg5 o o' 0
        have u1 : ∀ o o', ((w5.alloc o).alloc o').cell? ⟨w2.heap.size, 1, none⟩ = some (.slice Av G.rules.length cv) := fun o o' => Sx.cell_after2 hg5 o o' 1
        have uf : ∀ o o' j, ((w5.alloc o).alloc o').frozen? ⟨w2.heap.size, j, none⟩ = false := fun o o' j => Sx.frozen_after2 hg5 o o' j
        have hlt5 : w2.heap.size + 1 < w5.heap.size := by omega
        have HR5 := Lib.hid hr5
        have HB35 := Lib.hid b35
        clear hr5 b35 b5 hg5
        have hsz2 := HB2.out.size
        go_wp2_with fail
        refine (HKQ.out _ (fun q => w1.heap.size ≤ q) (fun q => (w3.heap.size + 1) ≤ q) _ _ ?_ ?_).mono ?_
        · exact HRL.out.under ((((HB23.out.trans (HB35.out.mono HB23.out.size)).alloc (by omega) _).alloc (by simp; omega) _).setCell (by simp) _)
        · refine RlsAt.set ?_ (by omega)
          exact (HR5.out.keep (Q := fun q => w3.heap.size + 1 ≤ q) (Nat.le_refl _) fun q hq _ => ⟨by simp at hq; exact hq, fun _ => rfl⟩).under (((Below.refl w5.heap.size w5).alloc (Nat.le_refl _) _).alloc (by simp) _)
        rintro e w7 ⟨rfl, b7⟩
        have hb6 := ((((HB3.out.trans (HB35.out.mono HB3.out.size)).alloc (by omega) (.cells #[.string (Lx.mk (bs a)), .slice Av5 G.rules.length cv5] 25)).alloc (by simp; omega) (.cells #[.int .i64 0, .int .i64 0, .int .i64 0] 28)).setCell (p := ⟨w2.heap.size, 0, none⟩) hsz2 (.string a))
        have HB7 := Lib.hid (hb6.trans (b7.mono hb6.size))
        clear b7 hb6
        go_wp2
        go_ret
        exact ⟨rfl, HB7.out⟩

set_option maxRecDepth 100000 in
theorem lifted (os : Os) (started : os.Started) (H : Type) (enc : TypeId × Value → H) :
    ReturnsInHanded {} Try.checked os 6 .any (Rows.syntaxStartSpec.pre6 enc Try.prog Try.f6 Rows.syntaxStartRow.domain false) (Rows.syntaxStartSpec.post enc Try.prog Try.f6 false true false false) := by
  refine returnsInHanded_of_change (C := Try.checked) own started (by kernel_rfl) Try.func6
    (ChangeSpec.witness6 (enc := enc) (C := Try.checked) false ⟨#[], #[.string ByteArray.empty, .string ByteArray.empty], []⟩ 8 (by kernel_rfl) (by kernel_rfl) (by kernel_rfl) (by kernel_rfl)) ?_
  intro W base args ds gs before hval0 hW hcnd _
  have hval : ∀ (j : Nat) t v, Try.f6.params[j]? = some t → args[j]? = some v → Value.okWide Try.prog W .any base t v := hval0
  have hW' := hW
  obtain ⟨p, q, hA0, hV, rfl, hfz, hnd⟩ := hW
  have hA : DataW.TrodAll enc Try.prog W 0 (fun _ => true) true Try.f6.params.toList args.toList ds p := hA0
  rw [Try.params6] at hA hval
  obtain ⟨v0, vs0, d0, ds0, p0, q0, hargs, rfl, rfl, h0, r0⟩ := trodAll_cons hA
  obtain ⟨v1, vs1, d1, ds1, p1, q1, rfl, rfl, rfl, h1, r1⟩ := trodAll_cons r0
  obtain ⟨rfl, rfl, rfl⟩ := trodAll_nil r1
  obtain rfl : args = #[v0, v1] := by cases args; simp_all
  obtain ⟨rfl, rfl⟩ := trodVars_none hV
  obtain ⟨a0, rfl, rfl, rfl, w0⟩ := open_string Try.underlying9 (hval 0 9 v0 rfl rfl) h0
  obtain ⟨a1, rfl, rfl, rfl, w1⟩ := open_string Try.underlying9 (hval 1 9 v1 rfl rfl) h1
  clear hA0 hval0
  refine (walk a0 w0 a1 w1 W).mono fun e W' ⟨he, bel⟩ => ?_
  subst he
  exact ⟨_, rfl, _, _, _, [], _, [], hW', trodAll_mk1 (shut_bool Try.underlying4 _), (trodAll_cons_mk (shut_string Try.underlying9 w0) (trodAll_cons_mk (shut_string Try.underlying9 w1) trodAll_mk0)), rfl, bel.frame _, fun h => by cases h⟩

theorem over : Rows.SyntaxStartSaid :=
  OpenClaim.holds_of_wide 6 Try.f6 rfl rfl rfl rfl rfl rfl rfl ⟨rfl, rfl, rfl, rfl, rfl⟩ rfl rfl rfl rfl rfl (by kernel_rfl) Try.func6 (by kernel_rfl)
    (of_decide_eq_true (by kernel_rfl)) (by unfold Func.isWrapper; first | (rw [if_pos (by decide +kernel)]; kernel_rfl) | (rw [if_neg (by decide +kernel)]; exact ⟨rfl, rfl⟩))
    (fun os started H enc _ => lifted os started H enc)

theorem proved : Rows.SyntaxStartSaid := over
#print axioms proved
end Go.Proofs.Ytogddlcalhjlpaa.syntaxStart
