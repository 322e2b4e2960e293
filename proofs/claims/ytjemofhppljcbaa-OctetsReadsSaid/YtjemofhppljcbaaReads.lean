/-
  OctetsReads: of any bytes and any asks the call returns true: each answer, the first error and the end are told as the document's plain reader tells them. For every text and every list of asks; no condition of ours.
-/
import Derived.Test.YtjemofhppljcbaaOctRefIn3
import Derived.Test.YtjemofhppljcbaaOctNil
import Derived.Test.YtjemofhppljcbaaOctItem
import Derived.Deep.Slices
import Derived.Deep.RegionHeld3
import Derived.ProofKit
import Derived.OpenShut
import Derived.ShutString
import Derived.ChangeOld
namespace Go.Proofs.Ytjemofhppljcbaa.octetsReads
open Go.ChangeShapes Go.WideShapes Go.ChangeAt Go.RowKit Oct
open Go.ChangeMaps (open_string shut_string)
set_option linter.unusedVariables false

theorem own : ownKnob Try.prog.godebug = none := by kernel_rfl
theorem laidOut : laidOutB Try.prog = true := by kernel_rfl

/-- What the walk knows of the asks: two numbers each. -/
def Asks (w : World) (a : Option Addr) (len : Nat) (xs ys : Nat → Int) : Prop :=
  0 < len → ∃ b off, a = some ⟨b, off, none⟩ ∧ b < w.heap.size ∧ ∀ i, i < len → w.cell? ⟨b, off + i * 2, none⟩ = some (.int .i64 (xs i)) ∧ w.cell? ⟨b, off + i * 2 + 1, none⟩ = some (.int .i64 (ys i))

/-- How both readers stand at a round's head. -/
def Both (w wr : World) (g1 g2 : Nat) (r : Oct.Rest) : Prop := At 79 wr g1 r ∧ At 53 wr g2 r ∧ Below w.heap.size w wr

theorem errcell {T : TypeId} {W : World} {g : Nat} {r : Oct.Rest} (h : At T W g r) : W.cell? ⟨g, 1, none⟩ = some (.int .i64 (rErr r)) := by
  cases r with
  | ok l => obtain ⟨t, h1, h2, h3⟩ := h; exact cell_of_row W g 1 _ _ (0, 0) h3
  | error e => obtain ⟨h0, h1, t, h2⟩ := h; exact cell_of_row W g 1 _ _ (0, 0) h2
theorem Both.one {w wr w2 : World} {g1 g2 : Nat} {r : Oct.Rest} (hB : Both w wr g1 g2 r) (hs : Sep g1 wr.heap.size wr w2) (hne : g2 ≠ g1) : At 53 w2 g2 r := hB.2.1.block (hs.block g2 hB.2.1.lt hne)
theorem Both.two {w wr w2 w3 : World} {g1 g2 : Nat} {r r2 : Oct.Rest} (hB : Both w wr g1 g2 r) (k1 : At 79 w2 g1 r2) (k2 : Sep g1 wr.heap.size wr w2) (k3 : At 53 w3 g2 r2) (k4 : Sep g2 w2.heap.size w2 w3) (h1 : w.heap.size ≤ g1) (h2 : w.heap.size ≤ g2) (hne : g2 ≠ g1) : Both w w3 g1 g2 r2 :=
  ⟨k1.block (k4.block g1 k1.lt (Ne.symm hne)), k3, hB.2.2.trans ((k2.below h1 hB.2.2.size).trans (k4.below h2 (Nat.le_trans hB.2.2.size k2.size)))⟩
theorem Both.drewN {w wr : World} {g1 g2 : Nat} {r : Oct.Rest} (hB : Both w wr g1 g2 r) (n : Nat) : Both w (wr.drewN n) g1 g2 r :=
  ⟨hB.1.block rfl, hB.2.1.block rfl, hB.2.2.trans ⟨rfl, rfl, rfl, Nat.le_refl _, fun _ _ => rfl⟩⟩
theorem quiet_err (g : Nat) (r : Oct.Rest) (W : World) (h : At 79 W g r) (n : Nat) : Calls Try.prog 20 #[.pointer (some ⟨g, 0, none⟩)] (W.drewN n) fun e w' => e = .returned (.int .i64 (rErr r)) ∧ ∃ m, w' = W.drewN m :=
  (err_any g r (W.drewN n) (h.block rfl)).mono fun e w' ⟨he, hw⟩ => ⟨he, n, hw.symm⟩
theorem quiet_end (g : Nat) (r : Oct.Rest) (W : World) (h : At 79 W g r) (n : Nat) : Calls Try.prog 21 #[.pointer (some ⟨g, 0, none⟩)] (W.drewN n) fun e w' => e = .returned (.int .i64 (rEnd r)) ∧ ∃ m, w' = W.drewN m :=
  (end_any g r (W.drewN n) (h.block rfl)).mono fun e w' ⟨he, hw⟩ => ⟨he, n, hw.symm⟩
theorem quiet_ref (g : Nat) (r : Oct.Rest) (W : World) (h : At 53 W g r) (n : Nat) : Calls Try.prog 33 #[.pointer (some ⟨g, 0, none⟩)] (W.drewN n) fun e w' => e = .returned (.int .i64 (rEnd r)) ∧ ∃ m, w' = W.drewN m :=
  (ref_end g r (W.drewN n) (h.block rfl)).mono fun e w' ⟨he, hw⟩ => ⟨he, n, hw.symm⟩

/-- How both readers stand between the calls of one statement. -/
structure Inv (w W : World) (g1 g2 : Nat) (s1 s2 : Oct.Rest) : Prop where
  at1 : At 79 W g1 s1
  at2 : At 53 W g2 s2
  bel : Below w.heap.size w W
theorem Inv.start {w wr : World} {g1 g2 : Nat} {r : Oct.Rest} (h : Both w wr g1 g2 r) : Inv w wr.drew g1 g2 r r := ⟨h.1.block rfl, h.2.1.block rfl, h.2.2.drew⟩
theorem Inv.inn {w W W' : World} {g1 g2 : Nat} {s1 s2 s : Oct.Rest} (h : Inv w W g1 g2 s1 s2) (k : At 79 W' g1 s) (hs : Sep g1 W.heap.size W W') (h1 : w.heap.size ≤ g1) (hne : g2 ≠ g1) : Inv w W' g1 g2 s s2 :=
  ⟨k, h.at2.block (hs.block g2 h.at2.lt hne), h.bel.trans (hs.below h1 h.bel.size)⟩
theorem Inv.ref {w W W' : World} {g1 g2 : Nat} {s1 s2 s : Oct.Rest} (h : Inv w W g1 g2 s1 s2) (k : At 53 W' g2 s) (hs : Sep g2 W.heap.size W W') (h1 : w.heap.size ≤ g2) (hne : g2 ≠ g1) : Inv w W' g1 g2 s1 s :=
  ⟨h.at1.block (hs.block g1 h.at1.lt (Ne.symm hne)), k, h.bel.trans (hs.below h1 h.bel.size)⟩
theorem Inv.both {w W W' : World} {g1 g2 : Nat} {s : Oct.Rest} (h : Inv w W g1 g2 s s) (hd : Drew W W') : Both w W' g1 g2 s := by
  obtain ⟨n, rfl⟩ := hd
  exact ⟨h.at1.block rfl, h.at2.block rfl, h.bel.trans ⟨rfl, rfl, rfl, Nat.le_refl _, fun _ _ => rfl⟩⟩
theorem own_far {W W' : World} {T : TypeId} {g : Nat} {s : Oct.Rest} (h : At T W g s) (hs : Sep g W.heap.size W W') {base : Nat} {e : TypeId} {v : Value} {n : Nat} {xs : List Value} (ho : W.ownsRow base e 1 v n xs) (hne : e ≠ T) : W'.ownsRow base e 1 v n xs := by
  obtain ⟨t, x, hc⟩ := h.cells
  exact hs.own ho hc hne
theorem ints_le (m : Int) (r : Oct.Rest) : (rInts m r).1.length ≤ 65536 := by
  have h0 := rLen_nonneg (min m 65536) r
  have h1 := rLen_le (min m 65536) r
  have hmin : min m 65536 ≤ 65536 := Int.min_le_right _ _
  have h2 := rNums_len (rLen (min m 65536) r).2 (rLen (min m 65536) r).1.toNat
  unfold rInts
  rcases h9 : rNums (rLen (min m 65536) r).2 (rLen (min m 65536) r).1.toNat with ⟨a, b⟩
  rw [h9] at h2
  simp only at h2
  cases b with
  | error e => simp [allNums]
  | ok l => simp only [allNums]; omega
theorem texts_le (m : Int) (r : Oct.Rest) : (rTexts m r).1.length ≤ 65536 := by
  have h0 := rLen_nonneg (min m 65536) r
  have h1 := rLen_le (min m 65536) r
  have hmin : min m 65536 ≤ 65536 := Int.min_le_right _ _
  have h2 := rStrs_len (rLen (min m 65536) r).2 (rLen (min m 65536) r).1.toNat
  unfold rTexts
  rcases h9 : rStrs (rLen (min m 65536) r).2 (rLen (min m 65536) r).1.toNat with ⟨a, b⟩
  rw [h9] at h2
  simp only at h2
  cases b with
  | error e => simp [allStrs]
  | ok l => simp only [allStrs]; omega

set_option maxRecDepth 100000 in
set_option maxHeartbeats 2000000 in
theorem walk (t : ByteArray) (a : Option Addr) (len cap : Nat) (xs ys : Nat → Int) (w : World) (ht : t.size ≤ 9223372036854775807) (hm : len ≤ 9223372036854775807) (hc : Asks w a len xs ys) :
    Calls Try.prog 6 #[.string t, .slice a len cap] w fun e w' => e = .returned (.bool true) ∧ Below w.heap.size w w' := by
  have HC := Lib.hid hc
  clear hc
  by_cases hl : 2000 < (t.size : Int)
  · go_enter Try.func6, Try.ntmps6
    go_wp2_with fail
    refine (speaks_true _).mono ?_
    rintro e w1 ⟨rfl, b1⟩
    go_wp2
    go_ret
    exact ⟨rfl, b1⟩
  · go_enter Try.func6, Try.ntmps6
    go_wp2_with fail
    refine (speaks_true _).mono ?_
    rintro e w1 ⟨rfl, b1⟩
    go_wp2_with fail
    refine (open_any _ _).mono ?_
    rintro e w2 ⟨rfl, rfl⟩
    have hs1 := b1.size
    have hb2 : Both w ((w1.alloc (.cells #[.string t, .int .i64 0] 79)).alloc (.cells #[.string t, .int .i64 0] 53)) w1.heap.size (w1.heap.size + 1) (.ok (bs t)) := by
      refine ⟨(At.new _ t w1 ht).below ((Below.refl _ _).alloc (Nat.le_refl _) _), ?_, (b1.alloc hs1 _).alloc (by simp; omega) _⟩
      have := At.new 53 t (w1.alloc (.cells #[.string t, .int .i64 0] 79)) ht
      simpa using this
    have HB2 := Lib.hid hb2
    have B1 := Lib.hid b1
    clear hb2 b1
    go_wp2_with fail
    go_loopw [7] (fun i wr => ∃ (k : Nat) (r : Oct.Rest), k ≤ 20 ∧ i = .int .i64 k ∧ Both w wr w1.heap.size (w1.heap.size + 1) r) (fun i _ => 20 - (intOf i).toNat)
    case atStart => exact ⟨0, .ok (bs t), by omega, rfl, HB2.out⟩
    case round =>
      obtain ⟨k, r, hk, rfl, hboth⟩ := hrel
      have HB := Lib.hid hboth
      clear hboth
      by_cases hlt : (k : Int) < len ∧ (k : Int) < 20
      · obtain ⟨hl1, hl2⟩ := hlt
        obtain ⟨b, off, rfl, hb, hcell⟩ := HC.out (by omega)
        obtain ⟨x, hx⟩ : ∃ x, x = xs k := ⟨_, rfl⟩
        obtain ⟨y, hy⟩ : ∃ y, y = ys k := ⟨_, rfl⟩
        have HX : Hid (∀ W : World, Below w.heap.size w W → W.cell? ⟨b, off + k * 2, none⟩ = some (.int .i64 x) ∧ W.cell? ⟨b, off + k * 2 + 1, none⟩ = some (.int .i64 y)) := fun W hW => by
          rw [hx, hy]
          exact ⟨(hW.cell (p := ⟨b, off + k * 2, none⟩) hb).trans (hcell k (by omega)).1, (hW.cell (p := ⟨b, off + k * 2 + 1, none⟩) hb).trans (hcell k (by omega)).2⟩
        obtain ⟨cx, cy⟩ := HX.out wr HB.out.2.2
        obtain ⟨h1, h2⟩ := tmod_bd5 x
        have hkd : (x.tmod 5 + 5) % 5 = 0 ∨ (x.tmod 5 + 5) % 5 = 1 ∨ (x.tmod 5 + 5) % 5 = 2 ∨ (x.tmod 5 + 5) % 5 = 3 ∨ (x.tmod 5 + 5) % 5 = 4 := by omega
        clear hcell hx hy
        rcases hkd with hkd | hkd | hkd | hkd | hkd
        · rcases hq : rInt r with ⟨z, r2⟩
          have HI := Lib.hid (int_in_any w1.heap.size r wr HB.out.1)
          have HR : Hid (∀ W, At 53 W (w1.heap.size + 1) r → Calls Try.prog 23 #[.pointer (some ⟨w1.heap.size + 1, 0, none⟩)] W (Gives 53 W (w1.heap.size + 1) (.int .i64 z) r2)) := fun W hW => by
            have := ref_int (w1.heap.size + 1) r W hW
            rw [hq] at this
            exact this
          rw [hq] at HI
          clear hq
          go_wp2_with fail
          refine HI.out.mono ?_
          rintro e w2 ⟨rfl, k1, k2⟩
          have HK1 := Lib.hid k1
          have HK2 := Lib.hid k2
          clear k1 k2
          go_wp2_with fail
          refine (HR.out _ (HB.out.one HK2.out (by omega))).mono ?_
          rintro e w3 ⟨rfl, k3, k4⟩
          have hb3 := HB.out.two HK1.out HK2.out k3 k4 hs1 (by omega) (by omega)
          clear k3 k4
          have HB3 := Lib.hid hb3
          have hec := errcell hb3.2.1
          have HE1 := Lib.hid (quiet_err _ _ _ hb3.1)
          have HE2 := Lib.hid (quiet_end _ _ _ hb3.1)
          have HE3 := Lib.hid (quiet_ref _ _ _ hb3.2.1)
          clear hb3
          obtain ⟨ε, hε⟩ : ∃ ε : Int, ε = rErr r2 := ⟨_, rfl⟩
          obtain ⟨η, hη⟩ : ∃ η : Int, η = rEnd r2 := ⟨_, rfl⟩
          rw [← hε] at hec HE1
          rw [← hη] at HE2 HE3
          clear hε hη
          have hee : (ε == ε) = true := by simp
          go_wp2
          go_quiet ((first | (go_at_call 20; exact HE1.out _) | (go_at_call 21; exact HE2.out _) | (go_at_call 33; exact HE3.out _)))
          go_wp2
          refine ⟨⟨k + 1, r2, by omega, by go_num, HB3.out.drewN _⟩, by simp [intOf]; omega⟩
        · rcases hq : rBool r with ⟨z, r2⟩
          have HI := Lib.hid (bool_in_any w1.heap.size r wr HB.out.1)
          have HR : Hid (∀ W, At 53 W (w1.heap.size + 1) r → Calls Try.prog 25 #[.pointer (some ⟨w1.heap.size + 1, 0, none⟩)] W (Gives 53 W (w1.heap.size + 1) (.bool z) r2)) := fun W hW => by
            have := ref_bool (w1.heap.size + 1) r W hW
            rw [hq] at this
            exact this
          rw [hq] at HI
          clear hq
          go_wp2_with fail
          refine HI.out.mono ?_
          rintro e w2 ⟨rfl, k1, k2⟩
          have HK1 := Lib.hid k1
          have HK2 := Lib.hid k2
          clear k1 k2
          go_wp2_with fail
          refine (HR.out _ (HB.out.one HK2.out (by omega))).mono ?_
          rintro e w3 ⟨rfl, k3, k4⟩
          have hb3 := HB.out.two HK1.out HK2.out k3 k4 hs1 (by omega) (by omega)
          clear k3 k4
          have HB3 := Lib.hid hb3
          have hec := errcell hb3.2.1
          have HE1 := Lib.hid (quiet_err _ _ _ hb3.1)
          have HE2 := Lib.hid (quiet_end _ _ _ hb3.1)
          have HE3 := Lib.hid (quiet_ref _ _ _ hb3.2.1)
          clear hb3
          obtain ⟨ε, hε⟩ : ∃ ε : Int, ε = rErr r2 := ⟨_, rfl⟩
          obtain ⟨η, hη⟩ : ∃ η : Int, η = rEnd r2 := ⟨_, rfl⟩
          rw [← hε] at hec HE1
          rw [← hη] at HE2 HE3
          clear hε hη
          have hee : (ε == ε) = true := by simp
          go_wp2
          go_quiet ((first | (go_at_call 20; exact HE1.out _) | (go_at_call 21; exact HE2.out _) | (go_at_call 33; exact HE3.out _)))
          go_wp2
          refine ⟨⟨k + 1, r2, by omega, by go_num, HB3.out.drewN _⟩, by simp [intOf]; omega⟩
        · rcases hq : rText r with ⟨z, r2⟩
          have HI := Lib.hid (text_in_any w1.heap.size r wr HB.out.1)
          have HR : Hid (∀ W, At 53 W (w1.heap.size + 1) r → Calls Try.prog 27 #[.pointer (some ⟨w1.heap.size + 1, 0, none⟩)] W (Gives 53 W (w1.heap.size + 1) (.string ⟨z.toArray⟩) r2)) := fun W hW => by
            have := ref_text (w1.heap.size + 1) r W hW
            rw [hq] at this
            exact this
          rw [hq] at HI
          clear hq
          obtain ⟨s, hs⟩ : ∃ s : ByteArray, s = ⟨z.toArray⟩ := ⟨_, rfl⟩
          simp only at HI
          rw [← hs] at HI HR
          have hss : (s.toList == s.toList) = true := by simp
          clear hs
          go_wp2_with fail
          refine HI.out.mono ?_
          rintro e w2 ⟨rfl, k1, k2⟩
          have HK1 := Lib.hid k1
          have HK2 := Lib.hid k2
          clear k1 k2
          go_wp2_with fail
          refine (HR.out _ (HB.out.one HK2.out (by omega))).mono ?_
          rintro e w3 ⟨rfl, k3, k4⟩
          have hb3 := HB.out.two HK1.out HK2.out k3 k4 hs1 (by omega) (by omega)
          clear k3 k4
          have HB3 := Lib.hid hb3
          have hec := errcell hb3.2.1
          have HE1 := Lib.hid (quiet_err _ _ _ hb3.1)
          have HE2 := Lib.hid (quiet_end _ _ _ hb3.1)
          have HE3 := Lib.hid (quiet_ref _ _ _ hb3.2.1)
          clear hb3
          obtain ⟨ε, hε⟩ : ∃ ε : Int, ε = rErr r2 := ⟨_, rfl⟩
          obtain ⟨η, hη⟩ : ∃ η : Int, η = rEnd r2 := ⟨_, rfl⟩
          rw [← hε] at hec HE1
          rw [← hη] at HE2 HE3
          clear hε hη
          have hee : (ε == ε) = true := by simp
          go_wp2
          go_quiet ((first | (go_at_call 20; exact HE1.out _) | (go_at_call 21; exact HE2.out _) | (go_at_call 33; exact HE3.out _)))
          go_wp2
          refine ⟨⟨k + 1, r2, by omega, by go_num, HB3.out.drewN _⟩, by simp [intOf]; omega⟩
        · have hle := ints_le y r
          have HIC : Hid (∀ W, At 79 W w1.heap.size r → Calls Try.prog 29 #[.pointer (some ⟨w1.heap.size, 0, none⟩), .int .i64 y] W (GivesNums 79 W w1.heap.size (rInts y r))) := fun W hW => ints_in_any _ y r W hW
          have HRC : Hid (∀ W, At 53 W (w1.heap.size + 1) r → Calls Try.prog 30 #[.pointer (some ⟨w1.heap.size + 1, 0, none⟩), .int .i64 y] W (GivesNums 53 W (w1.heap.size + 1) (rInts y r))) := fun W hW => ref_ints _ y r W hW
          generalize rInts y r = q at *
          obtain ⟨zs, r2⟩ := q
          simp only at hle
          obtain ⟨n, hn⟩ : ∃ n, n = zs.length := ⟨_, rfl⟩
          have HN := Lib.hid hn
          have HZ := Lib.hid (Inv.start HB.out)
          have HOA : Hid True := trivial
          have HOB : Hid True := trivial
          have hn2 : n ≤ 65536 := by omega
          clear hn hle
          have hki : (0 : Int) ≤ k := by omega
          go_wp2_with fail
          go_region_held3 (fun W' => W'.cell? ⟨b, off + k * 2 + 1, none⟩ = some (.int .i64 y)) (first | go_keep | assumption)
            (first
              | (go_at_call 29; refine (HIC.out _ HZ.out.at1).mono ?_; rintro e wA ⟨A, capA, rfl, a1, a2, a3⟩; (try (have HOB := Lib.hid (own_far HZ.out.at1 a3 HOB.out (by decide)))); have HOA := Lib.hid a1; have HZ := Lib.hid (Inv.inn HZ.out a2 a3 hs1 (by omega)); have cy := (HX.out _ HZ.out.bel).2; clear a1 a2 a3)
              | (go_at_call 30; refine (HRC.out _ HZ.out.at2).mono ?_; rintro e wB ⟨B, capB, rfl, a1, a2, a3⟩; (try (have HOA := Lib.hid (own_far HZ.out.at2 a3 HOA.out (by decide)))); have HOB := Lib.hid a1; have HZ := Lib.hid (Inv.ref HZ.out a2 a3 (by omega) (by omega)); have cy := (HX.out _ HZ.out.bel).2; clear a1 a2 a3)
              | (go_at_call 28; refine (back2_same _ _ _ _ _ zs _ (own_nums HOA.out rfl) (own_nums HOB.out rfl) (by rw [← HN.out]; exact hn2)).mono ?_; rintro e wC ⟨rfl, d1⟩; have HW := Lib.hid (Inv.both HZ.out d1); have cy := (HX.out _ HW.out.2.2).2; clear d1))
          all_goals
            have hb3 := HW.out
            have HB3 := Lib.hid hb3
            have hec := errcell hb3.2.1
            have HE1 := Lib.hid (quiet_err _ _ _ hb3.1)
            have HE2 := Lib.hid (quiet_end _ _ _ hb3.1)
            have HE3 := Lib.hid (quiet_ref _ _ _ hb3.2.1)
            clear hb3
            obtain ⟨ε, hε⟩ : ∃ ε : Int, ε = rErr r2 := ⟨_, rfl⟩
            obtain ⟨η, hη⟩ : ∃ η : Int, η = rEnd r2 := ⟨_, rfl⟩
            rw [← hε] at hec HE1
            rw [← hη] at HE2 HE3
            clear hε hη
            have hee : (ε == ε) = true := by simp
            go_wp2
            go_quiet ((first | (go_at_call 20; exact HE1.out _) | (go_at_call 21; exact HE2.out _) | (go_at_call 33; exact HE3.out _)))
            go_wp2
            refine ⟨⟨k + 1, r2, by omega, by go_num, HB3.out.drewN _⟩, by simp [intOf]; omega⟩
        · have hle := texts_le y r
          have HIC : Hid (∀ W, At 79 W w1.heap.size r → Calls Try.prog 31 #[.pointer (some ⟨w1.heap.size, 0, none⟩), .int .i64 y] W (GivesStrs 79 W w1.heap.size (rTexts y r))) := fun W hW => texts_in_any _ y r W hW
          have HRC : Hid (∀ W, At 53 W (w1.heap.size + 1) r → Calls Try.prog 32 #[.pointer (some ⟨w1.heap.size + 1, 0, none⟩), .int .i64 y] W (GivesStrs 53 W (w1.heap.size + 1) (rTexts y r))) := fun W hW => ref_texts _ y r W hW
          generalize rTexts y r = q at *
          obtain ⟨zs, r2⟩ := q
          simp only at hle
          obtain ⟨n, hn⟩ : ∃ n, n = zs.length := ⟨_, rfl⟩
          have HN := Lib.hid hn
          have HZ := Lib.hid (Inv.start HB.out)
          have HOA : Hid True := trivial
          have HOB : Hid True := trivial
          have hn2 : n ≤ 65536 := by omega
          have GI : Hid (∀ W, At 79 W w1.heap.size r → Calls Try.prog 31 #[.pointer (some ⟨w1.heap.size, 0, none⟩), .int .i64 y] W fun e w' => ∃ A cap, e = .returned (.slice A n cap) ∧ w'.ownsRow W.heap.size 9 1 (.slice A n cap) n (zs.map strV) ∧ At 79 w' w1.heap.size r2 ∧ Sep w1.heap.size W.heap.size W w') := fun W hW => by rw [hn]; exact HIC.out W hW
          have GR : Hid (∀ W, At 53 W (w1.heap.size + 1) r → Calls Try.prog 32 #[.pointer (some ⟨w1.heap.size + 1, 0, none⟩), .int .i64 y] W fun e w' => ∃ A cap, e = .returned (.slice A n cap) ∧ w'.ownsRow W.heap.size 9 1 (.slice A n cap) n (zs.map strV) ∧ At 53 w' (w1.heap.size + 1) r2 ∧ Sep (w1.heap.size + 1) W.heap.size W w') := fun W hW => by rw [hn]; exact HRC.out W hW
          clear hn hle HIC HRC
          have hki : (0 : Int) ≤ k := by omega
          go_wp2_with fail
          go_region_held3 (fun W' => W'.cell? ⟨b, off + k * 2 + 1, none⟩ = some (.int .i64 y)) (first | go_keep | assumption)
            (first
              | (go_at_call 31; refine (GI.out _ HZ.out.at1).mono ?_; rintro e wA ⟨A, capA, rfl, a1, a2, a3⟩; (try (have HOB := Lib.hid (own_far HZ.out.at1 a3 HOB.out (by decide)))); have HOA := Lib.hid a1; have HZ := Lib.hid (Inv.inn HZ.out a2 a3 hs1 (by omega)); have cy := (HX.out _ HZ.out.bel).2; have HOB := HOB; clear a1 a2 a3)
              | (go_at_call 32; refine (GR.out _ HZ.out.at2).mono ?_; rintro e wB ⟨B, capB, rfl, a1, a2, a3⟩; (try (have HOA := Lib.hid (own_far HZ.out.at2 a3 HOA.out (by decide)))); have HOB := Lib.hid a1; have HZ := Lib.hid (Inv.ref HZ.out a2 a3 (by omega) (by omega)); have cy := (HX.out _ HZ.out.bel).2; have HOA := HOA; clear a1 a2 a3))
          all_goals
            have HSA := Lib.hid (own_strs HOA.out HN.out.symm)
            have HSB := Lib.hid (own_strs HOB.out HN.out.symm)
            go_wp2_with fail
            go_loopw [10] (fun i wq => ∃ j : Nat, j ≤ n ∧ i = .int .i64 j ∧ ∃ W, Strs W A n (zs.map fun l => ⟨l.toArray⟩) ∧ Strs W B n (zs.map fun l => ⟨l.toArray⟩) ∧ Inv w W w1.heap.size (w1.heap.size + 1) r2 r2 ∧ Drew W wq) (fun i _ => n - (intOf i).toNat)
            case atStart => exact ⟨0, by omega, rfl, _, HSA.out, HSB.out, HZ.out, 0, rfl⟩
            case round =>
              obtain ⟨j, hj, rfl, W, ha, hbb, hz, hd⟩ := hrel
              have HA2 := Lib.hid ha
              have HB2' := Lib.hid hbb
              have HZ2 := Lib.hid hz
              have HD2 := Lib.hid hd
              clear ha hbb hz hd
              by_cases hjn : (j : Int) < n
              · obtain ⟨p, po, rfl, hp, hpc⟩ := (HA2.out.below (HD2.out.below _)).2 (by omega)
                obtain ⟨p', po', rfl, hp', hpc'⟩ := (HB2'.out.below (HD2.out.below _)).2 (by omega)
                have d1 := hpc j (by omega)
                have d2 := hpc' j (by omega)
                obtain ⟨s, hs⟩ : ∃ s, s = (zs.map fun l => (⟨l.toArray⟩ : ByteArray)).getD j ByteArray.empty := ⟨_, rfl⟩
                rw [← hs] at d1 d2
                have hss : (s.toList == s.toList) = true := by simp
                clear hs hpc hpc'
                go_wp2
                go_quiet (fail)
                go_wp2
                obtain ⟨nn, hnn⟩ := HD2.out
                refine ⟨⟨j + 1, by omega, by go_num, W, HA2.out, HB2'.out, HZ2.out, ?_⟩, by simp [intOf]; omega⟩
                rw [hnn]
                exact ⟨_, by rw [World.drewN_drewN]⟩
              · have hb3 := Inv.both HZ2.out HD2.out
                have HB3 := Lib.hid hb3
                have hec := errcell hb3.2.1
                have HE1 := Lib.hid (quiet_err _ _ _ hb3.1)
                have HE2 := Lib.hid (quiet_end _ _ _ hb3.1)
                have HE3 := Lib.hid (quiet_ref _ _ _ hb3.2.1)
                clear hb3
                obtain ⟨ε, hε⟩ : ∃ ε : Int, ε = rErr r2 := ⟨_, rfl⟩
                obtain ⟨η, hη⟩ : ∃ η : Int, η = rEnd r2 := ⟨_, rfl⟩
                rw [← hε] at hec HE1
                rw [← hη] at HE2 HE3
                clear hε hη
                have hee : (ε == ε) = true := by simp
                go_wp2
                go_quiet ((first | (go_at_call 20; exact HE1.out _) | (go_at_call 21; exact HE2.out _) | (go_at_call 33; exact HE3.out _)))
                go_wp2
                refine ⟨⟨k + 1, r2, by omega, by go_num, HB3.out.drewN _⟩, by simp [intOf]; omega⟩
      · have hcase : (len : Int) ≤ k ∨ ((k : Int) < len ∧ 20 ≤ (k : Int)) := by omega
        clear hlt
        rcases hcase with h1 | ⟨h1, h2⟩
        all_goals
          go_wp2
          go_ret
          exact ⟨rfl, HB.out.2.2⟩

theorem asks_of {H : Type} {enc : TypeId × Value → H} {w : World} {base : Nat} {spare : Nat → Bool} {held : Bool} {fuel : Nat} {v : Value} {y : DataW H × List MemPlace} (h : DataW.trod enc Try.prog w base spare held fuel 50 [v] = some y) :
    ∃ a len cap xs ys, v = .slice a len cap ∧ Asks w a len xs ys ∧ len ≤ 9223372036854775807 := by
  rcases Go.Deep.open_slice Try.underlying50 h with ⟨hcs, _⟩ | ⟨x, l, c, m, n, D, Pl, hcs, _, hl, hm, hmm, _, hel⟩
  · injection hcs with hcs
    exact ⟨none, 0, 0, fun _ => 0, fun _ => 0, hcs, fun h => absurd h (by omega), by omega⟩
  · injection hcs with hcs
    have hml : l ≤ m := by rw [hmm]; split <;> omega
    unfold maxLen at hm
    have e54 : Try.prog.cellsOf 54 = 2 := by kernel_rfl
    have e3 : Try.prog.cellsOf 3 = 1 := by kernel_rfl
    have key : ∀ i, i < l → ∃ p q : Int, w.cell? ((x.add (i * 2)).add 0) = some (.int .i64 p) ∧ w.cell? ((x.add (i * 2)).add 1) = some (.int .i64 q) := fun i hi => by
      obtain ⟨cs', hc, ht⟩ := hel i (by omega)
      rw [e54] at hc
      obtain ⟨_, hlen, hcell⟩ := World.cells?_some hc
      obtain ⟨zs, k, _, _, _, hzl, hf⟩ := DataW.trod_array Try.underlying54 ht
      rw [e3] at hf
      match cs', hlen, zs, hzl with
      | [c0, c1], _, [z0, z1], _ =>
        obtain ⟨p, hp, _, _⟩ := DataW.trod_int Try.underlying3 (hf 0 (by omega))
        obtain ⟨q, hq, _, _⟩ := DataW.trod_int Try.underlying3 (hf 1 (by omega))
        have hp' : c0 = .int .i64 p := by simpa using hp
        have hq' : c1 = .int .i64 q := by simpa using hq
        exact ⟨p, q, by rw [hcell 0 (by omega), hp']; rfl, by rw [hcell 1 (by omega), hq']; rfl⟩
    refine ⟨some x, l, c, fun i => intOf ((w.cell? ((x.add (i * 2)).add 0)).getD (.bool false)), fun i => intOf ((w.cell? ((x.add (i * 2)).add 1)).getD (.bool false)), hcs, fun h0 => ?_, by omega⟩
    obtain ⟨p, q, hp, hq⟩ := key 0 h0
    have hx0 : (x.add (0 * 2)).add 0 = x.add 0 := by simp [Addr.add]
    rw [hx0] at hp
    obtain ⟨b, off, rfl, hb⟩ := addr_at hp
    refine ⟨b, off, rfl, hb, fun i hi => ?_⟩
    obtain ⟨p, q, hp, hq⟩ := key i hi
    have a0 : ((⟨b, off, none⟩ : Addr).add (i * 2)).add 0 = ⟨b, off + i * 2, none⟩ := by rw [addr_add, addr_add]; rfl
    have a1 : ((⟨b, off, none⟩ : Addr).add (i * 2)).add 1 = ⟨b, off + i * 2 + 1, none⟩ := by rw [addr_add, addr_add]
    rw [a0] at hp
    rw [a1] at hq
    simp only [a0, a1, hp, hq, Option.getD_some, intOf]
    exact ⟨trivial, trivial⟩

set_option maxRecDepth 100000 in
theorem lifted (os : Os) (started : os.Started) (H : Type) (enc : TypeId × Value → H) :
    ReturnsInHanded {} Try.checked os 6 .any (Rows.octetsReadsSpec.pre6 enc Try.prog Try.f6 Rows.octetsReadsRow.domain false) (Rows.octetsReadsSpec.post enc Try.prog Try.f6 false true false false) := by
  refine returnsInHanded_of_change (C := Try.checked) own started (by kernel_rfl) Try.func6
    (ChangeSpec.witness6 (enc := enc) (C := Try.checked) false ⟨#[], #[.string ByteArray.empty, .slice none 0 0], []⟩ 8 (by kernel_rfl) (by kernel_rfl) (by kernel_rfl) (by kernel_rfl)) ?_
  intro W base args ds gs before hval0 hW hcnd _
  have hval : ∀ (j : Nat) t v, Try.f6.params[j]? = some t → args[j]? = some v → Value.okWide Try.prog W .any base t v := hval0
  have hW' := hW
  obtain ⟨p, q, hA0, hV, rfl, hfz, hnd⟩ := hW
  have hA : DataW.TrodAll enc Try.prog W 0 (fun _ => true) true Try.f6.params.toList args.toList ds p := hA0
  rw [Try.params6] at hA hval
  obtain ⟨v0, vs0, d0, ds0, p0, q0, hargs, rfl, rfl, h0, r0⟩ := trodAll_cons hA
  obtain ⟨v1, vs1, d1, ds1, p1, q1, rfl, rfl, rfl, h1, r1⟩ := trodAll_cons r0
  obtain ⟨rfl, rfl, rfl⟩ := trodAll_nil r1
  obtain rfl : args = #[v0, v1] := by cases args; simp_all
  obtain ⟨rfl, rfl⟩ := trodVars_none hV
  obtain ⟨a0, rfl, rfl, rfl, w0⟩ := open_string Try.underlying9 (hval 0 9 v0 rfl rfl) h0
  have k1 := h1
  have lt1 : ∀ x ∈ p1, x.block < W.heap.size := by obtain ⟨m, hm⟩ := k1; exact DataW.trod_lt m _ _ _ hm
  obtain ⟨aa, la, ca, rfl⟩ := okWide_slice Try.underlying50 (hval 1 50 v1 rfl rfl)
  obtain ⟨fuel, hf⟩ := h1
  obtain ⟨a, len, cap, xs, ys, hv, hasks, hlen⟩ := asks_of (v := .slice aa la ca) (by simpa [Value.cells] using hf)
  clear hA0 hval0
  rw [hv] at k1 hW' ⊢
  have hw9 : a0.size ≤ 9223372036854775807 := by unfold maxLen at w0; omega
  refine (walk a0 a len cap xs ys W hw9 hlen hasks).mono fun e W' ⟨he, bel⟩ => ?_
  subst he
  exact ⟨_, rfl, _, _, _, [], _, [], hW', trodAll_mk1 (shut_bool Try.underlying4 _), (trodAll_cons_mk (shut_string Try.underlying9 w0) (trodAll_cons_mk (Below.trod laidOut (by kernel_rfl) (of_decide_eq_true (by kernel_rfl)) k1 bel lt1) trodAll_mk0)), rfl, bel.frame _, fun h => by cases h⟩

theorem over : Rows.octetsReadsRow.holds Try.pinned (OpenSpec.ofChange Rows.octetsReadsSpec) :=
  OpenClaim.holds_of_wide 6 Try.f6 rfl rfl rfl rfl rfl rfl rfl ⟨rfl, rfl, rfl, rfl, rfl⟩ rfl rfl rfl rfl rfl (by kernel_rfl) Try.func6 (by kernel_rfl)
    (of_decide_eq_true (by kernel_rfl)) (by unfold Func.isWrapper; first | (rw [if_pos (by decide +kernel)]; kernel_rfl) | (rw [if_neg (by decide +kernel)]; exact ⟨rfl, rfl⟩))
    (fun os started H enc _ => lifted os started H enc)

theorem proved : Rows.OctetsReadsSaid := over
#print axioms proved
end Go.Proofs.Ytjemofhppljcbaa.octetsReads
