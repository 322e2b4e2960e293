/-
  Layer 26: the sentence that each statement opens with.
-/
import Derived.Test.YtgbpofgmomglfaaDoorSeD
namespace Go.Proofs.YtgbpofgmomglfaaDoor.Se
open Go.RowKit
open Ms (Msg goodM putM put_good bodyM)
set_option maxRecDepth 100000
set_option linter.unusedSimpArgs false
set_option linter.unusedVariables false
theorem req_put (cl nu : Int) (t : ByteArray) (r : Int) (W : World) (hst : Crc.Steps W) (h0 : 0 < W.heap.size) :
    Calls Tryd.prog 14 #[.agg #[.int .i64 1, .int .i64 0, .int .i64 0, .slice none 0 0, .int .i64 0, .int .i64 0, .int .i64 0, .int .i64 0, .int .i64 cl, .int .i64 nu, .int .i64 0, .string t, .bool false, .int .i64 0, .string ⟨#[]⟩, .slice none 0 0], .int .i64 r] W fun e w' => e = .returned (.string (putM (reqM cl nu t) r)) ∧ Below W.heap.size W w' :=
  Ms.put_any 1 0 0 [] 0 0 0 0 cl nu 0 t false 0 ⟨#[]⟩ [] none 0 0 none 0 0 r W hst h0 rfl rfl ⟨rfl, fun h => absurd h (by decide)⟩ (Ms.Ents.nil _) (by decide) (by decide)
theorem rep_put (cl nu : Int) (t : ByteArray) (x : Nat) (W : World) (hx : W.heap[x]? = some (.cells #[.int .i64 0, .int .i64 0, .int .i64 0, .int .i64 0, .int .i64 0] 3 (0, 0))) (hst : Crc.Steps W) (h0 : 0 < W.heap.size) :
    Calls Tryd.prog 14 #[.agg #[.int .i64 4, .int .i64 0, .int .i64 0, .slice (some ⟨x, 0, none⟩) 5 5, .int .i64 0, .int .i64 0, .int .i64 0, .int .i64 0, .int .i64 cl, .int .i64 nu, .int .i64 0, .string t, .bool false, .int .i64 0, .string ⟨#[]⟩, .slice none 0 0], .int .i64 5] W fun e w' => e = .returned (.string (putM (repM cl nu t) 5)) ∧ Below W.heap.size W w' :=
  Ms.put_any 4 0 0 [0, 0, 0, 0, 0] 0 0 0 0 cl nu 0 t false 0 ⟨#[]⟩ [] (some ⟨x, 0, none⟩) 5 5 none 0 0 5 W hst h0 rfl rfl ⟨rfl, fun _ => ⟨x, 0, rfl, Gn.heap_lt hx, fun i hi => by
    rw [cell_of_row _ _ _ _ _ (0, 0) hx]
    match i, hi with
    | 0, _ => rfl
    | 1, _ => rfl
    | 2, _ => rfl
    | 3, _ => rfl
    | 4, _ => rfl⟩⟩ (Ms.Ents.nil _) (by decide) (by decide)
theorem rep_get (cl nu : Int) (t : ByteArray) (hg : goodM (repM cl nu t) 5 = true) (W : World) (hst : Crc.Steps W) (h0 : 0 < W.heap.size) :
    Calls Tryd.prog 17 #[.string (putM (repM cl nu t) 5), .int .i64 5] W (Ms.Told (repM cl nu t) W) := by
  rw [put_good hg]
  exact Ms.get_good (repM cl nu t) 5 hg W hst h0
/-- The third item's frame. -/
theorem outs_at {w : World} {base n : Nat} {A : Option Addr} {cap : Nat} {fr : ByteArray} (h : w.ownsRow base 40 2 (.slice A n cap) n (outsC n fr)) (hn : n = 3) : ∃ g, A = some ⟨g, 0, none⟩ ∧ w.cell? ⟨g, 5, none⟩ = some (.string fr) := by
  subst hn
  rcases h.2 with ⟨_, h1⟩ | ⟨g, cp, cur, h1, h2, h3, h4, h5, h6, h7⟩
  · cases h1
  · injection h1 with e1 _ e3
    subst e1 e3
    refine ⟨g, rfl, ?_⟩
    rw [cell_of_row _ _ 5 _ _ (0, 0) h3]
    have h8 : (outsC 3 fr)[5]? = some (.string fr) := rfl
    rw [← h7, List.getElem?_take_of_lt (by omega)] at h8
    simpa using h8
def tX : ByteArray := ⟨#[120]⟩
set_option maxHeartbeats 16000000 in
theorem speaks_any (w : World) (hst : Crc.Steps w) (h0 : 0 < w.heap.size) : Calls Tryd.prog 5 #[] w (Gn.Asks true w) := by
  have HST := Lib.hid (fun (w' : World) (b : Below w.heap.size w w') => (⟨hst.of b h0, Nat.lt_of_lt_of_le h0 b.size⟩ : Crc.Steps w' ∧ 0 < w'.heap.size))
  clear hst h0
  obtain ⟨fq, hfq⟩ : ∃ x, x = putM (reqM 1 1 tX) 3 := ⟨_, rfl⟩
  have hfr : fq.toList.isEmpty = false := by rw [hfq]; exact put_some (req_good 1 1 tX 3 (by omega) (by omega) (by omega) (by omega) (by omega) (by decide))
  have HFQ := Lib.hid hfq
  have HFR := Lib.hid hfr
  clear hfq hfr
  go_enter Tryd.func5, Tryd.ntmps5
  go_wp2_with fail
  refine (new_good 1 1 w (by omega) (by omega) (by omega) (by omega)).mono ?_
  rintro e V ⟨rfl, hv, bv⟩
  obtain ⟨sb, hsb⟩ : ∃ x, x = w.heap.size := ⟨_, rfl⟩
  rw [← hsb] at hv ⊢
  have HSB := Lib.hid hsb
  have HBV := Lib.hid bv
  have HV := Lib.hid hv
  have HSEP := Lib.hid (fun (W : World) (h : Gn.Sep sb V.heap.size V W) => show Below w.heap.size w W from bv.trans (h.below (by omega) bv.size))
  clear hsb bv hv
  go_wp2_with fail
  refine (ask_any HV.out tX fq (by omega) (by omega) (by omega) (by omega) (by decide) (by omega) (by omega) (fun W hW => by
    rw [HFQ.out]
    exact req_put 1 (0 + 1) tX (2 * 1 + 1) W (HST.out _ (HSEP.out _ hW)).1 (HST.out _ (HSEP.out _ hW)).2)).mono ?_
  rintro e w2 ⟨x, rfl, hx, hxl, hs2, hp2⟩
  have HX := Lib.hid hx
  have HXB := Lib.hid (show x ≠ sb by have := Gn.heap_lt HV.out; omega)
  have HS2 := Lib.hid (show SesAt w2 sb ⟨1, 1, 1, 0, fq, (0 : Nat)⟩ from hs2)
  have HB2 := Lib.hid (HSEP.out _ hp2)
  clear hx hxl hs2 hp2
  go_wp2_with fail
  go_loopw [4] (fun i wr => ∃ k : Nat, k ≤ 3 ∧ i = .int .i64 k ∧ SesAt wr sb ⟨1, 1, 1, 0, fq, (k : Int)⟩ ∧ Gn.Sep sb w2.heap.size w2 wr) (fun i _ => 3 - (intOf i).toNat)
  case atStart => exact ⟨0, by omega, rfl, HS2.out, Gn.Sep.refl _ _ _⟩
  case round =>
    obtain ⟨k, hk, rfl, hses, hsep⟩ := hrel
    have HSE := Lib.hid hses
    have HSP := Lib.hid hsep
    clear hses hsep
    by_cases hlt : k < 3
    · have hlti : (k : Int) < 3 := by omega
      go_wp2_with fail
      refine (tick_wait HSE.out HFR.out (by omega) (by omega)).mono ?_
      rintro e w3 ⟨rfl, hs3, hp3⟩
      have HS3 := Lib.hid (show SesAt w3 sb ⟨1, 1, 1, 0, fq, ((k + 1 : Nat) : Int)⟩ from hs3)
      have HP3 := Lib.hid (HSP.out.trans (hp3.mono HSP.out.size))
      clear hs3 hp3
      go_wp2_with fail
      go_roundw
      case rel => exact ⟨k + 1, by omega, by go_num, HS3.out, HP3.out⟩
      case measure => simp [intOf]; omega
    · have hk3 : k = 3 := by omega
      subst hk3
      go_wp2_with fail
      refine (tick_sends (show SesAt wr sb ⟨1, 1, 1, 0, fq, 3⟩ from HSE.out) HFR.out 3 (by omega) (by omega) (by omega)).mono ?_
      rintro e w3 ⟨A, cap, rfl, ho3, hs3, hp3⟩
      have HO3 := Lib.hid ho3
      have HS3 := Lib.hid hs3
      have HP3 := Lib.hid (HSP.out.trans (hp3.mono HSP.out.size))
      clear ho3 hs3 hp3
      go_wp2_with fail
      refine (busy_any HS3.out).mono ?_
      rintro e w4 ⟨rfl, b4⟩
      simp only [HFR.out, Bool.not_false]
      obtain ⟨g, rfl, hg5⟩ := outs_at (own_under HO3.out b4) rfl
      have hx4 := (b4.block _ (Gn.heap_lt ((HP3.out.block _ (Gn.heap_lt HX.out) HXB.out).trans HX.out))).trans ((HP3.out.block _ (Gn.heap_lt HX.out) HXB.out).trans HX.out)
      have x1 := cell_of_row _ _ 1 _ _ (0, 0) hx4
      have HB4 := Lib.hid (HB2.out.trans ((HP3.out.below (B := w.heap.size) (by rw [HSB.out]; exact Nat.le_refl _) HB2.out.size).trans (b4.mono (Nat.le_trans HB2.out.size HP3.out.size))))
      try simp only at hg5 x1
      clear b4 hx4
      go_upto_region 10 with fail
      go_quiet (fail)
      go_wp2_with fail
      go_ret
      exact ⟨rfl, Gn.below_drewN HB4.out _⟩
end Go.Proofs.YtgbpofgmomglfaaDoor.Se
