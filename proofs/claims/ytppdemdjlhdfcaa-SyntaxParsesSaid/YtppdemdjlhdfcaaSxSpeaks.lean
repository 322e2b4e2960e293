/-
  The sentence that the laws of syntax open with.
-/
import Derived.Test.YtppdemdjlhdfcaaSxText
import Derived.Test.YtppdemdjlhdfcaaSxProp
namespace Go.Proofs.Ytppdemdjlhdfcaa.Sx
open Go.RowKit
open Lx (bs)
set_option maxRecDepth 100000

def gSp : Gram := ⟨[97], [([97], .node 3 [] [.node 2 [120] [], .node 5 [] [.node 1 [98] []]])]⟩
theorem parse_sp : parseS (bs ⟨#[97, 58, 32, 39, 120, 39, 32, 98, 63, 59]⟩) = .ok gSp 6 := by kernel_rfl
theorem wet_sp : ∀ r ∈ gSp.rules, r.1.length ≤ 1048576 ∧ WeT r.2 := by
  intro r hr
  rw [List.mem_singleton.1 hr]
  refine ⟨by decide, .mk _ _ _ (by decide) (by decide) fun a ha => ?_⟩
  rcases List.mem_cons.1 ha with h | h
  · rw [h]; exact .mk _ _ _ (by decide) (by decide) fun a ha => absurd ha (by simp)
  · rw [List.mem_singleton.1 h]
    refine .mk _ _ _ (by decide) (by decide) fun a ha => ?_
    rw [List.mem_singleton.1 ha]
    exact .mk _ _ _ (by decide) (by decide) fun a ha => absurd ha (by simp)
theorem prop_sp : propG gSp.start gSp.rules = true := by kernel_rfl
theorem same_sp : (decide (gSp.start = gSp.start) && eqRs gSp.rules gSp.rules) = true := by rw [decide_eq_true rfl, (eqRs_iff _ _).2 rfl]; rfl

set_option maxHeartbeats 4000000 in
theorem speaks_true (W : World) : Calls Try.prog 4 #[] W (Asks true W) := by
  have KP := parse_text ⟨#[97, 58, 32, 39, 120, 39, 32, 98, 63, 59]⟩ W (by decide)
  rw [parse_sp] at KP
  have HK := Lib.hid KP
  clear KP
  go_enter Try.func4, Try.ntmps4
  go_wp2_with fail
  refine HK.out.mono ?_
  rintro e w1 ⟨x, y, rfl, hb, ⟨yy, rfl, hr⟩, rfl⟩
  have hr0 := hr
  obtain ⟨A, cap, rr, fa, fb, fc, rfl, hcap, hA, hc⟩ := hr
  obtain ⟨rfl, hrr, _⟩ := hA (by decide)
  obtain ⟨⟨c0, c1, c2, c3⟩, hnd⟩ := hc 0 (by decide)
  obtain ⟨ea, eb, hk⟩ := Nd.open_ hnd
  obtain ⟨A2, cap2, r2, ga, gb, gc, e2, hcap2, hA2, hc2⟩ := hk
  obtain ⟨rfl, hr2, _⟩ := hA2 (by decide)
  obtain ⟨⟨d0, d1, d2⟩, hnd2⟩ := hc2 1 (by decide)
  obtain ⟨fa2, _, _⟩ := Nd.open_ hnd2
  rw [ea] at c1; rw [eb] at c2; rw [e2] at c3; rw [fa2] at d0
  rw [show Lx.mk gSp.start = (⟨#[97]⟩ : ByteArray) from rfl, show gSp.rules.length = 1 from rfl]
  have b2 : Below w1.heap.size w1 ((w1.alloc (.cells #[.string (⟨#[97]⟩), .slice (some ⟨rr, 0, none⟩) 1 cap] 25)).alloc (.cells #[.int .i64 0, .int .i64 0, .int .i64 0] 28)) := ((Below.refl _ _).alloc (Nat.le_refl _) _).alloc (by simp) _
  have b3 : Below w1.heap.size w1 (((w1.alloc (.cells #[.string (⟨#[97]⟩), .slice (some ⟨rr, 0, none⟩) 1 cap] 25)).alloc (.cells #[.int .i64 0, .int .i64 0, .int .i64 0] 28)).alloc (.cells #[.int .i64 3, .string ⟨#[]⟩, .slice (some ⟨r2, 0, none⟩) 2 cap2] 44)) := b2.alloc (by simp; omega) _
  have C1 := (b2.cell (p := ⟨rr, 1, none⟩) hrr).trans (show w1.cell? ⟨rr, 1, none⟩ = some (.int .i64 3) from c1)
  have C2 := (b2.cell (p := ⟨rr, 2, none⟩) hrr).trans (show w1.cell? ⟨rr, 2, none⟩ = some (.string ⟨#[]⟩) from c2)
  have C3 := (b2.cell (p := ⟨rr, 3, none⟩) hrr).trans (show w1.cell? ⟨rr, 3, none⟩ = some (.slice (some ⟨r2, 0, none⟩) 2 cap2) from c3)
  have D0 := (b3.cell (p := ⟨r2, 3, none⟩) hr2).trans (show w1.cell? ⟨r2, 3, none⟩ = some (.int .i64 5) from d0)
  have HR := Lib.hid hr0
  have HB1 := Lib.hid hb
  have HB3 := Lib.hid b3
  clear hc hc2 hnd hnd2 c0 c1 c2 c3 d0 d1 d2 ea eb e2 fa2 b2 b3 hr0 hb hA hA2
  have KS := fun w (b : Below w1.heap.size w1 w) => same_any gSp.start gSp.start gSp.rules gSp.rules (fun r hr => (wet_sp r hr).2.sm) _ _ w _ _ (HR.out.under b) (HR.out.under b) (by decide)
  rw [same_sp] at KS
  have KQ := fun w (b : Below w1.heap.size w1 w) => proper_any gSp.start gSp.rules (by decide) wet_sp _ w _ (HR.out.under b) (by decide)
  rw [prop_sp] at KQ
  have HKS := Lib.hid KS
  have HKQ := Lib.hid KQ
  clear KS KQ
  go_wp2_with fail
  refine (HKS.out _ HB3.out).mono ?_
  rintro e w4 ⟨rfl, b4⟩
  obtain ⟨hc, hf⟩ := (⟨fun b o h => b4.cell (p := ⟨b, o, none⟩) h, fun b o h => b4.frozen (p := ⟨b, o, none⟩) h⟩ : (∀ b o, b < _ → w4.cell? ⟨b, o, none⟩ = _) ∧ (∀ b o, b < _ → w4.frozen? ⟨b, o, none⟩ = _))
  have HB4 := Lib.hid (HB3.out.trans (b4.mono HB3.out.size))
  clear b4
  go_wp2_with fail
  refine (HKQ.out _ HB4.out).mono ?_
  rintro e w5 ⟨rfl, b5⟩
  have HB5 := Lib.hid (HB1.out.trans ((HB4.out.trans (b5.mono HB4.out.size)).mono HB1.out.size))
  clear b5
  go_wp2
  go_ret
  exact ⟨rfl, HB5.out⟩
end Go.Proofs.Ytppdemdjlhdfcaa.Sx
