/-
  Layer 23: what the laws open with: a nonce.
-/
import Derived.Test.YtfeelmblnkpfdaaDoorMsGe
namespace Go.Proofs.YtfeelmblnkpfdaaDoor.Ms
open Oct (pb bs)
open Crc (wr op)
open Go.RowKit
set_option maxRecDepth 100000
set_option linter.unusedSimpArgs false
set_option linter.unusedVariables false

def nonceM : Msg := ⟨9, 2, 9, [0, 0, 0], 0, 0, 0, 0, 0, 0, 9, ⟨#[]⟩, false, 0, ⟨#[]⟩, []⟩
theorem nonce_good : goodM nonceM 3 = true := by decide +kernel
theorem nonce_len : (wr (bodyM nonceM)).length = 17 := by decide +kernel
set_option maxHeartbeats 8000000 in
theorem speaks_any (w : World) (hst : Crc.Steps w) (h0 : 0 < w.heap.size) : Calls Tryd.prog 6 #[] w (Says true w) := by
  obtain ⟨W1, hW1⟩ : ∃ W, W = w.alloc (.cells #[.int .i64 0, .int .i64 0, .int .i64 0] 3) := ⟨_, rfl⟩
  have hb1 : Below w.heap.size w W1 := by rw [hW1]; exact (Below.refl _ w).alloc (Nat.le_refl _) _
  have hx1 : W1.heap[w.heap.size]? = some (.cells #[.int .i64 0, .int .i64 0, .int .i64 0] 3 (0, 0)) := by rw [hW1]; exact heap_alloc_new w _
  have hi : Ints W1 (some ⟨w.heap.size, 0, none⟩) 3 [0, 0, 0] := ⟨rfl, fun _ => ⟨w.heap.size, 0, rfl, Gn.heap_lt hx1, fun i hi => by
    rw [cell_of_row _ _ (0 + i) _ _ (0, 0) hx1, Nat.zero_add]
    match i, hi with
    | 0, _ => rfl
    | 1, _ => rfl
    | 2, _ => rfl⟩⟩
  obtain ⟨fr, hfr⟩ : ∃ s : ByteArray, s = ⟨(wr (bodyM nonceM)).toArray⟩ := ⟨_, rfl⟩
  have hst1 : Crc.Steps W1 := hst.of hb1 h0
  have h01 : 0 < W1.heap.size := by have := hb1.size; omega
  have hput := put_any 9 2 9 [0, 0, 0] 0 0 0 0 0 0 9 ⟨#[]⟩ false 0 ⟨#[]⟩ [] (some ⟨w.heap.size, 0, none⟩) 3 3 none 0 0 3 W1 hst1 h01 rfl rfl hi (Ents.nil _) (by decide) (by decide)
  rw [show putM ⟨9, 2, 9, [0, 0, 0], 0, 0, 0, 0, 0, 0, 9, ⟨#[]⟩, false, 0, ⟨#[]⟩, []⟩ 3 = fr from (put_good nonce_good).trans hfr.symm] at hput
  have HPU := Lib.hid hput
  have HGE := Lib.hid (fun (w' : World) (b : Below w.heap.size w w') => show Calls Tryd.prog 13 #[.string fr, .int .i64 3] w' (Told nonceM w') by
    rw [hfr]
    exact get_good nonceM 3 nonce_good w' (hst.of b h0) (by have := b.size; omega))
  have hlen : fr.size = 17 := by rw [hfr]; exact nonce_len
  have hl2 : ((fr.size : Int) == 17) = true := by rw [hlen]; rfl
  have HW1 := Lib.hid hW1
  have HB1 := Lib.hid hb1
  clear hW1 hb1 hx1 hi hfr hst hst1 h0 h01 hput hlen
  have hbd : ∀ (x : Nat) (w : World), (Instr.build 31 #[(0, .int .i64 9), (1, .int .i64 2), (2, .int .i64 9), (3, .slice (some ⟨x, 0, none⟩) 3 3), (10, .int .i64 9)]).run Tryd.prog w = .ok (.agg #[.int .i64 9, .int .i64 2, .int .i64 9, .slice (some ⟨x, 0, none⟩) 3 3, .int .i64 0, .int .i64 0, .int .i64 0, .int .i64 0, .int .i64 0, .int .i64 0, .int .i64 9, .string ⟨#[]⟩, .bool false, .int .i64 0, .string ⟨#[]⟩, .slice none 0 0]) w := fun x w => by kernel_rfl
  go_enter Tryd.func6, Tryd.ntmps6
  go_upto_region 1 with fail
  go_wp2_with fail
  rw [← HW1.out]
  refine HPU.out.mono ?_
  rintro e w2 ⟨rfl, b2⟩
  have HB2 := Lib.hid (HB1.out.trans (b2.mono HB1.out.size))
  clear b2 hbd
  go_wp2_with fail
  refine (HGE.out _ HB2.out).mono ?_
  rintro e w3 ⟨A, cap, B, cap2, rfl, hi, he, b3⟩
  have HB3 := Lib.hid ((HB2.out.trans (b3.mono HB2.out.size)).alloc (by have := HB2.out.size; have := b3.size; omega) (.cells (cellsM nonceM A cap B cap2) 31))
  unfold cellsM nonceM at HB3 ⊢
  dsimp only at HB3 ⊢
  clear hi he b3
  go_wp2_with fail
  go_ret
  exact ⟨rfl, HB3.out⟩
end Go.Proofs.YtfeelmblnkpfdaaDoor.Ms
