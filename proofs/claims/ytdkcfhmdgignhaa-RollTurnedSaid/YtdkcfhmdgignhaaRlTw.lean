/-
  Layer 18: RollTurned, walked.
-/
import Derived.Test.YtdkcfhmdgignhaaRlTs
import Derived.Test.YtdkcfhmdgignhaaRlPut
import Derived.Test.YtdkcfhmdgignhaaLooseD
import Derived.Deep.DeepCutAuto
namespace Go.Proofs.Ytdkcfhmdgignhaa.Rl
open Go.RowKit
open Fx (StrsAt)
set_option maxRecDepth 100000
set_option linter.unusedSimpArgs false
set_option linter.unusedVariables false
/-- The array of rolls, before turn k. -/
structure ArrAt (W : World) (B : Nat) (w : World) (l : List (Int × Int)) (n k : Nat) : Prop where
  bel : Below W.heap.size W w
  lo : W.heap.size ≤ B
  arr : ∃ (A0 : Option Addr) (n0 c0 : Nat) (A1 : Option Addr) (n1 c1 : Nat) (A2 : Option Addr) (n2 c2 : Nat) (A3 : Option Addr) (n3 c3 : Nat), w.heap[B]? = some (.cells #[.slice A0 n0 c0, .slice A1 n1 c1, .slice A2 n2 c2, .slice A3 n3 c3] 58 (0, 0)) ∧ (0 < k → ∃ r, Fin l n r ∧ RlAt (fun b => B < b) w r (.agg #[.slice A0 n0 c0, .slice A1 n1 c1])) ∧ (1 < k → ∃ r, Fin l n r ∧ RlAt (fun b => B < b) w r (.agg #[.slice A2 n2 c2, .slice A3 n3 c3]))
theorem ArrAt.lt {W : World} {B : Nat} {w : World} {l : List (Int × Int)} {n k : Nat} (h : ArrAt W B w l n k) : B < w.heap.size := by
  obtain ⟨_, _, _, _, _, _, _, _, _, _, _, _, h1, _⟩ := h.arr
  exact Gn.heap_lt h1
theorem ArrAt.under {W : World} {B : Nat} {w w' : World} {l : List (Int × Int)} {n k : Nat} (h : ArrAt W B w l n k) (b : Below w.heap.size w w') : ArrAt W B w' l n k := by
  obtain ⟨A0, n0, c0, A1, n1, c1, A2, n2, c2, A3, n3, c3, h1, h2, h3⟩ := h.arr
  exact ⟨h.bel.trans (b.mono h.bel.size), h.lo, A0, n0, c0, A1, n1, c1, A2, n2, c2, A3, n3, c3, (b.block _ (Gn.heap_lt h1)).trans h1, fun hk => by
    obtain ⟨r, r1, r2⟩ := h2 hk
    exact ⟨r, r1, r2.under b⟩, fun hk => by
    obtain ⟨r, r1, r2⟩ := h3 hk
    exact ⟨r, r1, r2.under b⟩⟩
/-- The roll of a turn, in its box. -/
structure TqAt (wT : World) (D : Nat) (w : World) (r : Rol) (vm vc : Value) : Prop where
  box : w.heap[wT.heap.size]? = some (.cells #[vm, vc] 26 (0, 0))
  rl : RlAt (fun b => b ≠ wT.heap.size ∧ D ≤ b) w r (.agg #[vm, vc])
  bel : Below wT.heap.size wT w
  lo : D ≤ wT.heap.size
theorem TqAt.under {wT : World} {D : Nat} {w w' : World} {r : Rol} {vm vc : Value} (h : TqAt wT D w r vm vc) (b : Below w.heap.size w w') : TqAt wT D w' r vm vc :=
  ⟨(b.block _ (Gn.heap_lt h.box)).trans h.box, h.rl.under b, h.bel.trans (b.mono h.bel.size), h.lo⟩
theorem TqAt.form {wT : World} {D : Nat} {w : World} {r : Rol} {vm vc : Value} (h : TqAt wT D w r vm vc) : ∃ A1 c1 A2 c2, vm = .slice A1 r.ms.length c1 ∧ vc = .slice A2 r.cs.length c2 := by
  obtain ⟨A1, c1, A2, c2, e, _, _⟩ := h.rl.form
  injection e with e
  injection e with e
  injection e with e1 e2
  injection e2 with e2
  exact ⟨A1, c1, A2, c2, e1, e2⟩
theorem conv_x (k : Nat) (h : k < 9) (W : World) : (convert 39 9 (.slice (some ⟨W.heap.size, 0, none⟩) 1 1)).run Try.prog (W.alloc (.cells #[.int .u8 (97 + (k : Int))] 5)) = .ok (.string (xB k)) (W.alloc (.cells #[.int .u8 (97 + (k : Int))] 5)) := by
  have hu : (((UInt8.ofNat (97 + k)).toNat : Nat) : Int) = 97 + (k : Int) := by simp; omega
  have := run_convert_bytes_back (P := Try.prog) (W.alloc (.cells #[.int .u8 (97 + (k : Int))] 5)) 39 9 5 ⟨W.heap.size, 0, none⟩ 1 [UInt8.ofNat (97 + k)] Try.underlying39 Try.underlying5 Try.underlying9 (fun j hj => by
    have e : j = 0 := by simp at hj; omega
    subst e
    refine Gn.row_new W [.int .u8 (97 + (k : Int))] _ _ rfl 0 _ ?_
    show some (Value.int .u8 (97 + (k : Int))) = some (Value.int .u8 (((UInt8.ofNat (97 + k)).toNat : Nat) : Int))
    rw [hu])
  exact this
theorem conv_c (k : Nat) (h : k < 4) (W : World) : (convert 39 9 (.slice (some ⟨W.heap.size, 0, none⟩) 2 2)).run Try.prog (W.alloc (.cells #[.int .u8 99, .int .u8 (48 + (k : Int))] 5)) = .ok (.string (cB k)) (W.alloc (.cells #[.int .u8 99, .int .u8 (48 + (k : Int))] 5)) := by
  have hu : (((UInt8.ofNat (48 + k)).toNat : Nat) : Int) = 48 + (k : Int) := by simp; omega
  have := run_convert_bytes_back (P := Try.prog) (W.alloc (.cells #[.int .u8 99, .int .u8 (48 + (k : Int))] 5)) 39 9 5 ⟨W.heap.size, 0, none⟩ 2 [99, UInt8.ofNat (48 + k)] Try.underlying39 Try.underlying5 Try.underlying9 (fun j hj => by
    refine Gn.row_new W [.int .u8 99, .int .u8 (48 + (k : Int))] _ _ rfl j _ ?_
    have hj : j < 2 := hj
    match j, hj with
    | 0, _ => rfl
    | 1, _ =>
      show some (Value.int .u8 (48 + (k : Int))) = some (Value.int .u8 (((UInt8.ofNat (48 + k)).toNat : Nat) : Int))
      rw [hu])
  exact this
/-- What a deed told, in a box of its own. -/
structure MbAt (wT : World) (D : Nat) (w : World) (r : Rol) (vm vc : Value) (q : Nat) (R : Except Nat Rol) (x y : Value) : Prop where
  tq : TqAt wT D w r vm vc
  bx : w.heap[q]? = some (.cells #[x, y] 26 (0, 0))
  rl : RlAt (fun b => b ≠ wT.heap.size ∧ D ≤ b) w (rolOf R) (.agg #[x, y])
  ne : q ≠ wT.heap.size
theorem MbAt.of {wT : World} {D : Nat} {w w3 : World} {r : Rol} {vm vc : Value} {R : Except Nat Rol} {x y : Value} {o : Obj} (h : TqAt wT D w r vm vc) (hr : RlAt (fun b => (w.alloc o).heap.size ≤ b) w3 (rolOf R) (.agg #[x, y])) (hb : Below (w.alloc o).heap.size (w.alloc o) w3) {z1 z2 : Value} (hx : w3.heap[w.heap.size]? = some (.cells #[z1, z2] 26 (0, 0))) : MbAt wT D ((w3.setCell ⟨w.heap.size, 0, none⟩ x).setCell ⟨w.heap.size, 1, none⟩ y) r vm vc w.heap.size R x y := by
  have b0 : Below w.heap.size w (w.alloc o) := (Below.refl _ _).alloc (Nat.le_refl _) _
  have b1 : Below w.heap.size w ((w3.setCell ⟨w.heap.size, 0, none⟩ x).setCell ⟨w.heap.size, 1, none⟩ y) := ((b0.trans (hb.mono b0.size)).setCell (Nat.le_refl _) _).setCell (Nat.le_refl _) _
  have hlt := Gn.heap_lt h.box
  have hlo := h.lo
  have hsz : (w.alloc o).heap.size = w.heap.size + 1 := by simp
  exact ⟨h.under b1, Gn.heap_set (Gn.heap_set hx 0 _) 1 _, hr.keep (by simp [World.setCell]) fun q hq _ => ⟨⟨by omega, by omega⟩, fun j => Gn.cell_same ((Gn.set_keep _ _ _ (by show w.heap.size ≠ q; omega)).trans (Gn.set_keep _ _ _ (by show w.heap.size ≠ q; omega))) j⟩, by omega⟩
theorem MbAt.next {wT : World} {D : Nat} {w : World} {r : Rol} {vm vc : Value} {q : Nat} {R : Except Nat Rol} {x y : Value} (h : MbAt wT D w r vm vc q R x y) : TqAt wT D ((w.setCell ⟨wT.heap.size, 0, none⟩ x).setCell ⟨wT.heap.size, 1, none⟩ y) (rolOf R) x y :=
  ⟨Gn.heap_set (Gn.heap_set h.tq.box 0 _) 1 _, h.rl.keep (by simp [World.setCell]) fun b hb _ => ⟨hb, fun j => Gn.cell_same ((Gn.set_keep _ _ _ (by show wT.heap.size ≠ b; exact fun e => hb.1 e.symm)).trans (Gn.set_keep _ _ _ (by show wT.heap.size ≠ b; exact fun e => hb.1 e.symm))) j⟩, (h.tq.bel.setCell (Nat.le_refl _) _).setCell (Nat.le_refl _) _, h.tq.lo⟩
theorem set2_keep {w : World} {B i j : Nat} {x y : Value} (r : Nat) (hr : B < r) : ((w.setCell ⟨B, i, none⟩ x).setCell ⟨B, j, none⟩ y).heap[r]? = w.heap[r]? :=
  (Gn.set_keep _ _ _ (by omega)).trans (Gn.set_keep _ _ _ (by omega))
theorem rl_far {w : World} {B i j : Nat} {x y : Value} {r : Rol} {v : Value} (h : RlAt (fun b => B < b) w r v) : RlAt (fun b => B < b) ((w.setCell ⟨B, i, none⟩ x).setCell ⟨B, j, none⟩ y) r v :=
  h.keep (by simp [World.setCell]) fun q hq _ => ⟨hq, fun k => Gn.cell_same (set2_keep q hq) k⟩
theorem ArrAt.put0 {W : World} {B : Nat} {w : World} {l : List (Int × Int)} {n : Nat} (h : ArrAt W B w l n 0) {r : Rol} (hf : Fin l n r) {A0 : Option Addr} {n0 c0 : Nat} {A1 : Option Addr} {n1 c1 : Nat} (hr : RlAt (fun b => B < b) w r (.agg #[.slice A0 n0 c0, .slice A1 n1 c1])) : ArrAt W B ((w.setCell ⟨B, 0, none⟩ (.slice A0 n0 c0)).setCell ⟨B, 1, none⟩ (.slice A1 n1 c1)) l n 1 := by
  obtain ⟨B0, m0, d0, B1, m1, d1, B2, m2, d2, B3, m3, d3, h1, h2, h3⟩ := h.arr
  exact ⟨(h.bel.setCell h.lo _).setCell h.lo _, h.lo, A0, n0, c0, A1, n1, c1, B2, m2, d2, B3, m3, d3, Gn.heap_set (Gn.heap_set h1 0 _) 1 _, fun _ => ⟨r, hf, rl_far hr⟩, fun hk => absurd hk (by omega)⟩
theorem ArrAt.put1 {W : World} {B : Nat} {w : World} {l : List (Int × Int)} {n : Nat} (h : ArrAt W B w l n 1) {r : Rol} (hf : Fin l n r) {A2 : Option Addr} {n2 c2 : Nat} {A3 : Option Addr} {n3 c3 : Nat} (hr : RlAt (fun b => B < b) w r (.agg #[.slice A2 n2 c2, .slice A3 n3 c3])) : ArrAt W B ((w.setCell ⟨B, 2, none⟩ (.slice A2 n2 c2)).setCell ⟨B, 3, none⟩ (.slice A3 n3 c3)) l n 2 := by
  obtain ⟨B0, m0, d0, B1, m1, d1, B2, m2, d2, B3, m3, d3, h1, h2, h3⟩ := h.arr
  obtain ⟨r0, f0, g0⟩ := h2 (by omega)
  exact ⟨(h.bel.setCell h.lo _).setCell h.lo _, h.lo, B0, m0, d0, B1, m1, d1, A2, n2, c2, A3, n3, c3, Gn.heap_set (Gn.heap_set h1 2 _) 3 _, fun _ => ⟨r0, f0, rl_far g0⟩, fun _ => ⟨r, hf, rl_far hr⟩⟩
set_option maxHeartbeats 16000000 in
theorem turned_any (l : List (Int × Int)) (W : World) (v : Value) (hl : PsIn W l v) (hlen : l.length ≤ maxLen) (_ : True) :
    Calls Try.prog 6 #[v] W fun e w' => e = .returned (.bool true) ∧ Below W.heap.size W w' := by
  have HSP := Lib.hid (fun w => speaks_any w)
  obtain ⟨A, cap, bk, off, rfl, h0, hc⟩ := hl
  obtain ⟨L, hL⟩ : ∃ L, L = l.length := ⟨_, rfl⟩
  rw [← hL] at h0 ⊢
  have hL9 : L ≤ 9223372036854775807 := by rw [hL]; exact hlen
  have HH0 := Lib.hid h0
  have HC := Lib.hid hc
  have HLL := Lib.hid hL
  obtain ⟨n, hn⟩ : ∃ n, n = min L 20 := ⟨_, rfl⟩
  have hn20 : n ≤ 20 := by omega
  have hnL : n ≤ L := by omega
  have HNN := Lib.hid hn
  clear hlen hL h0 hc hn
  go_enter Try.func6, Try.ntmps6
  go_wp2_with fail
  refine (HSP.out W).mono ?_
  rintro e w1 ⟨rfl, hb1⟩
  obtain ⟨V, hV⟩ : ∃ V, V = w1.alloc (.cells #[.slice none 0 0, .slice none 0 0, .slice none 0 0, .slice none 0 0] 58) := ⟨_, rfl⟩
  have hbv : Below w1.heap.size w1 V := by rw [hV]; exact (Below.refl _ _).alloc (Nat.le_refl _) _
  have har : ArrAt W w1.heap.size V l n 0 := ⟨hb1.trans (hbv.mono hb1.size), hb1.size, _, _, _, _, _, _, _, _, _, _, _, _, by rw [hV]; exact heap_alloc_new _ _, fun h => absurd h (by omega), fun h => absurd h (by omega)⟩
  obtain ⟨B, hB⟩ : ∃ B, B = w1.heap.size := ⟨_, rfl⟩
  have HAR := Lib.hid har
  rw [← hB] at HAR
  have HV := Lib.hid hV
  have HB := Lib.hid hB
  clear hb1 hV hbv har hB
  go_upto_region 4 with fail
  rw [← HV.out, ← HB.out]
  go_wp2_with fail
  go_loopw [4] (fun x wr => ∃ (k : Nat), k ≤ 2 ∧ x = .int .i64 k ∧ ArrAt W B wr l n k) (fun x _ => 2 - (intOf x).toNat)
  case atStart => exact ⟨0, by omega, rfl, HAR.out⟩
  case round =>
    obtain ⟨k, hk2, rfl, har⟩ := hrel
    have HAR := Lib.hid har
    clear har
    by_cases hlt : k < 2
    · have hlt2 : (k : Int) < 2 := by omega
      have HEN := Lib.hid (enrol_any ⟨[], []⟩ tt 2 ((inv_nil).sized (by omega)) (by decide) (fun _ => True) wr _ (rl_zero _ wr))
      rw [tn_start.1] at HEN
      go_wp2_with fail
      refine HEN.out.mono ?_
      rintro e wT ⟨v1, rfl, hr1, hb1⟩
      obtain ⟨A1, c1, A2, c2, rfl, _, _⟩ := hr1.form
      have e1 : (rolOf (.ok ⟨[⟨tt, 2, 4096⟩], []⟩)).ms.length = 1 := rfl
      have e2 : (rolOf (.ok ⟨[⟨tt, 2, 4096⟩], []⟩)).cs.length = 0 := rfl
      have e3 : ((codeOf (.ok ⟨[⟨tt, 2, 4096⟩], []⟩) : Nat) : Int) = 0 := rfl
      rw [e1, e2] at hr1
      rw [e1, e2, e3]
      obtain ⟨V5, hV5⟩ : ∃ V5, V5 = wT.alloc (.cells #[.slice A1 1 c1, .slice A2 0 c2] 26) := ⟨_, rfl⟩
      have hbv : Below wT.heap.size wT V5 := by rw [hV5]; exact (Below.refl _ _).alloc (Nat.le_refl _) _
      obtain ⟨D, hD⟩ : ∃ D, D = wr.heap.size := ⟨_, rfl⟩
      have htq : TqAt wT D V5 ⟨[⟨tt, 2, 4096⟩], []⟩ (.slice A1 1 c1) (.slice A2 0 c2) := ⟨by rw [hV5]; exact heap_alloc_new _ _, (hr1.keep (Nat.le_refl _) fun q hq hl => ⟨⟨by omega, by omega⟩, fun _ => rfl⟩).under hbv, hbv, by rw [hD]; exact hb1.size⟩
      have HAT := Lib.hid (HAR.out.under hb1)
      have HTQ := Lib.hid htq
      have HDB := Lib.hid (show B < D from by rw [hD]; exact HAR.out.lt)
      have HV5 := Lib.hid hV5
      clear hr1 hb1 e1 e2 e3 hbv htq hV5 hD
      go_upto_region 8 with fail
      rw [← HV5.out]
      obtain ⟨f, hf⟩ : ∃ f : Nat → Nat, f = fun i => if k = 1 then n - 1 - i else i := ⟨_, rfl⟩
      have HF := Lib.hid hf
      clear hf
      have hmin : min (L : Int) 20 = (n : Int) := by have := HNN.out; omega
      go_upto_region 11 with fail
      go_wp2_with fail
      go_loopw [8] (fun x wr => ∃ (p : Nat) (r : Rol) (vm vc : Value), p ≤ 3 ∧ x = .int .i64 p ∧ StT l n f p 0 r ∧ TqAt wT D wr r vm vc) (fun x _ => 3 - (intOf x).toNat)
      case atStart => exact ⟨0, _, _, _, by omega, rfl, StT.start tn_start.2, HTQ.out⟩
      case round =>
        obtain ⟨p, r, vm, vc, hp3, rfl, hst, htq⟩ := hrel
        have HST := Lib.hid hst
        have HTQ := Lib.hid htq
        clear hst htq
        by_cases hpl : p < 3
        · have hpl2 : (p : Int) < 3 := by omega
          go_wp2_with fail
          go_loopw [9] (fun x wr => ∃ (i : Nat) (r : Rol) (vm vc : Value), i ≤ n ∧ x = .int .i64 i ∧ StT l n f p i r ∧ TqAt wT D wr r vm vc) (fun x _ => n - (intOf x).toNat)
          case atStart => exact ⟨0, r, vm, vc, Nat.zero_le _, rfl, HST.out, HTQ.out⟩
          case round =>
            obtain ⟨i, r, vm, vc, hin, rfl, hst, htq⟩ := hrel
            have HST := Lib.hid hst
            have HTQ := Lib.hid htq
            clear hst htq
            by_cases hil : i < n
            · have hil2 : (i : Int) < (n : Int) := by omega
              obtain ⟨at_, hat⟩ : ∃ at_, at_ = f i := ⟨_, rfl⟩
              have hatn : at_ < n := by rw [hat, HF.out]; dsimp only; split <;> omega
              have HATF := Lib.hid hat
              clear hat
              obtain ⟨tb, htb⟩ : ∃ tb, tb = decide (k = 1) := ⟨_, rfl⟩
              have htb2 : ((k : Int) == 1) = tb := by rw [htb]; rw [Bool.eq_iff_iff]; simp; omega
              have HTB := Lib.hid htb
              clear htb
              go_upto_if 41 with fail
              clear htb2
              go_cut [10] from 42 to 45 (fun s10 wx => s10 = .int .i64 at_ ∧ wx = wr)
              case first =>
                by_cases hk1 : k = 1
                · have hk12 : (k : Int) = 1 := by omega
                  have hw1 : IntKind.i64.wrap ((n : Int) - 1) = ((n - 1 : Nat) : Int) := by
                    rw [show (n : Int) - 1 = ((n - 1 : Nat) : Int) by omega]; exact IntWalk.i64_in _ (by omega)
                  have hw2 : IntKind.i64.wrap (((n - 1 : Nat) : Int) - (i : Int)) = (at_ : Int) := by
                    have h1 := HATF.out
                    rw [HF.out] at h1
                    dsimp only at h1
                    rw [if_pos hk1] at h1
                    rw [show ((n - 1 : Nat) : Int) - (i : Int) = (at_ : Int) by omega]; exact IntWalk.i64_in _ (by omega)
                  have htb3 : tb = true := by rw [HTB.out]; exact decide_eq_true hk1
                  subst htb3
                  clear hk1 hk12
                  go_wp2_with fail
                  go_meet
                  case rel => exact ⟨rfl, rfl⟩
                · have hk12 : ¬ (k : Int) = 1 := by omega
                  have hat2 : at_ = i := by
                    have h1 := HATF.out
                    rw [HF.out] at h1
                    dsimp only at h1
                    rw [if_neg hk1] at h1
                    exact h1
                  have htb3 : tb = false := by rw [HTB.out]; exact decide_eq_false hk1
                  subst htb3
                  clear hk1 hk12
                  go_wp2_with fail
                  go_meet
                  case rel => exact ⟨by rw [hat2], rfl⟩
              case rest =>
                obtain ⟨rfl, rfl⟩ := hcut
                have hatl : at_ < l.length := by have := HLL.out; omega
                have hatL : (at_ : Int) < (L : Int) := by omega
                obtain ⟨rfl, hbk⟩ := HH0.out (by omega)
                obtain ⟨q0, q1⟩ := HC.out at_ hatl
                have hwc : Below W.heap.size W wc := HAT.out.bel.trans (HTQ.out.bel.mono HAT.out.bel.size)
                have p0 := (hwc.cell (p := ⟨bk, off + at_ * 2, none⟩) hbk).trans q0
                have p1 := (hwc.cell (p := ⟨bk, off + at_ * 2 + 1, none⟩) hbk).trans q1
                obtain ⟨z1, hz1⟩ : ∃ z1, z1 = l[at_].1 := ⟨_, rfl⟩
                obtain ⟨z2, hz2⟩ : ∃ z2, z2 = l[at_].2 := ⟨_, rfl⟩
                rw [← hz1] at p0
                rw [← hz2] at p1
                obtain ⟨x, hx⟩ : ∃ x, x = remN z1 9 := ⟨_, rfl⟩
                obtain ⟨c, hc⟩ : ∃ c, c = remN z2 4 := ⟨_, rfl⟩
                obtain ⟨x1, x2, x3, x4⟩ := remN_is z1 9 (by omega)
                obtain ⟨d1, d2, d3, d4⟩ := remN_is z2 4 (by omega)
                rw [← hx] at x1 x2
                rw [← hc] at d1 d2
                obtain ⟨y1, hy1⟩ : ∃ y1, z1.tmod 9 = y1 := ⟨_, rfl⟩
                obtain ⟨y2, hy2⟩ : ∃ y2, z2.tmod 4 = y2 := ⟨_, rfl⟩
                rw [show ((9 : Nat) : Int) = 9 from rfl, hy1] at x1 x3 x4
                rw [show ((4 : Nat) : Int) = 4 from rfl, hy2] at d1 d3 d4
                have x1' := x1.symm
                have d1' := d1.symm
                have hwy1 : IntKind.i64.wrap (y1 + 9) = y1 + 9 := IntWalk.i64_in _ (by omega)
                have hwy2 : IntKind.i64.wrap (y2 + 4) = y2 + 4 := IntWalk.i64_in _ (by omega)
                have hwx : IntKind.i64.wrap (97 + (x : Int)) = ((97 + x : Nat) : Int) := by
                  rw [show 97 + (x : Int) = ((97 + x : Nat) : Int) by omega]; exact IntWalk.i64_in _ (by omega)
                have hwc : IntKind.i64.wrap (48 + (c : Int)) = ((48 + c : Nat) : Int) := by
                  rw [show 48 + (c : Int) = ((48 + c : Nat) : Int) by omega]; exact IntWalk.i64_in _ (by omega)
                have HZ1 := Lib.hid hz1
                have HZ2 := Lib.hid hz2
                have HX := Lib.hid hx
                have HCX := Lib.hid hc
                clear x1 d1 q0 q1 hz1 hz2 hx hc
                have hcv1 := conv_x x x2 wc
                obtain ⟨wd, hwd⟩ : ∃ wd, wd = wc.alloc (.cells #[.int .u8 (97 + (x : Int))] 5) := ⟨_, rfl⟩
                have hbd : Below wc.heap.size wc wd := by rw [hwd]; exact (Below.refl _ _).alloc (Nat.le_refl _) _
                have hp1 := (hbd.cell (p := ⟨bk, off + at_ * 2 + 1, none⟩) (cell_lt p1)).trans p1
                have HWD := Lib.hid hwd
                have HTD := Lib.hid (HTQ.out.under hbd)
                clear hwd hbd p1
                go_upto_region 21 with fail
                rw [← HWD.out]
                clear hcv1 p0
                have hcv2 := conv_c c d2 wd
                obtain ⟨we, hwe⟩ : ∃ we, we = wd.alloc (.cells #[.int .u8 99, .int .u8 (48 + (c : Int))] 5) := ⟨_, rfl⟩
                have hbe : Below wd.heap.size wd we := by rw [hwe]; exact (Below.refl _ _).alloc (Nat.le_refl _) _
                have HWE := Lib.hid hwe
                have HTE := Lib.hid (HTD.out.under hbe)
                clear hwe hbe
                obtain ⟨Am, cm, Ac, cc, rfl, rfl⟩ := HTE.out.form
                obtain ⟨nm, hnm⟩ : ∃ nm, nm = r.ms.length := ⟨_, rfl⟩
                obtain ⟨nc9, hnc⟩ : ∃ nc9, nc9 = r.cs.length := ⟨_, rfl⟩
                rw [← hnm, ← hnc] at HTE
                have hsz := HST.out.sized hn20 hin
                have HWT : Went (stepM p r (xB x) (cB c)) r (StT l n f p (i + 1)) := by
                  have h1 := HST.out.step hpl hn20 hil
                  have e1 : xf l (f i) = xB x := by
                    unfold xf
                    rw [← HATF.out, List.getD_eq_getElem?_getD, List.getElem?_eq_getElem hatl, HX.out, HZ1.out]
                    rfl
                  have e2 : cf l (f i) = cB c := by
                    unfold cf
                    rw [← HATF.out, List.getD_eq_getElem?_getD, List.getElem?_eq_getElem hatl, HCX.out, HZ2.out]
                    rfl
                  rw [e1, e2] at h1
                  exact h1
                obtain ⟨R, hR⟩ : ∃ R, R = stepM p r (xB x) (cB c) := ⟨_, rfl⟩
                rw [← hR] at HWT
                have HWT := Lib.hid HWT
                have HR := Lib.hid hR
                have HSZ := Lib.hid hsz
                obtain ⟨xn, hxn⟩ : ∃ xn, xn = xB x := ⟨_, rfl⟩
                obtain ⟨cn, hcn⟩ : ∃ cn, cn = cB c := ⟨_, rfl⟩
                have hxs : xn.size ≤ 9223372036854775807 := by rw [hxn]; exact (show (1 : Nat) ≤ 9223372036854775807 by decide)
                have hcs : cn.size ≤ 9223372036854775807 := by rw [hcn]; exact (show (2 : Nat) ≤ 9223372036854775807 by decide)
                rw [← hxn, ← hcn] at HR
                have HXS := Lib.hid hxs
                have HCS := Lib.hid hcs
                obtain ⟨V7, hV7⟩ : ∃ V7, V7 = we.alloc (.cells #[.slice none 0 0, .slice none 0 0] 26) := ⟨_, rfl⟩
                have hb7 : Below we.heap.size we V7 := by rw [hV7]; exact (Below.refl _ _).alloc (Nat.le_refl _) _
                have HXQ := Lib.hid (show V7.heap[we.heap.size]? = some (.cells #[.slice none 0 0, .slice none 0 0] 26 (0, 0)) by rw [hV7]; exact heap_alloc_new _ _)
                have HT7 := Lib.hid (HTE.out.under hb7)
                have HV7 := Lib.hid hV7
                have hw1 : IntKind.i64.wrap ((i : Int) + 1) = ((i + 1 : Nat) : Int) := IntWalk.i64_in _ (by omega)
                have HXN := Lib.hid hxn
                have HCN := Lib.hid hcn
                clear hnm hnc hR hsz hxs hcs hV7 hb7 hxn hcn
                go_upto_region 22 with fail
                rw [← HWE.out, ← HXN.out, ← HCN.out]
                clear hcv2 hp1 hy1 hy2 x2 x3 x4 x1' d2 d3 d4 d1' hwy1 hwy2 hwx hwc
                go_upto_region 23 with fail
                rw [← HV7.out]
                have b0 := cell_of_row _ _ 0 _ _ (0, 0) HT7.out.box
                have b1 := cell_of_row _ _ 1 _ _ (0, 0) HT7.out.box
                go_upto_block 6 with fail
                go_cut [6] from 71 to 93 (fun s6 wx => ∃ (A3 : Option Addr) (n3 c3 : Nat) (A4 : Option Addr) (n4 c4 : Nat), s6 = .int .i64 (codeOf R : Nat) ∧ MbAt wT D wx r (.slice Am nm cm) (.slice Ac nc9 cc) we.heap.size R (.slice A3 n3 c3) (.slice A4 n4 c4))
                case first =>
                  have hpp : p = 0 ∨ p = 1 ∨ p = 2 := by omega
                  rcases hpp with hpp | hpp | hpp
                  · have hp0 : ((p : Int) == 0) = true := by rw [hpp]; rfl
                    have HRR := Lib.hid (show R = enrolM r xn 1 by rw [HR.out]; unfold stepM; rw [if_pos hpp])
                    have HCA := Lib.hid (enrol_any r xn 1 HSZ.out HXS.out _ V7 _ HT7.out.rl)
                    rw [← HRR.out] at HCA
                    clear hpp
                    go_wp2_with fail
                    refine HCA.out.mono ?_
                    rintro e w3 ⟨v3, rfl, hr3, hb3⟩
                    obtain ⟨A3, c3, A4, c4, rfl, _, _⟩ := hr3.form
                    obtain ⟨n3, hn3⟩ : ∃ n3, n3 = (rolOf R).ms.length := ⟨_, rfl⟩
                    obtain ⟨n4, hn4⟩ : ∃ n4, n4 = (rolOf R).cs.length := ⟨_, rfl⟩
                    rw [← hn3, ← hn4] at hr3 ⊢
                    have hq := (hb3.block _ (Gn.heap_lt HXQ.out)).trans HXQ.out
                    have HMB := Lib.hid (MbAt.of (o := .cells #[.slice none 0 0, .slice none 0 0] 26) HTE.out (by rw [← HV7.out]; exact hr3) (by rw [← HV7.out]; exact hb3) hq)
                    have s0 := cell_of_row _ _ 0 _ _ (0, 0) hq
                    have s1 := cell_of_row _ _ 1 _ _ (0, 0) hq
                    have sf0 := Gn.frozen_row hq 0
                    have sf1 := Gn.frozen_row hq 1
                    clear hr3 hb3 hn3 hn4 hq b0 b1
                    go_wp2_with fail
                    go_meet
                    case rel => exact ⟨_, _, _, _, _, _, rfl, HMB.out⟩
                  · have hp0 : ((p : Int) == 0) = false := by rw [hpp]; rfl
                    have hp1 : ((p : Int) == 1) = true := by rw [hpp]; rfl
                    have HRR := Lib.hid (show R = openM r cn tt by rw [HR.out]; unfold stepM; rw [if_neg (by omega), if_pos hpp])
                    have HCA := Lib.hid (open_any r cn tt HSZ.out HCS.out _ V7 _ HT7.out.rl)
                    rw [← HRR.out] at HCA
                    clear hpp
                    go_wp2_with fail
                    refine HCA.out.mono ?_
                    rintro e w3 ⟨v3, rfl, hr3, hb3⟩
                    obtain ⟨A3, c3, A4, c4, rfl, _, _⟩ := hr3.form
                    obtain ⟨n3, hn3⟩ : ∃ n3, n3 = (rolOf R).ms.length := ⟨_, rfl⟩
                    obtain ⟨n4, hn4⟩ : ∃ n4, n4 = (rolOf R).cs.length := ⟨_, rfl⟩
                    rw [← hn3, ← hn4] at hr3 ⊢
                    have hq := (hb3.block _ (Gn.heap_lt HXQ.out)).trans HXQ.out
                    have HMB := Lib.hid (MbAt.of (o := .cells #[.slice none 0 0, .slice none 0 0] 26) HTE.out (by rw [← HV7.out]; exact hr3) (by rw [← HV7.out]; exact hb3) hq)
                    have s0 := cell_of_row _ _ 0 _ _ (0, 0) hq
                    have s1 := cell_of_row _ _ 1 _ _ (0, 0) hq
                    have sf0 := Gn.frozen_row hq 0
                    have sf1 := Gn.frozen_row hq 1
                    clear hr3 hb3 hn3 hn4 hq b0 b1
                    go_wp2_with fail
                    go_meet
                    case rel => exact ⟨_, _, _, _, _, _, rfl, HMB.out⟩
                  · have hp0 : ((p : Int) == 0) = false := by rw [hpp]; rfl
                    have hp1 : ((p : Int) == 1) = false := by rw [hpp]; rfl
                    have HRR := Lib.hid (show R = joinM r cn xn by rw [HR.out]; unfold stepM; rw [if_neg (by omega), if_neg (by omega)])
                    have HCA := Lib.hid (Join_any r cn xn HSZ.out _ V7 _ HT7.out.rl)
                    rw [← HRR.out] at HCA
                    clear hpp
                    go_wp2_with fail
                    refine HCA.out.mono ?_
                    rintro e w3 ⟨v3, rfl, hr3, hb3⟩
                    obtain ⟨A3, c3, A4, c4, rfl, _, _⟩ := hr3.form
                    obtain ⟨n3, hn3⟩ : ∃ n3, n3 = (rolOf R).ms.length := ⟨_, rfl⟩
                    obtain ⟨n4, hn4⟩ : ∃ n4, n4 = (rolOf R).cs.length := ⟨_, rfl⟩
                    rw [← hn3, ← hn4] at hr3 ⊢
                    have hq := (hb3.block _ (Gn.heap_lt HXQ.out)).trans HXQ.out
                    have HMB := Lib.hid (MbAt.of (o := .cells #[.slice none 0 0, .slice none 0 0] 26) HTE.out (by rw [← HV7.out]; exact hr3) (by rw [← HV7.out]; exact hb3) hq)
                    have s0 := cell_of_row _ _ 0 _ _ (0, 0) hq
                    have s1 := cell_of_row _ _ 1 _ _ (0, 0) hq
                    have sf0 := Gn.frozen_row hq 0
                    have sf1 := Gn.frozen_row hq 1
                    clear hr3 hb3 hn3 hn4 hq b0 b1
                    go_wp2_with fail
                    go_meet
                    case rel => exact ⟨_, _, _, _, _, _, rfl, HMB.out⟩
                case rest =>
                  obtain ⟨A3, n3, c3, A4, n4, c4, rfl, hmb⟩ := hcut
                  have HMB := Lib.hid hmb
                  have hq := hmb.bx
                  have hbx := hmb.tq.box
                  have q0 := cell_of_row _ _ 0 _ _ (0, 0) hq
                  have q1 := cell_of_row _ _ 1 _ _ (0, 0) hq
                  have g0 := cell_of_row _ _ 0 _ _ (0, 0) hbx
                  have g1 := cell_of_row _ _ 1 _ _ (0, 0) hbx
                  have f0 := Gn.frozen_row hbx 0
                  have f1 := Gn.frozen_row hbx 1
                  clear hmb hq hbx b0 b1
                  rcases HWT.out with ⟨hco, hP⟩ | ⟨hco, hP⟩
                  · have hc0 : ((codeOf R : Nat) : Int) = 0 := by omega
                    have HP := Lib.hid hP
                    clear hP hco
                    go_wp2_with fail
                    go_roundw
                    case rel => exact ⟨i + 1, rolOf R, _, _, by omega, by go_num, HP.out, HMB.out.next⟩
                    case measure => simp [intOf]; omega
                  · have hc0 : ((codeOf R : Nat) : Int) = 9 := by omega
                    have HP := Lib.hid hP
                    clear hP hco
                    go_wp2_with fail
                    go_roundw
                    case rel => exact ⟨i + 1, r, _, _, by omega, by go_num, HP.out, HMB.out.tq⟩
                    case measure => simp [intOf]; omega
            · have hil2 : ¬ (i : Int) < (n : Int) := by omega
              have hie : i = n := by omega
              go_wp2_with fail
              go_roundw
              case rel => exact ⟨p + 1, r, vm, vc, by omega, by go_num, (hie ▸ HST.out).pass hpl, HTQ.out⟩
              case measure => simp [intOf]; omega
        · have hpl2 : ¬ (p : Int) < 3 := by omega
          have hp9 : p = 3 := by omega
          have hst3 : StT l n f 3 0 r := by rw [← hp9]; exact HST.out
          have hfin : Fin l n r := Fin.of hst3 (fun j hj => by rw [HF.out]; dsimp only; split <;> omega) (fun j hj => by
            rw [HF.out]
            dsimp only
            by_cases h1 : k = 1
            · exact ⟨n - 1 - j, by omega, by rw [if_pos h1]; omega⟩
            · exact ⟨j, hj, by rw [if_neg h1]⟩)
          have HFN := Lib.hid hfin
          have hru : RlAt (fun b => B < b) wr r (.agg #[vm, vc]) := HTQ.out.rl.keep (Nat.le_refl _) fun q hq _ => ⟨by have := HDB.out; omega, fun _ => rfl⟩
          obtain ⟨Am, cm, Ac, cc, rfl, rfl⟩ := HTQ.out.form
          obtain ⟨nm, hnm⟩ : ∃ nm, nm = r.ms.length := ⟨_, rfl⟩
          obtain ⟨nc9, hnc⟩ : ∃ nc9, nc9 = r.cs.length := ⟨_, rfl⟩
          rw [← hnm, ← hnc] at HTQ hru
          have HRU := Lib.hid hru
          have har := HAT.out.under HTQ.out.bel
          have HA9 := Lib.hid har
          obtain ⟨B0, m0, d0, B1, m1, d1, B2, m2, d2, B3, m3, d3, h1, _, _⟩ := har.arr
          have b0 := cell_of_row _ _ 0 _ _ (0, 0) HTQ.out.box
          have b1 := cell_of_row _ _ 1 _ _ (0, 0) HTQ.out.box
          have a0 := cell_of_row _ _ 0 _ _ (0, 0) h1
          have a1 := cell_of_row _ _ 1 _ _ (0, 0) h1
          have a2 := cell_of_row _ _ 2 _ _ (0, 0) h1
          have a3 := cell_of_row _ _ 3 _ _ (0, 0) h1
          have f0 := Gn.frozen_row h1 0
          have f1 := Gn.frozen_row h1 1
          have f2 := Gn.frozen_row h1 2
          have f3 := Gn.frozen_row h1 3
          clear hfin hru hnm hnc har h1 hst3
          have hk01 : k = 0 ∨ k = 1 := by omega
          rcases hk01 with hk0 | hk0
          · subst hk0
            have HNX := Lib.hid (HA9.out.put0 HFN.out HRU.out)
            go_wp2_with fail
            go_roundw
            case rel => exact ⟨1, by omega, by go_num, HNX.out⟩
            case measure => simp [intOf]
          · subst hk0
            have HNX := Lib.hid (HA9.out.put1 HFN.out HRU.out)
            go_wp2_with fail
            go_roundw
            case rel => exact ⟨2, by omega, by go_num, HNX.out⟩
            case measure => simp [intOf]
    · have hlt2 : ¬ (k : Int) < 2 := by omega
      obtain ⟨A0, n0, c0, A1, n1, c1, A2, n2, c2, A3, n3, c3, h1, h2, h3⟩ := HAR.out.arr
      obtain ⟨r, f1, g1⟩ := h2 (by omega)
      obtain ⟨r', f2, g2⟩ := h3 (by omega)
      have hrr : r = r' := f1.one f2
      subst hrr
      have hms : r.ms.length ≤ 4096 := by have := f1.lm; omega
      have hcs : r.cs.length ≤ 4096 := by have := f1.lc; omega
      obtain ⟨bsv, hbs⟩ : ∃ bsv, bsv = (⟨((putR r).getD []).toArray⟩ : ByteArray) := ⟨_, rfl⟩
      have HP1 := Lib.hid (fun (w : World) (b : Below wr.heap.size wr w) => put_any r _ w _ (g1.under b) hms hcs)
      have HP2 := Lib.hid (fun (w : World) (b : Below wr.heap.size wr w) => put_any r _ w _ (g2.under b) hms hcs)
      rw [← hbs] at HP1 HP2
      have HCE := Lib.hid (fun (w : World) (b : Below wr.heap.size wr w) => show w.cell? ⟨B, 0, none⟩ = some (.slice A0 n0 c0) ∧ w.cell? ⟨B, 1, none⟩ = some (.slice A1 n1 c1) ∧ w.cell? ⟨B, 2, none⟩ = some (.slice A2 n2 c2) ∧ w.cell? ⟨B, 3, none⟩ = some (.slice A3 n3 c3) from by
        have h := (b.block _ (Gn.heap_lt h1)).trans h1
        exact ⟨cell_of_row _ _ 0 _ _ (0, 0) h, cell_of_row _ _ 1 _ _ (0, 0) h, cell_of_row _ _ 2 _ _ (0, 0) h, cell_of_row _ _ 3 _ _ (0, 0) h⟩)
      clear h1 h2 h3 f1 f2 g1 g2 hms hcs hbs
      go_upto_region 34 with fail
      refine LooseD.region_loose (fun w => Below wr.heap.size wr w) _ _ (by kernel_rfl) (by kernel_rfl)
        (LooseD.waits (D := [[], [], [], [], [], [], [], []]) (by kernel_rfl))
        (LooseD.stays (ts := [none, none, some (.is (.string bsv)), none, none, some (.is (.string bsv)), none, none]) (fun w w' h b => h.trans (b.mono h.size)) (.none (.none (.is (.none (.none (.is (.none (.none .nil)))))))))
        (Gn.below_drew (Below.refl _ _)) ?_
      refine LooseD.reads (.pointer (some ⟨B, 0, none⟩)) rfl rfl ?_ ?_
      · intro w hw
        obtain ⟨y1, y2, y3, y4⟩ := HCE.out w hw
        clear hw
        go_simp
      try simp only [Act.put, List.setIfInBounds_toArray, List.set_cons_zero, List.set_cons_succ]
      refine LooseD.reads (.agg #[.slice A0 n0 c0, .slice A1 n1 c1]) rfl rfl ?_ ?_
      · intro w hw
        obtain ⟨y1, y2, y3, y4⟩ := HCE.out w hw
        clear hw
        go_simp
      try simp only [Act.put, List.setIfInBounds_toArray, List.set_cons_zero, List.set_cons_succ]
      refine LooseD.gives (.string bsv) 11 #[.agg #[.slice A0 n0 c0, .slice A1 n1 c1]] rfl rfl ?_ (fun w hw hH => HP1.out w hw) ?_
      · intro w hw
        clear hw
        go_simp
      try simp only [Act.put, List.setIfInBounds_toArray, List.set_cons_zero, List.set_cons_succ]
      refine LooseD.reads (.pointer (some ⟨B, 2, none⟩)) rfl rfl ?_ ?_
      · intro w hw
        obtain ⟨y1, y2, y3, y4⟩ := HCE.out w hw
        clear hw
        go_simp
      try simp only [Act.put, List.setIfInBounds_toArray, List.set_cons_zero, List.set_cons_succ]
      refine LooseD.reads (.agg #[.slice A2 n2 c2, .slice A3 n3 c3]) rfl rfl ?_ ?_
      · intro w hw
        obtain ⟨y1, y2, y3, y4⟩ := HCE.out w hw
        clear hw
        go_simp
      try simp only [Act.put, List.setIfInBounds_toArray, List.set_cons_zero, List.set_cons_succ]
      refine LooseD.gives (.string bsv) 11 #[.agg #[.slice A2 n2 c2, .slice A3 n3 c3]] rfl rfl ?_ (fun w hw hH => HP2.out w hw) ?_
      · intro w hw
        clear hw
        go_simp
      try simp only [Act.put, List.setIfInBounds_toArray, List.set_cons_zero, List.set_cons_succ]
      refine LooseD.reads (.bool true) rfl rfl ?_ ?_
      · intro w hw
        obtain ⟨y1, y2, y3, y4⟩ := HCE.out w hw
        clear hw
        go_simp
      try simp only [Act.put, List.setIfInBounds_toArray, List.set_cons_zero, List.set_cons_succ]
      refine LooseD.reads (.bool true) rfl rfl ?_ ?_
      · intro w hw
        obtain ⟨y1, y2, y3, y4⟩ := HCE.out w hw
        clear hw
        go_simp
      try simp only [Act.put, List.setIfInBounds_toArray, List.set_cons_zero, List.set_cons_succ]
      refine LooseD.done ?_
      intro w8 hw8 _
      have HB8 := Lib.hid (HAR.out.bel.trans (hw8.mono HAR.out.bel.size))
      clear hw8
      go_wp2_with fail
      go_ret
      exact ⟨rfl, HB8.out⟩
end Go.Proofs.Ytdkcfhmdgignhaa.Rl
