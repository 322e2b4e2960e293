/-
  Layer 18: the walk of Put.
-/
import Derived.Test.YtnmhgjoofgmcgaaGreatRlTexts
import Derived.Test.YtnmhgjoofgmcgaaGreatRlEnrol
namespace Go.Proofs.YtnmhgjoofgmcgaaGreat.Rl
open Go.RowKit
open Fx (StrsAt)
open Oct (app eText eInt eTexts OutSt OSep Left obj bs)
set_option maxRecDepth 100000
set_option linter.unusedSimpArgs false
set_option linter.unusedVariables false
/-- The bytes of a member, of members; of a class, of classes; of a roll. -/
def pMem (m : Mem) : Option (List UInt8) := app (app (eText (bs m.name)) (eInt m.role)) (eInt m.quota)
def pMems (l : List Mem) : Nat → Option (List UInt8)
  | 0 => some []
  | k + 1 => app (pMems l k) (pMem (l.getD k ⟨⟨#[]⟩, 0, 0⟩))
def pCls (c : Cls) : Option (List UInt8) := app (app (eText (bs c.name)) (eText (bs c.teacher))) (eTexts c.studs)
def pClss (l : List Cls) : Nat → Option (List UInt8)
  | 0 => some []
  | k + 1 => app (pClss l k) (pCls (l.getD k ⟨⟨#[]⟩, ⟨#[]⟩, []⟩))
def putR (r : Rol) : Option (List UInt8) := app (app (eInt r.ms.length) (pMems r.ms r.ms.length)) (app (eInt r.cs.length) (pClss r.cs r.cs.length))
theorem len_eTexts (ss : List ByteArray) : Oct.len (eTexts ss) ≤ 4300000000 := by
  unfold eTexts
  by_cases h : 65536 < ss.length
  · rw [if_pos h]; simp [Oct.len]
  · rw [if_neg h]
    have h1 := Oct.len_app (Oct.eLen ss.length) (Oct.eStrs ss ss.length)
    have h2 := Oct.len_eLen (ss.length : Int)
    have h3 := Oct.len_eStrs ss ss.length
    omega
theorem len_pMem (m : Mem) : Oct.len (pMem m) ≤ 65560 := by
  unfold pMem
  have h1 := Oct.len_app (app (eText (bs m.name)) (eInt m.role)) (eInt m.quota)
  have h2 := Oct.len_app (eText (bs m.name)) (eInt m.role)
  have h3 := Oct.len_eText (bs m.name)
  have h4 := Oct.len_eInt m.role
  have h5 := Oct.len_eInt m.quota
  omega
theorem len_pMems (l : List Mem) : ∀ k, Oct.len (pMems l k) ≤ 65560 * k
  | 0 => by simp [pMems, Oct.len]
  | k + 1 => by
    have h1 := Oct.len_app (pMems l k) (pMem (l.getD k ⟨⟨#[]⟩, 0, 0⟩))
    have h2 := len_pMems l k
    have h3 := len_pMem (l.getD k ⟨⟨#[]⟩, 0, 0⟩)
    rw [pMems]; omega
theorem len_pCls (c : Cls) : Oct.len (pCls c) ≤ 4300200000 := by
  unfold pCls
  have h1 := Oct.len_app (app (eText (bs c.name)) (eText (bs c.teacher))) (eTexts c.studs)
  have h2 := Oct.len_app (eText (bs c.name)) (eText (bs c.teacher))
  have h3 := Oct.len_eText (bs c.name)
  have h4 := Oct.len_eText (bs c.teacher)
  have h5 := len_eTexts c.studs
  omega
theorem len_pClss (l : List Cls) : ∀ k, Oct.len (pClss l k) ≤ 4300200000 * k
  | 0 => by simp [pClss, Oct.len]
  | k + 1 => by
    have h1 := Oct.len_app (pClss l k) (pCls (l.getD k ⟨⟨#[]⟩, ⟨#[]⟩, []⟩))
    have h2 := len_pClss l k
    have h3 := len_pCls (l.getD k ⟨⟨#[]⟩, ⟨#[]⟩, []⟩)
    rw [pClss]; omega
/-- What lies below is as it was behind an Out's calls. -/
theorem osep_cells {B g c : Nat} {W W' : World} (h : OSep g c W W') (hg : B ≤ g) (hc : B ≤ c) : ∀ r, r < B → ∀ j, W'.cell? ⟨r, j, none⟩ = W.cell? ⟨r, j, none⟩ := fun r hr j =>
  Gn.cell_same ((h.below hg hc).block r hr) j
set_option maxHeartbeats 8000000 in
theorem put_any (r : Rol) (P : Nat → Prop) (W : World) (v : Value) (h : RlAt P W r v) (hn : r.ms.length ≤ 4096) (hm : r.cs.length ≤ 4096) :
    Calls Tryz.prog 9 #[v] W fun e w' => e = .returned (.string ⟨((putR r).getD []).toArray⟩) ∧ Below W.heap.size W w' := by
  have h := RlAt.keep (Q := fun b => b < W.heap.size) h (Nat.le_refl _) (fun r _ hr => ⟨hr, fun _ => rfl⟩)
  obtain ⟨Am, cm, Ac, cc, rfl, hms, hcs⟩ := h.form
  obtain ⟨n, hnn⟩ : ∃ n, n = r.ms.length := ⟨_, rfl⟩
  obtain ⟨m, hmm⟩ : ∃ m, m = r.cs.length := ⟨_, rfl⟩
  rw [← hnn] at hms hn
  rw [← hmm] at hcs hm
  rw [← hnn, ← hmm] at h ⊢
  obtain ⟨V0, hV0⟩ : ∃ V0, V0 = W.alloc (.cells #[.slice Am n cm, .slice Ac m cc] 27) := ⟨_, rfl⟩
  obtain ⟨V, hV⟩ : ∃ V, V = V0.alloc (obj (.pointer none) (.int .i64 0) (.bool false)) := ⟨_, rfl⟩
  have hz0 : V0.heap.size = W.heap.size + 1 := by rw [hV0]; simp
  have hz : V.heap.size = W.heap.size + 2 := by rw [hV]; simp [hz0]
  have hb0 : Below W.heap.size W V0 := by rw [hV0]; exact (Below.refl _ W).alloc (Nat.le_refl _) _
  have hb : Below W.heap.size W V := by rw [hV]; exact hb0.alloc (by omega) _
  have hx0 : V.heap[W.heap.size]? = some (.cells #[.slice Am n cm, .slice Ac m cc] 27 (0, 0)) := by
    rw [hV]; exact (heap_alloc_old _ _ (by omega)).trans (by rw [hV0]; exact heap_alloc_new W _)
  have hst : OutSt V (W.heap.size + 1) (W.heap.size + 2) (some []) := by
    have := OutSt.new V0
    rw [← hV, hz0] at this
    exact this
  have hms2 : MsAt (fun b => b < W.heap.size) V r.ms (.slice Am n cm) := RowAt.under hms (hb.mono (Nat.le_refl _))
  have hcs2 : CsAt (fun b => b < W.heap.size) V r.cs (.slice Ac m cc) := hcs.keep hb.size fun q hq _ => ⟨hq, fun j => hb.cell (p := ⟨q, j, none⟩) hq⟩
  obtain ⟨s0, hs0⟩ : ∃ s0, s0 = app (some []) (eInt n) := ⟨_, rfl⟩
  have hl0 : Oct.len s0 ≤ 8 := by
    rw [hs0]
    have h1 := Oct.len_app (some []) (eInt n)
    have h2 := Oct.len_eInt (n : Int)
    have h3 : Oct.len (some []) = 0 := rfl
    omega
  have HINT := Lib.hid (Oct.int_any (W.heap.size + 1) (W.heap.size + 2) (some []) (n : Int) V hst (by decide))
  rw [← hs0] at HINT
  have HMS := Lib.hid hms2
  have HCS := Lib.hid hcs2
  have HV := Lib.hid hV
  have HV0 := Lib.hid hV0
  have HB := Lib.hid hb
  have HZ := Lib.hid hz
  have HX0 := Lib.hid hx0
  have HL0 := Lib.hid hl0
  have HS0 := Lib.hid hs0
  have HNN := Lib.hid hnn
  have HMM := Lib.hid hmm
  have x0 := cell_of_row _ _ 0 _ _ (0, 0) hx0
  have x1 := cell_of_row _ _ 1 _ _ (0, 0) hx0
  clear hms hcs hms2 hcs2 hV hV0 hb hb0 hz hz0 hx0 hl0 hs0 hnn hmm hst h
  go_enter Tryz.func9, Tryz.ntmps9
  go_upto_region 2 with fail
  rw [← HV0.out, show V0.alloc (.cells #[.pointer none, .int .i64 0, .bool false] 70) = V from HV.out.symm]
  go_wp2_with fail
  refine HINT.out.mono ?_
  rintro e w1 ⟨rfl, h1, h2⟩
  have HO1 := Lib.hid h1
  have HS1 := Lib.hid h2
  have hx1 := ((h2.below (B := W.heap.size + 1) (by omega) (by omega)).block W.heap.size (by omega)).trans HX0.out
  have y0 := cell_of_row _ _ 0 _ _ (0, 0) hx1
  clear x0 x1 h1 h2 hx1
  go_wp2_with fail
  go_loopw [17] (fun i wr => ∃ k : Nat, k ≤ n ∧ i = .int .i64 k ∧ OutSt wr (W.heap.size + 1) (W.heap.size + 2) (app s0 (pMems r.ms k)) ∧ OSep (W.heap.size + 1) (W.heap.size + 2) V wr) (fun i _ => n - (intOf i).toNat)
  case atStart => exact ⟨0, Nat.zero_le _, rfl, by rw [pMems, show app s0 (some []) = s0 by cases s0 <;> simp [app]]; exact HO1.out, HS1.out⟩
  case round =>
    obtain ⟨k, hkn, rfl, ho, hsp⟩ := hrel
    have HO := Lib.hid ho
    have HSP := Lib.hid hsp
    by_cases hlt : k < n
    · have hlt2 : (k : Int) < (n : Int) := by omega
      have hkl : k < r.ms.length := by rw [← HNN.out]; exact hlt
      obtain ⟨A5, c5, b5, h5, _, _, h5c, h5d⟩ := HMS.out
      rw [← HNN.out] at h5 h5c
      injection h5 with h5 _ h5k
      subst h5
      subst h5k
      obtain ⟨rfl, hb5, hp5⟩ := h5c (by omega)
      have hce := osep_cells (B := W.heap.size + 1) hsp (by omega) (by omega) b5 (by omega)
      obtain ⟨x, hx⟩ : ∃ x, x = r.ms[k] := ⟨_, rfl⟩
      have k0 := (hce _).trans (h5d k hkl 0 _ rfl)
      have k1 := (hce _).trans (h5d k hkl 1 _ rfl)
      have k2 := (hce _).trans (h5d k hkl 2 _ rfl)
      rw [← hx] at k0 k1 k2
      rw [Nat.add_zero] at k0
      have hstep : app (app (app (app s0 (pMems r.ms k)) (eText (bs x.name))) (eInt x.role)) (eInt x.quota) = app s0 (pMems r.ms (k + 1)) := by
        rw [pMems, List.getD_eq_getElem?_getD, List.getElem?_eq_getElem hkl, Option.getD_some, ← hx, pMem]
        simp only [Oct.app_assoc]
      have hlen : Oct.len (app s0 (pMems r.ms k)) ≤ 300000000 := by
        have h1 := Oct.len_app s0 (pMems r.ms k)
        have h2 := len_pMems r.ms k
        have h3 := HL0.out
        omega
      obtain ⟨t0, ht0⟩ : ∃ t0, t0 = app s0 (pMems r.ms k) := ⟨_, rfl⟩
      rw [← ht0] at hstep hlen ho
      obtain ⟨nm, rl, qt⟩ := x
      dsimp only at k0 k1 k2 hstep
      obtain ⟨V7, hV7⟩ : ∃ V7, V7 = wr.alloc (.cells #[.string nm, .int .i64 rl, .int .i64 qt] 45) := ⟨_, rfl⟩
      have hb7 : Below wr.heap.size wr V7 := by rw [hV7]; exact (Below.refl _ _).alloc (Nat.le_refl _) _
      have hx7 : V7.heap[wr.heap.size]? = some (.cells #[.string nm, .int .i64 rl, .int .i64 qt] 45 (0, 0)) := by rw [hV7]; exact heap_alloc_new _ _
      have hcw : W.heap.size + 2 ≤ wr.heap.size := ho.lt.2
      have hsp7 : OSep (W.heap.size + 1) (W.heap.size + 2) V V7 := hsp.trans (OSep.of_below hb7 hcw)
      have HCA := Lib.hid (fun (w : World) (st : Option (List UInt8)) (q : ByteArray) (h : OutSt w (W.heap.size + 1) (W.heap.size + 2) st) (hl : Oct.len st ≤ 300100000) => Oct.text_any _ _ st q w h (by omega))
      have HCI := Lib.hid (fun (w : World) (st : Option (List UInt8)) (q : Int) (h : OutSt w (W.heap.size + 1) (W.heap.size + 2) st) (hl : Oct.len st ≤ 300100000) => Oct.int_any _ _ st q w h (by omega))
      have HKB := Lib.hid (fun (w : World) (h : OSep (W.heap.size + 1) (W.heap.size + 2) V7 w) => (h.far _ _ _ _ hx7 (by unfold Oct.Ours; decide)).trans hx7)
      have HO7 := Lib.hid (ho.below hb7)
      have HSP7 := Lib.hid hsp7
      have HV7 := Lib.hid hV7
      have HST := Lib.hid hstep
      have HLN := Lib.hid hlen
      have z0 := cell_of_row _ _ 0 _ _ (0, 0) hx7
      have z1 := cell_of_row _ _ 1 _ _ (0, 0) hx7
      have z2 := cell_of_row _ _ 2 _ _ (0, 0) hx7
      clear hce h5d h5c hx hstep hlen ho hsp hb7 hx7 hcw hsp7 hV7 ht0
      go_upto_region 6 with fail
      rw [← HV7.out]
      clear k0 k1 k2
      go_upto_region 7 with (go_at_call 35; refine (HCA.out _ _ _ HO7.out (by have := HLN.out; omega)).mono ?_; rintro e w2 ⟨rfl, h3, h4⟩)
      have q1 := cell_of_row _ _ 1 _ _ (0, 0) (HKB.out _ h4)
      have H4 := Lib.hid h4
      have H3 := Lib.hid h3
      have hl3 := Oct.len_app t0 (eText (bs nm))
      have hl4 := Oct.len_eText (bs nm)
      have HL3 := Lib.hid (show Oct.len (app t0 (eText (bs nm))) ≤ 300070000 by have := HLN.out; omega)
      clear z0 z1 z2 h3 h4 hl3 hl4
      go_upto_region 8 with (go_at_call 34; refine (HCI.out _ _ _ H3.out (by have := HL3.out; omega)).mono ?_; rintro e w3 ⟨rfl, h3, h4⟩)
      have q2 := cell_of_row _ _ 2 _ _ (0, 0) (HKB.out _ (H4.out.trans h4))
      have H6 := Lib.hid (H4.out.trans h4)
      have H5 := Lib.hid h3
      have hl3 := Oct.len_app (app t0 (eText (bs nm))) (eInt rl)
      have hl4 := Oct.len_eInt rl
      have HL5 := Lib.hid (show Oct.len (app (app t0 (eText (bs nm))) (eInt rl)) ≤ 300080000 by have := HL3.out; omega)
      clear q1 h3 h4 hl3 hl4
      go_upto_region 9 with (go_at_call 34; refine (HCI.out _ _ _ H5.out (by have := HL5.out; omega)).mono ?_; rintro e w4 ⟨rfl, h3, h4⟩)
      rw [HST.out] at h3
      have H7 := Lib.hid h3
      have H8 := Lib.hid ((HSP7.out.trans H6.out).trans h4)
      clear q2 h3 h4
      go_wp2_with fail
      refine ⟨⟨k + 1, by omega, by go_num, H7.out, H8.out⟩, by simp [intOf]; omega⟩
    · have hke : k = n := by omega
      subst hke
      have hx2 := ((hsp.below (B := W.heap.size + 1) (by omega) (by omega)).block W.heap.size (by have := HZ.out; omega)).trans HX0.out
      have HX2 := Lib.hid hx2
      have x1 := cell_of_row _ _ 1 _ _ (0, 0) hx2
      obtain ⟨t0, ht0⟩ : ∃ t0, t0 = app s0 (pMems r.ms k) := ⟨_, rfl⟩
      have hlen : Oct.len t0 ≤ 300000000 := by
        have h1 := Oct.len_app s0 (pMems r.ms k)
        have h2 := len_pMems r.ms k
        have h3 := HL0.out
        rw [ht0]
        omega
      have HT0 := Lib.hid ht0
      rw [← ht0] at HO
      have HLN := Lib.hid hlen
      clear ho hsp hx2 hlen ht0 y0
      go_upto_region 11 with (go_at_call 34; refine (Oct.int_any _ _ _ _ _ HO.out (by have := HLN.out; omega)).mono ?_; rintro e w5 ⟨rfl, h3, h4⟩)
      obtain ⟨s1, hs1⟩ : ∃ s1, s1 = app t0 (eInt m) := ⟨_, rfl⟩
      rw [← hs1] at h3
      have hl1 : Oct.len s1 ≤ 300000008 := by
        rw [hs1]
        have h1 := Oct.len_app t0 (eInt m)
        have h2 := Oct.len_eInt (m : Int)
        have := HLN.out
        omega
      have hx5 := ((h4.below (B := W.heap.size + 1) (by omega) (by omega)).block W.heap.size (by omega)).trans HX2.out
      have y1 := cell_of_row _ _ 1 _ _ (0, 0) hx5
      have HO5 := Lib.hid h3
      have HS5 := Lib.hid (HSP.out.trans h4)
      have HL1 := Lib.hid hl1
      have HS1' := Lib.hid hs1
      clear h3 h4 hl1 hs1 hx5 x1 HO1 HS1 HX2 HO HLN HSP HMS HINT
      go_wp2_with fail
      go_loopw [38] (fun i wr => ∃ k : Nat, k ≤ m ∧ i = .int .i64 k ∧ OutSt wr (W.heap.size + 1) (W.heap.size + 2) (app s1 (pClss r.cs k)) ∧ OSep (W.heap.size + 1) (W.heap.size + 2) V wr) (fun i _ => m - (intOf i).toNat)
      case atStart => exact ⟨0, Nat.zero_le _, rfl, by rw [pClss, show app s1 (some []) = s1 by cases s1 <;> simp [app]]; exact HO5.out, HS5.out⟩
      case round =>
        obtain ⟨j, hjn, rfl, ho, hsp⟩ := hrel
        have HO := Lib.hid ho
        have HSP := Lib.hid hsp
        by_cases hlt : j < m
        · have hlt2 : (j : Int) < (m : Int) := by omega
          have hkl : j < r.cs.length := by rw [← HMM.out]; exact hlt
          have hcsr : CsAt (fun b => b < W.heap.size) wr r.cs (.slice Ac m cc) := HCS.out.keep hsp.size fun q hq _ => ⟨hq, fun i => osep_cells (B := W.heap.size + 1) hsp (by omega) (by omega) q (by omega) i⟩
          obtain ⟨rs, hrow, hall⟩ := hcsr
          obtain ⟨A5, c5, b5, h5, _, _, h5c, h5d⟩ := hrow
          have hkr : j < rs.length := by rw [hall.1]; exact hkl
          rw [hall.1, ← HMM.out] at h5
          injection h5 with h5 _ h5k
          subst h5
          subst h5k
          obtain ⟨rfl, hb5, hp5⟩ := h5c (by omega)
          obtain ⟨e1, e2, e3⟩ := hall.2 j hkr hkl
          obtain ⟨x, hx⟩ : ∃ x, x = r.cs[j] := ⟨_, rfl⟩
          have k0 := h5d j hkr 0 _ rfl
          have k1 := h5d j hkr 1 _ rfl
          have k2 := h5d j hkr 2 _ rfl
          rw [e1, ← hx, Nat.add_zero] at k0
          rw [e2, ← hx] at k1
          rw [← hx] at e3
          obtain ⟨A6, c6, b6, hsf, _, h6c, h6d⟩ := e3
          rw [hsf] at k2
          have hstep : app (app (app (app s1 (pClss r.cs j)) (eText (bs x.name))) (eText (bs x.teacher))) (eTexts x.studs) = app s1 (pClss r.cs (j + 1)) := by
            rw [pClss, List.getD_eq_getElem?_getD, List.getElem?_eq_getElem hkl, Option.getD_some, ← hx, pCls]
            simp only [Oct.app_assoc]
          have hlen : Oct.len (app s1 (pClss r.cs j)) ≤ 20000000000000 := by
            have h1 := Oct.len_app s1 (pClss r.cs j)
            have h2 := len_pClss r.cs j
            have h3 := HL1.out
            omega
          obtain ⟨t1, ht1⟩ : ∃ t1, t1 = app s1 (pClss r.cs j) := ⟨_, rfl⟩
          rw [← ht1] at hstep hlen ho
          obtain ⟨nm, tc, sd⟩ := x
          dsimp only at k0 k1 k2 hstep h6c h6d
          obtain ⟨sl, hsl⟩ : ∃ sl, sl = sd.length := ⟨_, rfl⟩
          rw [← hsl] at k2 h6c
          obtain ⟨V7, hV7⟩ : ∃ V7, V7 = wr.alloc (.cells #[.string nm, .string tc, .slice A6 sl c6] 53) := ⟨_, rfl⟩
          have hb7 : Below wr.heap.size wr V7 := by rw [hV7]; exact (Below.refl _ _).alloc (Nat.le_refl _) _
          have hx7 : V7.heap[wr.heap.size]? = some (.cells #[.string nm, .string tc, .slice A6 sl c6] 53 (0, 0)) := by rw [hV7]; exact heap_alloc_new _ _
          have hcw : W.heap.size + 2 ≤ wr.heap.size := ho.lt.2
          have hsp7 : OSep (W.heap.size + 1) (W.heap.size + 2) V V7 := hsp.trans (OSep.of_below hb7 hcw)
          have HCA := Lib.hid (fun (w : World) (st : Option (List UInt8)) (q : ByteArray) (h : OutSt w (W.heap.size + 1) (W.heap.size + 2) st) (hl : Oct.len st ≤ 20000100000000) => Oct.text_any _ _ st q w h (by omega))
          have HCT := Lib.hid (fun (w : World) (st : Option (List UInt8)) (h : OutSt w (W.heap.size + 1) (W.heap.size + 2) st) (hl : Oct.len st ≤ 20000200000000) (hq : OSep (W.heap.size + 1) (W.heap.size + 2) V7 w) => Oct.texts_any _ _ st A6 sl c6 sd w h ⟨hsl.symm, fun h0 => by
              obtain ⟨f1, f2, f3⟩ := h6c h0
              refine ⟨b6, 0, f1, by have := hq.size; have := hb7.size; omega, fun i hi => ?_⟩
              have hi2 : i < sd.length := by omega
              rw [osep_cells (B := W.heap.size + 1) hq (by omega) (by omega) b6 (by omega), hb7.cell (p := ⟨b6, 0 + i, none⟩) (by omega), Nat.zero_add, h6d i hi2, List.getD_eq_getElem?_getD, List.getElem?_eq_getElem hi2]
              rfl⟩ (by omega) (fun h0 b off e => by
              obtain ⟨f1, f2, f3⟩ := h6c h0
              rw [f1] at e
              injection e with e
              injection e with e _ _
              omega))
          have HKB := Lib.hid (fun (w : World) (h : OSep (W.heap.size + 1) (W.heap.size + 2) V7 w) => (h.far _ _ _ _ hx7 (by unfold Oct.Ours; decide)).trans hx7)
          have HO7 := Lib.hid (ho.below hb7)
          have HSP7 := Lib.hid hsp7
          have HV7 := Lib.hid hV7
          have HST := Lib.hid hstep
          have HLN := Lib.hid hlen
          have z0 := cell_of_row _ _ 0 _ _ (0, 0) hx7
          have z1 := cell_of_row _ _ 1 _ _ (0, 0) hx7
          have z2 := cell_of_row _ _ 2 _ _ (0, 0) hx7
          clear h5d h5c hx hstep hlen ho hsp hb7 hx7 hcw hsp7 hV7 ht1 y1 e1 e2 h6c h6d hall hkr hsf hsl
          go_upto_region 14 with fail
          rw [← HV7.out]
          clear k0 k1 k2
          go_upto_region 15 with (go_at_call 35; refine (HCA.out _ _ _ HO7.out (by have := HLN.out; omega)).mono ?_; rintro e w2 ⟨rfl, h3, h4⟩)
          have q1 := cell_of_row _ _ 1 _ _ (0, 0) (HKB.out _ h4)
          have H4 := Lib.hid h4
          have H3 := Lib.hid h3
          have hl3 := Oct.len_app t1 (eText (bs nm))
          have hl4 := Oct.len_eText (bs nm)
          have HL3 := Lib.hid (show Oct.len (app t1 (eText (bs nm))) ≤ 20000000070000 by have := HLN.out; omega)
          clear z0 z1 z2 h3 h4 hl3 hl4
          go_upto_region 16 with (go_at_call 35; refine (HCA.out _ _ _ H3.out (by have := HL3.out; omega)).mono ?_; rintro e w3 ⟨rfl, h3, h4⟩)
          have q2 := cell_of_row _ _ 2 _ _ (0, 0) (HKB.out _ (H4.out.trans h4))
          have H6 := Lib.hid (H4.out.trans h4)
          have H5 := Lib.hid h3
          have hl3 := Oct.len_app (app t1 (eText (bs nm))) (eText (bs tc))
          have hl4 := Oct.len_eText (bs tc)
          have HL5 := Lib.hid (show Oct.len (app (app t1 (eText (bs nm))) (eText (bs tc))) ≤ 20000000140000 by have := HL3.out; omega)
          clear q1 h3 h4 hl3 hl4
          go_upto_region 17 with (go_at_call 36; refine (HCT.out _ _ H5.out (by have := HL5.out; omega) H6.out).mono ?_; rintro e w4 ⟨rfl, h3, h4⟩)
          rw [HST.out] at h3
          have H7 := Lib.hid h3
          have H8 := Lib.hid ((HSP7.out.trans H6.out).trans h4)
          clear q2 h3 h4
          go_wp2_with fail
          refine ⟨⟨j + 1, by omega, by go_num, H7.out, H8.out⟩, by simp [intOf]; omega⟩
        · have hke : j = m := by omega
          subst hke
          clear ho hsp y1
          have HFIN := Lib.hid (show app s1 (pClss r.cs j) = putR r by
            rw [HS1'.out, HT0.out, HS0.out, putR, ← HNN.out, ← HMM.out, show app (some []) (eInt k) = eInt k by cases eInt k <;> simp [app]]
            simp only [Oct.app_assoc])
          go_upto_region 19 with (go_at_call 37; refine (Oct.bytes_any _ _ _ _ HO.out).mono ?_; rintro e w6 ⟨rfl, h6⟩)
          have HBE := Lib.hid ((HB.out.trans (HSP.out.below (B := W.heap.size) (by omega) (by omega))).trans (h6.below _))
          clear h6
          go_wp2_with fail
          go_ret
          exact ⟨by rw [HFIN.out]; rfl, HBE.out⟩
end Go.Proofs.YtnmhgjoofgmcgaaGreat.Rl
