/-
  The walk of the document's plain Weigh.
-/
import Derived.Test.YtfeajbaaoflfeaaDoorMkWeigh2
import Derived.RegionTactic
namespace Go.Proofs.YtfeajbaaoflfeaaDoor.Mk
open Go.RowKit

theorem bad_no {x : Nat} (h : bad x = false) : isN x = false ∧ (ord x 0 == some .lt) = false ∧ (ord x 9218868437227405311 == some .gt) = false := by
  unfold bad at h
  simp only [Bool.or_eq_false_iff] at h
  exact ⟨h.1.1, h.1.2, h.2⟩

theorem rweigh_len (a b : Option Addr) (n m c d : Nat) (hne : n ≠ m) (w : World) :
    Calls Tryd.prog 27 #[.slice a n c, .slice b m d] w fun e w' => e = two (0, 1) ∧ w = w' := by
  have t1 : ((n : Int) != (m : Int)) = true := by rw [bne_iff_ne]; omega
  have t2 : ((n : Int) == (m : Int)) = false := by rw [beq_eq_false_iff_ne]; omega
  clear hne
  go_enter Tryd.func27, Tryd.ntmps27
  go_wp2
  go_ret2
  exact ⟨rfl, rfl⟩

set_option maxRecDepth 100000 in
set_option maxHeartbeats 4000000 in
theorem rweigh_good (a b : Option Addr) (len c d : Nat) (v u : List Nat) (hlen : len ≤ 9223372036854775807) (w : World) (hv : Fls w a len v) (hu : Fls w b len u) (hb : fine u len = true) :
    Calls Tryd.prog 27 #[.slice a len c, .slice b len d] w fun e w' => e = two (if zO (wA v u len) = true then (NM, 0) else (canonO (bopt .quo (wS v u len) (wA v u len)), 0)) ∧ Drew w w' := by
  obtain ⟨res, hres⟩ : ∃ res, res = (if zO (wA v u len) = true then (NM, 0) else (canonO (bopt .quo (wS v u len) (wA v u len)), 0)) := ⟨_, rfl⟩
  rw [← hres]
  have HRES := Lib.hid hres
  have HV := Lib.hid hv
  have HU := Lib.hid hu
  have HB := Lib.hid hb
  have HSM := Lib.hid (fun k (hk : k ≤ len) => fine_mono u k len hb hk)
  clear hv hu hb hres
  go_enter Tryd.func27, Tryd.ntmps27
  go_wp2
  go_loop [6] (fun i => ∃ k : Nat, k ≤ len ∧ i = .int .i64 k) (fun i => len - (intOf i).toNat)
  case atStart => exact ⟨0, by omega, rfl⟩
  case round =>
  obtain ⟨k, hk, rfl⟩ := hrel
  by_cases hlt : (k : Int) < len
  · obtain ⟨g, off, rfl, hg, hcell⟩ := HU.out.2.2 (by omega)
    have hck := hcell k (by omega)
    have hxl := HU.out.get_lt k
    have hgood : bad (u.getD k 0) = false := by
      have := HSM.out (k + 1) (by omega)
      rw [fine] at this
      simpa using (Bool.and_eq_true_iff.1 this).2
    generalize u.getD k 0 = x at *
    obtain ⟨e1, e2, e3⟩ := bad_no hgood
    unfold ord at e2 e3
    have KN := Lib.hid (rnan_any x hxl w)
    rw [e1] at KN
    clear hgood e1 hcell
    go_wp2_with fail
    refine KN.out.mono ?_
    rintro e w1 ⟨rfl, rfl⟩
    go_wp2
    go_round
    case rel => exact ⟨k + 1, by omega, by go_num⟩
    case measure => simp [intOf]; omega
  have : len = k := by omega
  subst this
  clear hk hlt
  go_wp2
  go_loopw [7, 8, 9, 10] (fun s t i _ wr => ∃ (k s0 t0 : Nat), k ≤ len ∧ i = .int .i64 k ∧ s = .float .f64 s0 ∧ t = .float .f64 t0 ∧ Rep (wS v u k) s0 ∧ Rep (wA v u k) t0 ∧ Drew w wr) (fun _ _ i _ _ => len - (intOf i).toNat)
  case atStart => exact ⟨0, 0, 0, by omega, rfl, rfl, rfl, zero_rep, zero_rep, Drew.refl _⟩
  case round =>
    obtain ⟨k, s0, t0, hk, rfl, rfl, rfl, hs, ht, hdr⟩ := hrel
    by_cases hlt : (k : Int) < len
    · obtain ⟨g, off, rfl, hg, hcell⟩ := HV.out.2.2 (by omega)
      obtain ⟨g2, off2, rfl, hg2, hcell2⟩ := HU.out.2.2 (by omega)
      obtain ⟨n, hn⟩ := hdr
      have hck : wr.cell? ⟨g, off + k, none⟩ = some (.float .f64 (v.getD k 0)) := by rw [hn]; exact hcell k (by omega)
      have hck2 : wr.cell? ⟨g2, off2 + k, none⟩ = some (.float .f64 (u.getD k 0)) := by rw [hn]; exact hcell2 k (by omega)
      have hxl := HV.out.get_lt k
      have hyl := HU.out.get_lt k
      have hs1 : wS v u (k + 1) = if isN (v.getD k 0) then wS v u k else bopt .add (wS v u k) (bopt .mul (some (v.getD k 0)) (some (u.getD k 0))) := rfl
      have ha1 : wA v u (k + 1) = if isN (v.getD k 0) then wA v u k else bopt .add (wA v u k) (some (u.getD k 0)) := rfl
      generalize v.getD k 0 = x at *
      generalize u.getD k 0 = y at *
      have HN := Lib.hid hn
      have KN := Lib.hid (rnan_any x hxl wr)
      clear hcell hcell2 hn
      cases hi : isN x with
      | true =>
        rw [hi] at KN hs1 ha1
        rw [if_pos rfl] at hs1 ha1
        rw [← hs1] at hs
        rw [← ha1] at ht
        have HS := Lib.hid hs
        have HA := Lib.hid ht
        clear hi hs1 ha1 hs ht
        go_wp2_with fail
        refine KN.out.mono ?_
        rintro e w1 ⟨rfl, rfl⟩
        go_wp2
        go_roundw
        case rel => exact ⟨k + 1, s0, t0, by omega, by go_num, rfl, rfl, HS.out, HA.out, n, HN.out⟩
        case measure => simp [intOf]; omega
      | false =>
        rw [hi] at KN hs1 ha1
        rw [if_neg (by decide)] at hs1 ha1
        obtain ⟨p3, n1, hp1, hp⟩ := op_run (.inr (.inl rfl)) 24 (show Rep (some x) x from ⟨hxl, rfl⟩) (show Rep (some y) y from ⟨hyl, rfl⟩) wr.drew
        obtain ⟨s3, n2, hs2, hs3⟩ := op_run (.inl rfl) 24 hs hp (wr.drewN (1 + n1))
        obtain ⟨t3, n3, ht2, ht3⟩ := op_run (.inl rfl) 24 ht (show Rep (some y) y from ⟨hyl, rfl⟩) (wr.drewN (1 + n1 + n2))
        rw [← hs1] at hs3
        rw [← ha1] at ht3
        have HS := Lib.hid hs3
        have HA := Lib.hid ht3
        clear hi hs1 ha1 hs ht hp hs3 ht3
        go_wp2_with fail
        refine KN.out.mono ?_
        rintro e w1 ⟨rfl, rfl⟩
        go_wp2
        go_region
        go_wp2
        go_roundw
        case rel => exact ⟨k + 1, s3, t3, by omega, by go_num, rfl, rfl, HS.out, HA.out, Drew.trans ⟨n, HN.out⟩ ⟨_, rfl⟩⟩
        case measure => simp [intOf]; omega
    · have : k = len := by omega
      subst this
      have hz := ht.zero
      unfold ord at hz
      cases hzo : zO (wA v u k) with
      | true =>
        rw [hzo] at hz
        have hr : res = (NM, 0) := by rw [HRES.out, if_pos hzo]
        have HR := Lib.hid hr
        clear hr hzo hs ht
        go_wp2_with fail
        refine (rnone_any _).mono ?_
        rintro e w1 ⟨rfl, rfl⟩
        go_wp2
        go_ret2
        exact ⟨by rw [HR.out]; rfl, hdr⟩
      | false =>
        rw [hzo] at hz
        have hr : res = (canonO (bopt .quo (wS v u k) (wA v u k)), 0) := by rw [HRES.out, if_neg (by rw [hzo]; decide)]
        obtain ⟨q, m, hq, hqr⟩ := op_run (.inr (.inr rfl)) 24 hs ht wr
        have KC := Lib.hid (fun W => rcanon_any q hqr.1 W)
        rw [hqr.canon, show canonO (bopt .quo (wS v u k) (wA v u k)) = res.1 from by rw [hr]] at KC
        have HR := Lib.hid hr
        clear hr hzo hs ht hqr
        go_wp2_with fail
        refine (KC.out _).mono ?_
        rintro e w1 ⟨rfl, rfl⟩
        go_wp2
        go_ret2
        have h2 : res.2 = 0 := by rw [HR.out]
        refine ⟨?_, Drew.trans hdr ⟨m, rfl⟩⟩
        rw [two, h2]; rfl

theorem bad_yes {x : Nat} (h : bad x = true) : isN x = true ∨ (isN x = false ∧ (ord x 0 == some .lt) = true) ∨ (isN x = false ∧ (ord x 0 == some .lt) = false ∧ (ord x 9218868437227405311 == some .gt) = true) := by
  unfold bad at h
  cases h1 : isN x
  · cases h2 : (ord x 0 == some .lt)
    · rw [h1, h2] at h
      exact .inr (.inr ⟨rfl, rfl, by simpa using h⟩)
    · exact .inr (.inl ⟨rfl, rfl⟩)
  · exact .inl rfl

set_option maxRecDepth 100000 in
set_option maxHeartbeats 4000000 in
theorem rweigh_bad (a b : Option Addr) (len c d : Nat) (u : List Nat) (hlen : len ≤ 9223372036854775807) (w : World) (hu : Fls w b len u) (hb : fine u len = false) :
    Calls Tryd.prog 27 #[.slice a len c, .slice b len d] w fun e w' => e = two (0, 18) ∧ w = w' := by
  have HU := Lib.hid hu
  have HB := Lib.hid hb
  clear hu hb
  go_enter Tryd.func27, Tryd.ntmps27
  go_wp2
  go_loop [6] (fun i => ∃ k : Nat, k ≤ len ∧ i = .int .i64 k ∧ fine u k = true) (fun i => len - (intOf i).toNat)
  case atStart => exact ⟨0, by omega, rfl, rfl⟩
  case round =>
    obtain ⟨k, hk, rfl, hfine⟩ := hrel
    have hlt : (k : Int) < len := by
      rcases Nat.lt_or_ge k len with h | h
      · omega
      · have : k = len := by omega
        subst this
        rw [HB.out] at hfine; cases hfine
    obtain ⟨g, off, rfl, hg, hcell⟩ := HU.out.2.2 (by omega)
    have hck := hcell k (by omega)
    have hxl := HU.out.get_lt k
    have hs : fine u (k + 1) = (fine u k && !bad (u.getD k 0)) := rfl
    rw [hfine, Bool.true_and] at hs
    have HFI := Lib.hid hfine
    generalize u.getD k 0 = x at *
    have KN := Lib.hid (rnan_any x hxl w)
    clear hcell hfine
    cases hbx : bad x with
    | false =>
      obtain ⟨e1, e2, e3⟩ := bad_no hbx
      rw [hbx] at hs
      rw [e1] at KN
      unfold ord at e2 e3
      have HS := Lib.hid hs
      clear hs hbx e1
      go_wp2_with fail
      refine KN.out.mono ?_
      rintro e w1 ⟨rfl, rfl⟩
      go_wp2
      go_round
      case rel => exact ⟨k + 1, by omega, by go_num, by rw [HS.out]; rfl⟩
      case measure => simp [intOf]; omega
    | true =>
      rcases bad_yes hbx with e1 | ⟨e1, e2⟩ | ⟨e1, e2, e3⟩
      · rw [e1] at KN
        clear hs hbx e1
        go_wp2_with fail
        refine KN.out.mono ?_
        rintro e w1 ⟨rfl, rfl⟩
        go_wp2
        go_ret2
        exact ⟨rfl, rfl⟩
      · rw [e1] at KN
        unfold ord at e2
        clear hs hbx e1
        go_wp2_with fail
        refine KN.out.mono ?_
        rintro e w1 ⟨rfl, rfl⟩
        go_wp2
        go_ret2
        exact ⟨rfl, rfl⟩
      · rw [e1] at KN
        unfold ord at e2 e3
        clear hs hbx e1
        go_wp2_with fail
        refine KN.out.mono ?_
        rintro e w1 ⟨rfl, rfl⟩
        go_wp2
        go_ret2
        exact ⟨rfl, rfl⟩

/-- Weigh, whatever the marks and the weights. -/
theorem weigh_any (a b : Option Addr) (n m c d : Nat) (v u : List Nat) (hn : n ≤ 9223372036854775807) (w : World) (hv : Fls w a n v) (hu : Fls w b m u) :
    Calls Tryd.prog 26 #[.slice a n c, .slice b m d] w fun e w' => e = two (weigh v u) ∧ Drew w w' := by
  unfold weigh
  rw [hv.1, hu.1]
  by_cases h : n = m
  · subst h
    rw [if_neg (by simp)]
    cases hf : fine u n with
    | false => rw [if_pos rfl]; exact (weigh_bad a b n c d u hn w hu hf).mono fun _ _ ⟨he, hw⟩ => ⟨he, hw ▸ Drew.refl _⟩
    | true => rw [if_neg (by decide)]; exact weigh_good a b n c d v u hn w hv hu hf
  · rw [if_pos h]; exact (weigh_len a b n m c d h w).mono fun _ _ ⟨he, hw⟩ => ⟨he, hw ▸ Drew.refl _⟩

/-- Weigh, whatever the marks and the weights. -/
theorem rweigh_any (a b : Option Addr) (n m c d : Nat) (v u : List Nat) (hn : n ≤ 9223372036854775807) (w : World) (hv : Fls w a n v) (hu : Fls w b m u) :
    Calls Tryd.prog 27 #[.slice a n c, .slice b m d] w fun e w' => e = two (weigh v u) ∧ Drew w w' := by
  unfold weigh
  rw [hv.1, hu.1]
  by_cases h : n = m
  · subst h
    rw [if_neg (by simp)]
    cases hf : fine u n with
    | false => rw [if_pos rfl]; exact (rweigh_bad a b n c d u hn w hu hf).mono fun _ _ ⟨he, hw⟩ => ⟨he, hw ▸ Drew.refl _⟩
    | true => rw [if_neg (by decide)]; exact rweigh_good a b n c d v u hn w hv hu hf
  · rw [if_pos h]; exact (rweigh_len a b n m c d h w).mono fun _ _ ⟨he, hw⟩ => ⟨he, hw ▸ Drew.refl _⟩

end Go.Proofs.YtfeajbaaoflfeaaDoor.Mk
