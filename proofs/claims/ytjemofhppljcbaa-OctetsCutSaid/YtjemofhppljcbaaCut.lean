/-
  OctetsCut: of any numbers and any place to cut the call returns true: of written bytes that are cut off the numbers are read that are whole, and the next one is an error. For every list and every number; no condition of ours.
-/
import Derived.Test.YtjemofhppljcbaaOctCutMath
import Derived.ProofKit
import Derived.OpenShut
import Derived.ShutString
import Derived.ChangeOld
namespace Go.Proofs.Ytjemofhppljcbaa.octetsCut
open Go.ChangeShapes Go.WideShapes Go.ChangeAt Go.RowKit Oct
open Go.ChangeMaps (open_string shut_string)
set_option linter.unusedVariables false

theorem own : ownKnob Try.prog.godebug = none := by kernel_rfl
theorem laidOut : laidOutB Try.prog = true := by kernel_rfl
theorem intinfo : (Try.prog.info? 3).map (fun i => (i.zero, i.size, i.bytes)) = some (some (.int .i64 0), 1, 8) := by kernel_rfl

theorem not_ours_int : ¬ Ours 3 := by unfold Ours; decide
theorem getD_of (zs : List Int) (k : Nat) (h : k < zs.length) : zs.getD k 0 = zs[k] := by simp [List.getD, List.getElem?_eq_getElem h]
theorem tmod_bd (x : Int) (n : Nat) : -(n : Int) ≤ x.tmod ((n : Int) + 1) ∧ x.tmod ((n : Int) + 1) ≤ n := by
  have h := Int.natAbs_tmod x ((n : Int) + 1)
  have h2 : ((n : Int) + 1).natAbs = n + 1 := by omega
  rw [h2] at h
  have := Nat.mod_lt x.natAbs (show 0 < n + 1 by omega)
  omega
/-- Where the first k numbers end. -/
def ends (zs : List Int) (k : Nat) : List Value := (List.range k).map fun j => .int .i64 ((eAll zs (j + 1)).length : Int)
theorem ends_succ (zs : List Int) (k : Nat) : ends zs (k + 1) = ends zs k ++ [.int .i64 ((eAll zs (k + 1)).length : Int)] := by
  unfold ends
  rw [List.range_succ, List.map_append]; rfl

/-- What the walk knows of the list that came in. -/
def Came (w : World) (a : Option Addr) (len : Nat) (zs : List Int) : Prop :=
  len ≤ zs.length ∧ (0 < len → ∃ b off, a = some ⟨b, off, none⟩ ∧ b < w.heap.size ∧ ∀ i, i < len → w.cell? ⟨b, off + i, none⟩ = some (.int .i64 (zs.getD i 0)))

theorem bytes_text (l : List UInt8) (t : ByteArray) (ht : bs t = l) (g c : Nat) (W : World) (h : OutSt W g c (some l)) :
    Calls Try.prog 17 #[.pointer (some ⟨g, 0, none⟩)] W fun e w' => e = .returned (.tuple #[.string t, .bool true]) ∧ Drew W w' := by
  have := bytes_any g c (some l) W h
  subst ht
  exact this

set_option maxRecDepth 100000 in
set_option maxHeartbeats 2000000 in
theorem walk (a : Option Addr) (len cap : Nat) (zs : List Int) (cut : Int) (w : World) (hc : Came w a len zs) (hm : len ≤ 9223372036854775807) (hcut : (Lit.int .i64 cut).wf = true) :
    Calls Try.prog 7 #[.slice a len cap, .int .i64 cut] w fun e w' => e = .returned (.bool true) ∧ Below w.heap.size w w' := by
  obtain ⟨i0, hi0, hz0, hz1, hz2⟩ := info_parts intinfo
  have HC := Lib.hid hc
  clear hc
  go_enter Try.func7, Try.ntmps7
  go_wp2_with fail
  refine (speaks_true _).mono ?_
  rintro e w1 ⟨rfl, b1⟩
  have HN := Lib.hid (OutSt.new w1)
  have hs1 := b1.size
  go_wp2
  go_loopw [6, 7] (fun v i wr => ∃ (k : Nat) (A : Option Addr) (cap2 : Nat), k ≤ 40 ∧ k ≤ len ∧ i = .int .i64 k ∧ v = .slice A k cap2 ∧ wr.ownsRow w.heap.size 3 1 (.slice A k cap2) k (ends zs k) ∧ OutSt wr w1.heap.size (w1.heap.size + 1) (some (eAll zs k)) ∧ Below w.heap.size w wr) (fun _ i _ => 40 - (intOf i).toNat)
  case atStart => exact ⟨0, none, 0, by omega, by omega, rfl, rfl, World.ownsRow_nil _ _ _ _, HN.out, b1.trans ((Below.refl _ _).alloc hs1 _)⟩
  case round =>
    obtain ⟨k, A, cap2, hk1, hk2, rfl, rfl, hown, hout, hbel⟩ := hrel
    have HO := Lib.hid hown
    have HU := Lib.hid hout
    have HB := Lib.hid hbel
    clear hown hout hbel
    by_cases hlt : (k : Int) < len ∧ (k : Int) < 40
    · obtain ⟨hl1, hl2⟩ := hlt
      obtain ⟨b, off, rfl, hb, hcell⟩ := HC.out.2 (by omega)
      have hzl := HC.out.1
      have hck : wr.cell? ⟨b, off + k, none⟩ = some (.int .i64 (zs.getD k 0)) := (HB.out.cell (p := ⟨b, off + k, none⟩) hb).trans (hcell k (by omega))
      have hmask : bits .and .i64 (zs.getD k 0) 9007199254740991 = low (zs.getD k 0) := and_low _
      clear hcell
      obtain ⟨z, hz⟩ : ∃ z, z = zs.getD k 0 := ⟨_, rfl⟩
      rw [← hz] at hck hmask
      have HZ := Lib.hid hz
      clear hz
      have hlen := eAll_len zs k
      have hlen2 := eAll_len zs (k + 1)
      obtain ⟨t, ht⟩ : ∃ t : ByteArray, t = ⟨(eAll zs (k + 1)).toArray⟩ := ⟨_, rfl⟩
      have hbt : bs t = eAll zs (k + 1) := by rw [ht]
      have hts : t.size = (eAll zs (k + 1)).length := by rw [← hbt]; rfl
      have HBT := Lib.hid hbt
      have HTS := Lib.hid hts
      clear ht hbt hts
      go_wp2_with fail
      refine (int_any _ _ _ _ _ HU.out (by simp only [Oct.len, Option.getD_some]; omega)).mono ?_
      rintro e w2 ⟨rfl, k1, k2⟩
      have hst : app (some (eAll zs k)) (eInt (low z)) = some (eAll zs (k + 1)) := by
        have hz := HZ.out
        rw [eInt, if_neg (low_rng z), eAll_succ zs k (by omega), hz, getD_of zs k (by omega)]
        rfl
      rw [hst] at k1
      clear hst
      have HU1 := Lib.hid k1
      have HO1 := Lib.hid (k2.own HO.out not_ours_int)
      have HB1 := Lib.hid (HB.out.trans (k2.below (B := w.heap.size) (by omega) (by omega)))
      clear k1 k2
      go_wp2_with fail
      refine (bytes_text _ t HBT.out _ _ _ HU1.out).mono ?_
      rintro e w3 ⟨rfl, k3⟩
      have HU2 := Lib.hid (HU1.out.drew k3)
      have HO2 := Lib.hid (k3.own HO1.out)
      have HB2 := Lib.hid (HB1.out.trans (k3.below w.heap.size))
      have hsz3 := (HB1.out.trans (k3.below w.heap.size)).size
      clear k3
      go_wp2_with ((at_builtin; refine wpList_append_own _ rfl _ _ 36 rfl w.heap.size 3 i0 (.int .i64 0) 1 8 Try.underlying36 hi0 hz0 hz1 hz2 rfl (by decide) _ _ _ rfl (HO2.out.alloc _) ⟨w3.heap.size, 0, none⟩ 1 1 [.int .i64 t.size] rfl rfl ?c1 ?c2 ?c3 ?c4 ?c5 ?_))
      case c1 => exact cell_one_new _ _ _
      case c2 => simp [Value.oneCell']
      case c3 => unfold maxLen; omega
      case c4 => omega
      case c5 => simp; omega
      intro v' w4 hown4 hgrow4 _
      have HO4 := Lib.hid hown4
      have HG4 := Lib.hid hgrow4
      clear hown4 hgrow4
      go_wp2
      obtain ⟨A', cap', hv⟩ := slice_of HO4.out
      refine ⟨⟨k + 1, A', cap', by omega, by omega, by go_num, hv, ?_, ?_, ?_⟩, by simp [intOf]; omega⟩
      · rw [ends_succ, ← HTS.out, ← hv]; exact HO4.out
      · exact (HU2.out.below ((Below.refl _ _).alloc (Nat.le_refl _) _)).grown HG4.out (HO2.out.alloc _) not_ours_int
      · exact ((HB2.out.alloc hsz3 _).grown HG4.out (by simp; omega) (fun r hr => by
          rcases HO2.out.2 with ⟨h1, _⟩ | ⟨r', cp, cur, h1, h2, _⟩
          · rw [h1] at hr; simp [Value.ownBlock] at hr
          · rw [h1] at hr; simp [Value.ownBlock] at hr; omega))
    · have HL := Lib.hid hlt
      obtain ⟨t, ht⟩ : ∃ t : ByteArray, t = ⟨(eAll zs k).toArray⟩ := ⟨_, rfl⟩
      have hbt : bs t = eAll zs k := by rw [ht]
      have hts : t.size = (eAll zs k).length := by rw [← hbt]; rfl
      have hlen := eAll_len zs k
      have htb : t.size ≤ 320 := by omega
      have HBT := Lib.hid hbt
      have HTS := Lib.hid hts
      have HLEN := Lib.hid hlen
      clear hbt hts hlen ht
      have hcase : (len : Int) ≤ k ∨ ((k : Int) < len ∧ 40 ≤ (k : Int)) := by omega
      clear hlt
      rcases hcase with h1 | ⟨h1, h2⟩
      all_goals
        go_wp2_with fail
        refine (bytes_text _ t HBT.out _ _ _ HU.out).mono ?_
        rintro e w3 ⟨rfl, k3⟩
        have HO2 := Lib.hid (k3.own HO.out)
        have HB2 := Lib.hid (HB.out.trans (k3.below w.heap.size))
        clear k3
        obtain ⟨M, hM⟩ : ∃ M, cut.tmod ((t.size : Int) + 1) = M := ⟨_, rfl⟩
        have hMb := tmod_bd cut t.size
        rw [hM] at hMb
        obtain ⟨hMl, hMh⟩ := hMb
        obtain ⟨C, hCl, hC⟩ : ∃ C : Nat, C ≤ t.size ∧ (M + (t.size : Int) + 1) % ((t.size : Int) + 1) = C := by
          have e1 := Int.emod_nonneg (M + (t.size : Int) + 1) (show ((t.size : Int) + 1) ≠ 0 by omega)
          have e2 := Int.emod_lt_of_pos (M + (t.size : Int) + 1) (show 0 < ((t.size : Int) + 1) by omega)
          exact ⟨((M + (t.size : Int) + 1) % ((t.size : Int) + 1)).toNat, by omega, by omega⟩
        go_wp2_with fail
        try simp only [hC]
        clear hM hC
        refine (open_any _ _).mono ?_
        rintro e w5 ⟨rfl, rfl⟩
        have hrest : cutAt zs k C 0 = .ok (bs (t.extract 0 C)) := by
          have e1 : bs (t.extract 0 C) = (bs t).take C := by show (t.extract 0 C).data.toList = _; rw [Lib.extract_data]; rfl
          rw [cutAt, if_pos (by simp [eAll]), e1, HBT.out]
          simp [eAll]
        have hat := At.new 79 (t.extract 0 C) w3 (by rw [ByteArray.size_extract]; omega)
        rw [← hrest] at hat
        have HA := Lib.hid hat
        have HO3 := Lib.hid (HO2.out.alloc (.cells #[.string (t.extract 0 C), .int .i64 0] 79))
        have HB3 := Lib.hid (HB2.out.alloc HB2.out.size (.cells #[.string (t.extract 0 C), .int .i64 0] 79))
        clear hrest hat
        go_wp2_with fail
        go_loopw [13, 14, 15] (fun i _ _ wq => ∃ j : Nat, j ≤ k ∧ i = .int .i64 j ∧ At 79 wq w3.heap.size (cutAt zs k C j) ∧ wq.ownsRow w.heap.size 3 1 (.slice A k cap2) k (ends zs k) ∧ Below w.heap.size w wq) (fun i _ _ _ => k - (intOf i).toNat)
        case atStart => exact ⟨0, by omega, rfl, HA.out, HO3.out, HB3.out⟩
        case round =>
          obtain ⟨j, hj, rfl, hat, hown, hbel⟩ := hrel
          have HA1 := Lib.hid hat
          have HO4 := Lib.hid hown
          have HB4 := Lib.hid hbel
          clear hat hown hbel
          by_cases hjk : (j : Int) < k
          · obtain ⟨b, off, rfl, hb, hcell⟩ := HC.out.2 (by omega)
            have hzl := HC.out.1
            obtain ⟨r, cp, cur, hv, hrB, _⟩ : ∃ r cp cur, Value.slice A k cap2 = .slice (some ⟨r, 0, none⟩) k cp ∧ w.heap.size ≤ r ∧ cur = (#[] : Array Value) := by
              rcases HO4.out.2 with ⟨_, h5⟩ | ⟨r, cp, cur, hv, hr, _⟩
              · omega
              · exact ⟨r, cp, #[], hv, hr, rfl⟩
            injection hv with hv hv1 hv2
            clear hv1 hv2
            subst hv
            have hrc : ∀ W : World, W.ownsRow w.heap.size 3 1 (.slice (some ⟨r, 0, none⟩) k cap2) k (ends zs k) → W.cell? ⟨r, j, none⟩ = some (.int .i64 ((eAll zs (j + 1)).length : Int)) := fun W hW => by
              have := hW.cells (g := r) rfl j (.int .i64 ((eAll zs (j + 1)).length : Int)) (by
                unfold ends
                rw [List.getElem?_map, List.getElem?_range (by omega)]
                rfl)
              have e : (⟨r, 0, none⟩ : Addr).add j = ⟨r, j, none⟩ := by unfold Addr.add; split <;> simp_all
              rwa [e] at this
            have hmask : bits .and .i64 (zs.getD j 0) 9007199254740991 = low (zs.getD j 0) := and_low _
            have hzj := getD_of zs j (by omega)
            obtain ⟨z, hz⟩ : ∃ z, z = zs.getD j 0 := ⟨_, rfl⟩
            rw [← hz] at hmask hzj
            have hcz : ∀ W : World, Below w.heap.size w W → W.cell? ⟨b, off + j, none⟩ = some (.int .i64 z) := fun W hW => by
              rw [hz]; exact (hW.cell (p := ⟨b, off + j, none⟩) hb).trans (hcell j (by omega))
            have HRC := Lib.hid hrc
            have HCZ := Lib.hid hcz
            clear hrc hcz hz hcell
            obtain ⟨l, hl⟩ : ∃ l, l = (eAll zs (j + 1)).length := ⟨_, rfl⟩
            have HI := Lib.hid (int_in_any w3.heap.size _ _ HA1.out)
            by_cases hw : (eAll zs (j + 1)).length ≤ C
            · have h5 := cut_whole zs k C j (by omega) (by omega) hw
              have H6 := Lib.hid h5.2
              rw [h5.1, ← hzj] at HI
              rw [← hl] at HRC hw
              clear h5 hzj hl
              go_wp2_with fail
              refine HI.out.mono ?_
              rintro e w6 ⟨rfl, k1, k2⟩
              have ho6 := k2.own HO4.out (At.cells HA1.out).choose_spec.choose_spec (by decide)
              have hb6 := HB4.out.trans (k2.below (B := w.heap.size) (by have := HB2.out.size; omega) HB4.out.size)
              have hr6 := HRC.out w6 ho6
              have hz6 := HCZ.out w6 hb6
              have he6 := err_any w3.heap.size _ w6 k1
              rw [H6.out] at he6
              have HE6 := Lib.hid he6
              have HO6 := Lib.hid ho6
              have HB6 := Lib.hid hb6
              have HK1 := Lib.hid k1
              have hwi : (l : Int) ≤ C := by omega
              clear ho6 hb6 he6 k1 k2
              go_wp2_with fail
              refine HE6.out.mono ?_
              rintro e w' ⟨rfl, rfl⟩
              go_wp2
              refine ⟨⟨j + 1, by omega, by go_num, HK1.out, HO6.out, HB6.out⟩, by simp [intOf]; omega⟩
            · have h5 := cut_part zs k C j (by omega) (by omega) hw
              have H6 := Lib.hid h5.2
              rw [h5.1] at HI
              rw [← hl] at HRC hw
              clear h5 hzj hl
              go_wp2_with fail
              refine HI.out.mono ?_
              rintro e w6 ⟨rfl, k1, k2⟩
              have ho6 := k2.own HO4.out (At.cells HA1.out).choose_spec.choose_spec (by decide)
              have hb6 := HB4.out.trans (k2.below (B := w.heap.size) (by have := HB2.out.size; omega) HB4.out.size)
              have hr6 := HRC.out w6 ho6
              have he6 := err_any w3.heap.size _ w6 k1
              have HE6 : Hid (Calls Try.prog 20 #[.pointer (some ⟨w3.heap.size, 0, none⟩)] w6 fun e w' => e = .returned (.int .i64 3) ∧ w6 = w') := he6
              have HO6 := Lib.hid ho6
              have HB6 := Lib.hid hb6
              have HK1 := Lib.hid k1
              have hwi : (C : Int) < l := by omega
              clear ho6 hb6 he6 k1 k2
              go_wp2_with fail
              refine HE6.out.mono ?_
              rintro e w' ⟨rfl, rfl⟩
              go_wp2_with fail
              refine HE6.out.mono ?_
              rintro e w' ⟨rfl, rfl⟩
              go_wp2
              refine ⟨⟨j + 1, by omega, by go_num, by rw [H6.out]; exact HK1.out, HO6.out, HB6.out⟩, by simp [intOf]; omega⟩
          · go_wp2
            go_ret
            exact ⟨rfl, HB4.out⟩

set_option maxRecDepth 100000 in
theorem lifted (os : Os) (started : os.Started) (H : Type) (enc : TypeId × Value → H) :
    ReturnsInHanded {} Try.checked os 7 .any (Rows.octetsCutSpec.pre6 enc Try.prog Try.f7 Rows.octetsCutRow.domain false) (Rows.octetsCutSpec.post enc Try.prog Try.f7 false true false false) := by
  refine returnsInHanded_of_change (C := Try.checked) own started (by kernel_rfl) Try.func7
    (ChangeSpec.witness6 (enc := enc) (C := Try.checked) false ⟨#[], #[.slice none 0 0, .int .i64 0], []⟩ 8 (by kernel_rfl) (by kernel_rfl) (by kernel_rfl) (by kernel_rfl)) ?_
  intro W base args ds gs before hval0 hW hcnd _
  have hval : ∀ (j : Nat) t v, Try.f7.params[j]? = some t → args[j]? = some v → Value.okWide Try.prog W .any base t v := hval0
  have hW' := hW
  obtain ⟨p, q, hA0, hV, rfl, hfz, hnd⟩ := hW
  have hA : DataW.TrodAll enc Try.prog W 0 (fun _ => true) true Try.f7.params.toList args.toList ds p := hA0
  rw [Try.params7] at hA hval
  obtain ⟨v0, vs0, d0, ds0, p0, q0, hargs, rfl, rfl, h0, r0⟩ := trodAll_cons hA
  obtain ⟨v1, vs1, d1, ds1, p1, q1, rfl, rfl, rfl, h1, r1⟩ := trodAll_cons r0
  obtain ⟨rfl, rfl, rfl⟩ := trodAll_nil r1
  obtain rfl : args = #[v0, v1] := by cases args; simp_all
  obtain ⟨rfl, rfl⟩ := trodVars_none hV
  obtain ⟨a0, len0, cap0, rfl⟩ := okWide_slice Try.underlying36 (hval 0 36 v0 rfl rfl)
  have k0 := h0
  have lt0 : ∀ x ∈ p0, x.block < W.heap.size := by obtain ⟨m, hm⟩ := k0; exact DataW.trod_lt m _ _ _ hm
  obtain ⟨z0, w0, hm0⟩ : ∃ zs, Came W a0 len0 zs ∧ len0 ≤ 9223372036854775807 := by
    obtain ⟨fuel, hf⟩ := h0
    rcases open_ints Try.underlying36 Try.underlying3 (by kernel_rfl) hf with ⟨hcs, _⟩ | ⟨x, l, c, zs, hcs, _, hl, hm, hz, _, hcell, hwz⟩
    · simp [Value.cells] at hcs
      obtain ⟨rfl, rfl, rfl⟩ := hcs
      exact ⟨[], ⟨by simp, fun h => absurd h (by omega)⟩, by omega⟩
    · simp [Value.cells] at hcs
      obtain ⟨rfl, rfl, rfl⟩ := hcs
      have hz' : zs.length = cap0 := by simpa using hz
      unfold maxLen at hm
      refine ⟨zs, ⟨by omega, fun h => ?_⟩, by omega⟩
      obtain ⟨b, off, spot⟩ := x
      have hc0 := hcell 0 (by omega)
      have hspot : spot = none := by simpa [Addr.add] using World.cell?_spot hc0
      subst hspot
      refine ⟨b, off, rfl, ?_, fun i hi => ?_⟩
      · have := World.block_lt_of_cell? W _ hc0
        simpa [Addr.add] using this
      · have e : (⟨b, off, none⟩ : Addr).add i = ⟨b, off + i, none⟩ := by unfold Addr.add; split <;> simp_all
        rw [← e]
        exact hcell i (by omega)
  obtain ⟨a1, rfl, rfl, rfl, w1⟩ := open_int Try.underlying3 (hval 1 3 v1 rfl rfl) h1
  clear hA0 hval0
  refine (walk a0 len0 cap0 z0 a1 W w0 hm0 w1).mono fun e W' ⟨he, bel⟩ => ?_
  subst he
  exact ⟨_, rfl, _, _, _, [], _, [], hW', trodAll_mk1 (shut_bool Try.underlying4 _), (trodAll_cons_mk (Below.trod laidOut (by kernel_rfl) (of_decide_eq_true (by kernel_rfl)) k0 bel lt0) (trodAll_cons_mk (shut_int Try.underlying3 w1) trodAll_mk0)), rfl, bel.frame _, fun h => by cases h⟩

theorem over : Rows.octetsCutRow.holds Try.pinned (OpenSpec.ofChange Rows.octetsCutSpec) :=
  OpenClaim.holds_of_wide 7 Try.f7 rfl rfl rfl rfl rfl rfl rfl ⟨rfl, rfl, rfl, rfl, rfl⟩ rfl rfl rfl rfl rfl (by kernel_rfl) Try.func7 (by kernel_rfl)
    (of_decide_eq_true (by kernel_rfl)) (by unfold Func.isWrapper; first | (rw [if_pos (by decide +kernel)]; kernel_rfl) | (rw [if_neg (by decide +kernel)]; exact ⟨rfl, rfl⟩))
    (fun os started H enc _ => lifted os started H enc)

theorem proved : Rows.OctetsCutSaid := over
#print axioms proved
end Go.Proofs.Ytjemofhppljcbaa.octetsCut
