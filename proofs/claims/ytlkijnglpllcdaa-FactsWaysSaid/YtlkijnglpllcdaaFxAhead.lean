/-
  The walk of ahead, and the closures that tell where one goes.
-/
import Derived.Test.YtlkijnglpllcdaaFxLone
namespace Go.Proofs.Ytlkijnglpllcdaa.Fx
open Go.RowKit
set_option maxRecDepth 100000

/-- The symbols up to the first that has a word of one or more. -/
def aheadGo (L : List Int) : List Int → List Int
  | [] => []
  | s :: r => if 0 < shOf L s then [s] else s :: aheadGo L r
def aheadL (L : List Int) (r : List Int) : List Int := if shRow L r = -1 then [] else aheadGo L r

/-- The first few of a row of numbers. -/
theorem ints_pre {P : Nat → Prop} {W : World} {l : List Int} {A : Option Addr} {cap b : Nat} (h3 : 0 < l.length → A = some ⟨b, 0, none⟩ ∧ b < W.heap.size ∧ P b) (h4 : ∀ (i : Nat) (h : i < l.length), W.cell? ⟨b, i, none⟩ = some (.int .i64 l[i])) (hc : l.length ≤ cap) (k : Nat) (hk : k ≤ l.length) : IntsAt P W (l.take k) (.slice A k cap) := by
  have e : (l.take k).length = k := by rw [List.length_take]; omega
  refine ⟨A, cap, b, by rw [e], by omega, fun h0 => h3 (by omega), fun i hi => ?_⟩
  rw [e] at hi
  rw [h4 i (by omega)]
  simp

set_option maxHeartbeats 4000000 in
theorem ahead_any (L r : List Int) (hL : LensOk L) (hr : ∀ s ∈ r, s < (L.length : Int)) (hn : r.length ≤ 1048576) (P Q : Nat → Prop) (W : World) (v u : Value) (h : IntsAt P W r v) (hu : IntsAt Q W L u) :
    Calls Try.prog 30 #[v, u] W fun e w' => (∃ u', e = .returned u' ∧ IntsAt P W (aheadL L r) u') ∧ W = w' := by
  have KS := fun s (hs : s < (L.length : Int)) => shortOf_any L s hs Q W u hu
  have KR := shortRow_any L r hL hr hn P Q W v u h hu
  obtain ⟨c0, hc0⟩ : ∃ c0, c0 = shRow L r := ⟨_, rfl⟩
  rw [← hc0] at KR
  obtain ⟨A, cap, b, rfl, hcap, h3, h4⟩ := h
  have HP := Lib.hid (fun k (hk : k ≤ r.length) => ints_pre (A := A) (cap := cap) h3 h4 hcap k hk)
  obtain ⟨B, cb, rfl⟩ := hu.form
  obtain ⟨R, hR⟩ : ∃ R, R = aheadL L r := ⟨_, rfl⟩
  rw [← hR]
  have HR := Lib.hid hR
  have HC0 := Lib.hid hc0
  obtain ⟨n, hn1⟩ : ∃ n, n = r.length := ⟨_, rfl⟩
  rw [← hn1] at hcap h3 hn KR ⊢
  have HN1 := Lib.hid hn1
  have H3 := Lib.hid h3
  have H4 := Lib.hid h4
  have HL := Lib.hid hr
  have HKS := Lib.hid KS
  have HKR := Lib.hid KR
  have HOK := Lib.hid hL
  generalize L.length = nl at HL HKS HKR ⊢
  clear hR hn1 h3 h4 hr KS hu hL KR hc0
  go_enter Try.func30, Try.ntmps30
  by_cases hm : c0 = -1
  · have HT := Lib.hid (show R = [] by rw [HR.out, aheadL, if_pos (by rw [← HC0.out, hm])])
    have e1 : ((c0 : Int) == -1) = true := by rw [hm]; rfl
    clear hm
    go_wp2_with fail
    refine HKR.out.mono ?_
    rintro e w3 ⟨rfl, rfl⟩
    go_wp2
    go_ret
    exact ⟨⟨_, rfl, by rw [HT.out]; exact IntsAt.nil _ _ _ _⟩, rfl⟩
  have HG := Lib.hid (show R = aheadGo L r by rw [HR.out, aheadL, if_neg (by rw [← HC0.out]; exact hm)])
  have e1 : ((c0 : Int) == -1) = false := by rw [beq_eq_false_iff_ne]; exact hm
  clear hm
  go_wp2_with fail
  refine HKR.out.mono ?_
  rintro e w3 ⟨rfl, rfl⟩
  go_wp2
  go_loop [13] (fun i => ∃ k : Nat, k ≤ n ∧ i = .int .i64 k ∧ R = r.take k ++ aheadGo L (r.drop k)) (fun i => n - (intOf i).toNat)
  case atStart => exact ⟨0, Nat.zero_le _, rfl, HG.out⟩
  case round =>
    obtain ⟨k, hk, rfl, hE⟩ := hrel
    have HE := Lib.hid hE
    clear hE
    by_cases hlt : k < n
    · have h1 : k < r.length := by rw [← HN1.out]; exact hlt
      obtain ⟨rfl, hb, _⟩ := H3.out (by omega)
      have x0 := H4.out k h1
      have hst := HE.out
      rw [List.drop_eq_getElem_cons h1, aheadGo] at hst
      have KC := HKS.out r[k] (HL.out _ (List.getElem_mem h1))
      have htk := List.take_succ_eq_append_getElem h1
      obtain ⟨z, hz⟩ : ∃ z, z = r[k] := ⟨_, rfl⟩
      rw [← hz] at x0 KC hst htk
      obtain ⟨c, hc⟩ : ∃ c, c = shOf L z := ⟨_, rfl⟩
      rw [← hc] at KC hst
      have HST := Lib.hid hst
      have HTK := Lib.hid htk
      have HKC := Lib.hid KC
      clear hst KC hz hc htk
      by_cases hp : 0 < c
      · have HT := Lib.hid (show R = r.take (k + 1) by rw [HST.out, if_pos hp, HTK.out])
        have HI := Lib.hid (HP.out (k + 1) (by omega))
        go_wp2_with fail
        refine HKC.out.mono ?_
        rintro e w3 ⟨rfl, rfl⟩
        go_wp2
        go_ret
        exact ⟨⟨_, rfl, by rw [HT.out]; exact HI.out⟩, rfl⟩
      · have HT := Lib.hid (show R = r.take (k + 1) ++ aheadGo L (r.drop (k + 1)) by rw [HST.out, if_neg hp, HTK.out]; simp)
        go_wp2_with fail
        refine HKC.out.mono ?_
        rintro e w3 ⟨rfl, rfl⟩
        go_wp2
        go_round
        case rel => exact ⟨k + 1, by omega, by simp, HT.out⟩
        case measure => simp [intOf]; omega
    · have HT := Lib.hid (show R = r by rw [HE.out, List.drop_eq_nil_of_le (by have := HN1.out; omega), List.take_of_length_le (by have := HN1.out; omega)]; simp [aheadGo])
      have HI := Lib.hid (HP.out n (by have := HN1.out; omega))
      go_wp2
      go_ret
      exact ⟨⟨_, rfl, by rw [HT.out]; have := HI.out; rwa [List.take_of_length_le (by have := HN1.out; omega)] at this⟩, rfl⟩
end Go.Proofs.Ytlkijnglpllcdaa.Fx
