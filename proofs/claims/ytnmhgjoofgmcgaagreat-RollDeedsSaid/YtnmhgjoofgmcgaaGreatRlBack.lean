/-
  Layer 18: what was put is got again (plain words).
-/
import Derived.Test.YtnmhgjoofgmcgaaGreatRlGt
import Derived.Test.YtnmhgjoofgmcgaaGreatRlPut
import Derived.Test.YtnmhgjoofgmcgaaGreatOctMath
namespace Go.Proofs.YtnmhgjoofgmcgaaGreat.Oct
open Go.RowKit
set_option linter.unusedSimpArgs false
set_option linter.unusedVariables false
theorem rInt_of (n : Int) (R : List UInt8) (h : ¬ rng n) : rInt (.ok (pb n ++ R)) = (n, .ok R) := by
  have hg := gb_pb n R h
  simp only [rInt, hg]
  rw [if_pos trivial, List.drop_left]
theorem eInt_some {n : Int} {l : List UInt8} (h : eInt n = some l) : ¬ rng n ∧ l = pb n := by
  unfold eInt at h
  split at h
  · cases h
  · rename_i hr
    injection h with h
    exact ⟨hr, h.symm⟩
theorem rLen_of (n : Nat) (m : Int) (R : List UInt8) (hn : n ≤ 65536) (hm : (n : Int) ≤ m) : rLen m (.ok (pb n ++ R)) = ((n : Int), .ok R) := by
  have hr : ¬ rng (n : Int) := by unfold rng; omega
  rw [rLen, rInt_of _ R hr]
  show (if (n : Int) < 0 then _ else if m < (n : Int) then _ else _) = _
  rw [if_neg (by omega), if_neg (by omega)]
theorem eLen_some {n : Nat} {l : List UInt8} (h : eLen (n : Int) = some l) : n ≤ 65536 ∧ l = pb n := by
  unfold eLen at h
  split at h
  · cases h
  · exact ⟨by omega, (eInt_some h).2⟩
theorem app_some {a b : Option (List UInt8)} {l : List UInt8} (h : app a b = some l) : ∃ x y, a = some x ∧ b = some y ∧ l = x ++ y := by
  cases a with
  | none => simp [app] at h
  | some x =>
    cases b with
    | none => simp [app] at h
    | some y =>
      simp only [app] at h
      injection h with h
      exact ⟨x, y, rfl, rfl, h.symm⟩
theorem rText_of (l e R : List UInt8) (h : eText l = some e) : rText (.ok (e ++ R)) = (l, .ok R) := by
  obtain ⟨x, y, h1, h2, h3⟩ := app_some h
  injection h2 with h2
  subst h2
  obtain ⟨h4, h5⟩ := eLen_some h1
  subst h5 h3
  rw [rText, List.append_assoc, rLen_of l.length 65536 (l ++ R) h4 (by omega)]
  show (if ((l ++ R).length : Int) < (l.length : Int) then _ else _) = _
  rw [if_neg (by rw [List.length_append]; omega), Int.toNat_natCast, List.take_left, List.drop_left]
theorem rStrs_of (ss : List ByteArray) (k : Nat) (hk : k ≤ ss.length) (e R : List UInt8) (h : eStrs ss k = some e) : rStrs (.ok (e ++ R)) k = ((ss.take k).map bs, .ok R) := by
  induction k generalizing e R with
  | zero => simp only [eStrs] at h; injection h with h; subst h; rfl
  | succ k ih =>
    obtain ⟨x, y, h1, h2, h3⟩ := app_some h
    subst h3
    rw [rStrs, List.append_assoc, ih (by omega) x _ h1]
    simp only
    have hg : ss.getD k ByteArray.empty = ss[k]'(by omega) := by simp [List.getD, List.getElem?_eq_getElem (show k < ss.length by omega)]
    rw [rText_of _ y R h2, hg, List.take_succ_eq_append_getElem (show k < ss.length by omega), List.map_append]
    rfl
theorem rTexts_of (ss : List ByteArray) (e R : List UInt8) (h : eTexts ss = some e) (m : Int) (hm : (ss.length : Int) ≤ m) : rTexts m (.ok (e ++ R)) = (ss.map bs, .ok R) := by
  unfold eTexts at h
  split at h
  · cases h
  · obtain ⟨x, y, h1, h2, h3⟩ := app_some h
    obtain ⟨h4, h5⟩ := eLen_some h1
    subst h3 h5
    rw [rTexts, List.append_assoc, rLen_of ss.length (min m 65536) _ h4 (by omega), Int.toNat_natCast, rStrs_of ss ss.length (Nat.le_refl _) y R h2, List.take_length]
    rfl

end Go.Proofs.YtnmhgjoofgmcgaaGreat.Oct
namespace Go.Proofs.YtnmhgjoofgmcgaaGreat.Rl
open Oct (app eText eInt eTexts bs rInt rText rTexts rErr rEnd)
set_option maxRecDepth 100000
set_option linter.unusedSimpArgs false
set_option linter.unusedVariables false
theorem mkS_bs (x : ByteArray) : mkS (bs x) = x := by cases x; rfl
theorem rMs_of (ms : List Mem) : ∀ (k : Nat), k ≤ ms.length → ∀ (e R : List UInt8), pMems ms k = some e → rMs (.ok (e ++ R)) k = (ms.take k, .ok R)
  | 0, _, e, R, h => by
    simp only [pMems] at h; injection h with h; subst h; rfl
  | k + 1, hk, e, R, h => by
    obtain ⟨x, y, h1, h2, h3⟩ := Oct.app_some h
    obtain ⟨u, v, h4, h5, h6⟩ := Oct.app_some h2
    obtain ⟨p, q, h7, h8, h9⟩ := Oct.app_some h4
    obtain ⟨a1, a2⟩ := Oct.eInt_some h8
    obtain ⟨b1, b2⟩ := Oct.eInt_some h5
    have hg : ms.getD k ⟨⟨#[]⟩, 0, 0⟩ = ms[k]'(by omega) := by rw [List.getD_eq_getElem?_getD, List.getElem?_eq_getElem (by omega)]; rfl
    rw [hg] at h7 a1 a2 b1 b2
    subst h3 h6 h9
    rw [rMs, List.append_assoc, rMs_of ms k (by omega) x _ h1, stepMs]
    simp only [List.append_assoc]
    rw [Oct.rText_of _ p _ h7]
    simp only
    rw [a2, Oct.rInt_of _ _ a1]
    simp only
    rw [b2, Oct.rInt_of _ _ b1, List.take_succ_eq_append_getElem (by omega), mkS_bs]
theorem rCs_of (cs : List Cls) (hs : ∀ c ∈ cs, c.studs.length ≤ 256) : ∀ (k : Nat), k ≤ cs.length → ∀ (e R : List UInt8), pClss cs k = some e → rCs (.ok (e ++ R)) k = (cs.take k, .ok R)
  | 0, _, e, R, h => by
    simp only [pClss] at h; injection h with h; subst h; rfl
  | k + 1, hk, e, R, h => by
    obtain ⟨x, y, h1, h2, h3⟩ := Oct.app_some h
    obtain ⟨u, v, h4, h5, h6⟩ := Oct.app_some h2
    obtain ⟨p, q, h7, h8, h9⟩ := Oct.app_some h4
    have hg : cs.getD k ⟨⟨#[]⟩, ⟨#[]⟩, []⟩ = cs[k]'(by omega) := by rw [List.getD_eq_getElem?_getD, List.getElem?_eq_getElem (by omega)]; rfl
    rw [hg] at h7 h8 h5
    subst h3 h6 h9
    rw [rCs, List.append_assoc, rCs_of cs hs k (by omega) x _ h1, stepCs]
    simp only [List.append_assoc]
    rw [Oct.rText_of _ p _ h7]
    simp only
    rw [Oct.rText_of _ q _ h8]
    simp only
    have hmem := List.getElem_mem (show k < cs.length by omega)
    rw [Oct.rTexts_of _ v _ h5 256 (by have := hs _ hmem; omega), List.take_succ_eq_append_getElem (by omega), mkS_bs, mkS_bs, List.map_map]
    have hid : (fun z => (mkS ∘ bs) z) = id := by funext z; exact mkS_bs z
    have hm : List.map (mkS ∘ bs) cs[k].studs = cs[k].studs := by rw [show (mkS ∘ bs) = id from hid, List.map_id]
    rw [hm]
/-- What was put is got again. -/
theorem get_put (r : Rol) (hm : r.ms.length ≤ 256) (hc : r.cs.length ≤ 32) (hs : ∀ c ∈ r.cs, c.studs.length ≤ 256) (hok : okR r = true) (e : List UInt8) (h : putR r = some e) : getR e = .ok r := by
  obtain ⟨x, y, h1, h2, h3⟩ := Oct.app_some h
  obtain ⟨u, v, h4, h5, h6⟩ := Oct.app_some h1
  obtain ⟨p, q, h7, h8, h9⟩ := Oct.app_some h2
  obtain ⟨a1, a2⟩ := Oct.eInt_some h4
  obtain ⟨b1, b2⟩ := Oct.eInt_some h7
  subst h3 h6 h9
  unfold getR
  rw [a2, List.append_assoc, Oct.rInt_of _ _ a1]
  unfold getM9
  simp only
  rw [if_neg (by omega), Int.toNat_natCast, rMs_of r.ms r.ms.length (Nat.le_refl _) v _ h5]
  simp only
  rw [b2, Oct.rInt_of _ _ b1, List.take_length]
  unfold getC9
  simp only
  rw [if_neg (by omega), Int.toNat_natCast]
  have := rCs_of r.cs hs r.cs.length (Nat.le_refl _) q [] h8
  rw [List.append_nil] at this
  rw [this, List.take_length]
  unfold getD9
  have e1 : rErr (.ok ([] : List UInt8)) = 0 := rfl
  have e2 : rEnd (.ok ([] : List UInt8)) = 0 := rfl
  have e3 : (⟨r.ms, r.cs⟩ : Rol) = r := rfl
  simp only [e1, e2, e3, hok]
  rfl
end Go.Proofs.YtnmhgjoofgmcgaaGreat.Rl
