/-
  The walks of Weigh, the code's and the document's plain one, and of the lists that the statements make.
-/
import Derived.Test.YtfeajbaaoflfeaaDoorMkMean
import Derived.OwnWalk
namespace Go.Proofs.YtfeajbaaoflfeaaDoor.Mk
open Go.RowKit

/-- What a walk knows of a list of words that it reads. -/
def Wds (w : World) (a : Option Addr) (len : Nat) (l : List Nat) : Prop :=
  l.length = len ∧ (∀ x ∈ l, x < 18446744073709551616) ∧ (0 < len → ∃ b off, a = some ⟨b, off, none⟩ ∧ b < w.heap.size ∧ ∀ i, i < len → w.cell? ⟨b, off + i, none⟩ = some (.int .u64 ((l.getD i 0 : Nat) : Int)))
theorem Wds.below {w w' : World} {a : Option Addr} {len : Nat} {l : List Nat} (h : Wds w a len l) (hb : Below w.heap.size w w') : Wds w' a len l :=
  ⟨h.1, h.2.1, fun hl => by
    obtain ⟨b, off, ha, hlt, hc⟩ := h.2.2 hl
    exact ⟨b, off, ha, Nat.lt_of_lt_of_le hlt hb.size, fun i hi => (hb.cell (p := ⟨b, off + i, none⟩) hlt).trans (hc i hi)⟩⟩

def flt (b : Nat) : Value := .float .f64 b
theorem finfo : (Tryd.prog.info? 24).map (fun i => (i.zero, i.size, i.bytes)) = some (some (.float .f64 0), 1, 8) := by kernel_rfl

theorem one_new' (w : World) (v : Value) (T : TypeId) : ∀ j u, [v][j]? = some u → (w.alloc (.cells #[v] T)).cell? ((⟨w.heap.size, 0, none⟩ : Addr).add j) = some u := one_new w v T
theorem flt_cell (b : Nat) : ∀ u ∈ [flt b], u.oneCell' = true := by
  intro u hu
  rw [List.mem_singleton.1 hu]; rfl

/-- What floats leaves. -/
def Made (w : World) (l : List Nat) (e : Ending) (w' : World) : Prop := ∃ a n cap, e = .returned (.slice a n cap) ∧ Fls w' a n l ∧ n ≤ 40 ∧ Below w.heap.size w w'

theorem fls_of_own {w : World} {B : Nat} {v : Value} {n : Nat} {l : List Nat} (h : w.ownsRow B 24 1 v n (l.map flt)) (hl : l.length = n) (hx : ∀ x ∈ l, x < 18446744073709551616) : ∃ a cap, v = .slice a n cap ∧ Fls w a n l := by
  rcases h.2 with ⟨rfl, rfl⟩ | ⟨g, cap, cur, hv, hb, hh, hrest⟩
  · exact ⟨none, 0, rfl, hl, hx, fun h => absurd h (by omega)⟩
  · refine ⟨some ⟨g, 0, none⟩, cap, hv, hl, hx, fun _ => ⟨g, 0, rfl, ?_, fun i hi => ?_⟩⟩
    · rcases Nat.lt_or_ge g w.heap.size with h1 | h1
      · exact h1
      · rw [Array.getElem?_eq_none h1] at hh; cases hh
    · have hc := h.cells (g := g) (by rw [hv]; rfl)
      rw [Nat.zero_add]
      have e : (⟨g, 0, none⟩ : Addr).add i = ⟨g, i, none⟩ := by unfold Addr.add; split <;> simp_all
      rw [← e]
      refine hc i _ ?_
      rw [List.getElem?_map, List.getElem?_eq_getElem (by omega), List.getD_eq_getElem?_getD, List.getElem?_eq_getElem (by omega)]
      rfl

set_option maxRecDepth 100000 in
set_option maxHeartbeats 4000000 in
theorem floats_any (a : Option Addr) (len cap : Nat) (l : List Nat) (hlen : len ≤ 9223372036854775807) (w : World) (hw : Wds w a len l) :
    Calls Tryd.prog 19 #[.slice a len cap] w (Made w (l.take 40)) := by
  obtain ⟨i0, hi, hz0, hz1, hz2⟩ := info_parts finfo
  have HW := Lib.hid hw
  have HL : Hid (l.length = len) := hw.1
  clear hw
  go_enter Tryd.func19, Tryd.ntmps19
  go_wp2
  go_loopw [3, 4] (fun v i wr => ∃ (k : Nat) (A : Option Addr) (cp : Nat), k ≤ len ∧ k ≤ 40 ∧ i = .int .i64 k ∧ v = .slice A k cp ∧ wr.ownsRow w.heap.size 24 1 (.slice A k cp) k ((l.take k).map flt) ∧ Below w.heap.size w wr) (fun _ i _ => 40 - (intOf i).toNat)
  case atStart => exact ⟨0, none, 0, by omega, by omega, rfl, rfl, ⟨by simp, .inl ⟨rfl, rfl⟩⟩, Below.refl _ _⟩
  case round =>
    obtain ⟨k, A, cp, hk, hk40, rfl, rfl, hown, hbel⟩ := hrel
    by_cases hgo : k < len ∧ k < 40
    · obtain ⟨hkl, hk4⟩ := hgo
      obtain ⟨g, off, rfl, hg, hcell⟩ := HW.out.2.2 (by omega)
      have hck : wr.cell? ⟨g, off + k, none⟩ = some (.int .u64 ((l.getD k 0 : Nat) : Int)) := (hbel.cell (p := ⟨g, off + k, none⟩) hg).trans (hcell k hkl)
      have hkl' : k < l.length := by rw [HL.out]; exact hkl
      have htk : (l.take (k + 1)).map flt = (l.take k).map flt ++ [flt (l.getD k 0)] := by
        rw [List.take_succ_eq_append_getElem hkl', List.map_append, List.getD_eq_getElem?_getD, List.getElem?_eq_getElem hkl']; rfl
      obtain ⟨x, hx⟩ : ∃ x, x = l.getD k 0 := ⟨_, rfl⟩
      rw [← hx] at hck htk
      have hfrom := mfrom x
      have hbs := hbel.size
      have HT := Lib.hid htk
      have HB := Lib.hid hbel
      clear hx htk hcell hbel hkl'
      have HO0 := Lib.hid hown
      clear hown
      go_wp2_with ((at_builtin; refine wpList_append_own _ rfl _ _ 37 rfl w.heap.size 24 i0 (.float .f64 0) 1 8 Tryd.underlying37 hi hz0 hz1 hz2 rfl (by decide) _ _ _ rfl (HO0.out.alloc _) ⟨wr.heap.size, 0, none⟩ 1 1 [.float .f64 x] rfl rfl ?c1 ?c2 ?c3 ?c4 ?c5 ?_))
      case c1 => exact one_new' _ _ _
      case c2 => exact flt_cell x
      case c3 => unfold maxLen; omega
      case c4 => omega
      case c5 => exact Nat.le_trans hbs (by rw [size_alloc]; omega)
      intro v' w1 hown1 hg1 _
      have hb1 : Below w.heap.size w w1 := (HB.out.alloc hbs _).grown hg1 (by rw [size_alloc]; omega) (fun j hj => by
        rcases HO0.out.2 with ⟨hv, _⟩ | ⟨g', cp', cur, hv, hb', _⟩
        · rw [hv] at hj; simp [Value.ownBlock] at hj
        · rw [hv] at hj; simp [Value.ownBlock] at hj; omega)
      have hown2 : w1.ownsRow w.heap.size 24 1 v' (k + 1) ((l.take (k + 1)).map flt) := by rw [HT.out, List.map_take]; exact hown1
      have HO := Lib.hid hown2
      have HB1 := Lib.hid hb1
      clear hown1 hown2 hg1 hck hb1
      go_wp2
      obtain ⟨A', cap', hv⟩ : ∃ A' cap', v' = .slice A' (k + 1) cap' := by
        rcases HO.out.2 with ⟨rfl, h⟩ | ⟨g', cp', cur, rfl, _⟩
        · omega
        · exact ⟨_, _, rfl⟩
      refine ⟨⟨k + 1, A', cap', by omega, by omega, by go_num, hv, by rw [← hv]; exact HO.out, HB1.out⟩, by simp [intOf]; omega⟩
    · have htk : l.take k = l.take 40 := by
        by_cases h : k < 40
        · rw [List.take_of_length_le (by rw [HL.out]; omega), List.take_of_length_le (by rw [HL.out]; omega)]
        · rw [show k = 40 from by omega]
      have hfin : Made w (l.take 40) (.returned (.slice A k cp)) wr := by
        obtain ⟨a', cap', hv, hf⟩ := fls_of_own hown (by rw [List.length_take, HL.out]; omega) (fun x hx => HW.out.2.1 x (List.mem_of_mem_take hx))
        rw [htk] at hf
        exact ⟨a', k, cap', by rw [hv], hf, hk40, hbel⟩
      have HF := Lib.hid hfin
      have hor : k < len → ¬ ((k : Int) < 40) := fun h => by omega
      clear htk hfin hown hbel
      by_cases hkl : k < len
      · have h40 := hor hkl
        clear hor hgo
        go_wp2
        go_ret
        exact HF.out
      · clear hor hgo
        go_wp2
        go_ret
        exact HF.out

/-- May a word be no weight? -/
def bad (x : Nat) : Bool := isN x || (ord x 0 == some .lt) || (ord x 9218868437227405311 == some .gt)

theorem isinf_any (x : Nat) (w : World) : Calls Tryd.prog 40 #[.float .f64 x, .int .i64 1] w fun e w' => e = .returned (.bool (ord x 9218868437227405311 == some .gt)) ∧ w = w' := by
  obtain ⟨t, ht⟩ : ∃ t, (ord x 9218868437227405311 == some .gt) = t := ⟨_, rfl⟩
  rw [ht]
  unfold ord at ht
  go_enter Tryd.func40, Tryd.ntmps40
  go_wp2
  go_ret
  exact ⟨rfl, rfl⟩
theorem noWeight_any (x : Nat) (w : World) : Calls Tryd.prog 39 #[.float .f64 x] w fun e w' => e = .returned (.bool (bad x)) ∧ w = w' := by
  unfold bad
  have K1 := Lib.hid (isnan_any x w)
  have K2 := Lib.hid (isinf_any x w)
  obtain ⟨t, ht⟩ : ∃ t, (ord x 0 == some .lt) = t := ⟨_, rfl⟩
  rw [ht]
  unfold ord at ht
  generalize isN x = n at *
  generalize (ord x 9218868437227405311 == some .gt) = m at *
  cases n
  · cases t
    · rw [show (false || false || m) = m from by simp]
      go_enter Tryd.func39, Tryd.ntmps39
      go_wp2_with fail
      refine K1.out.mono ?_
      rintro e w1 ⟨rfl, rfl⟩
      go_wp2_with fail
      refine K2.out.mono ?_
      rintro e w1 ⟨rfl, rfl⟩
      go_wp2
      go_ret
      exact ⟨rfl, rfl⟩
    · rw [show (false || true || m) = true from by simp]
      go_enter Tryd.func39, Tryd.ntmps39
      go_wp2_with fail
      refine K1.out.mono ?_
      rintro e w1 ⟨rfl, rfl⟩
      go_wp2
      go_ret
      exact ⟨rfl, rfl⟩
  · rw [show (true || t || m) = true from by simp]
    go_enter Tryd.func39, Tryd.ntmps39
    go_wp2_with fail
    refine K1.out.mono ?_
    rintro e w1 ⟨rfl, rfl⟩
    go_wp2
    go_ret
    exact ⟨rfl, rfl⟩

/-- Are all of the first k good? -/
def fine (l : List Nat) : Nat → Bool
  | 0 => true
  | k + 1 => fine l k && !bad (l.getD k 0)
theorem fine_mono (l : List Nat) (k m : Nat) (h : fine l m = true) (hk : k ≤ m) : fine l k = true := by
  induction m with
  | zero => rw [show k = 0 from by omega]; rfl
  | succ m ih =>
    rw [fine, Bool.and_eq_true] at h
    by_cases he : k = m + 1
    · subst he; rw [fine, h.1, h.2]; rfl
    · exact ih h.1 (by omega)
theorem fine_no (l : List Nat) (k m : Nat) (hb : bad (l.getD k 0) = true) (hk : k < m) : fine l m = false := by
  cases h : fine l m with
  | false => rfl
  | true =>
    have := fine_mono l (k + 1) m h hk
    rw [fine, hb] at this
    simp at this

/-- Where the first one stands that is no weight; -1, where there is none. -/
def Found (l : List Nat) (len : Nat) (w : World) (e : Ending) (w' : World) : Prop := ∃ r : Int, e = .returned (.int .i64 r) ∧ (0 ≤ r ↔ fine l len = false) ∧ w = w'

set_option maxRecDepth 100000 in
set_option maxHeartbeats 4000000 in
theorem index_any (a : Option Addr) (len cap : Nat) (l : List Nat) (hlen : len ≤ 9223372036854775807) (w : World) (hf : Fls w a len l) :
    Calls Tryd.prog 45 #[.slice a len cap, .func (.func 39) #[] #[]] w (Found l len w) := by
  have HF := Lib.hid hf
  clear hf
  go_enter Tryd.func45, Tryd.ntmps45
  go_wp2
  go_loop [5, 8] (fun _ i => ∃ k : Nat, k ≤ len ∧ i = .int .i64 k ∧ fine l k = true) (fun _ i => len - (intOf i).toNat)
  case atStart => exact ⟨0, by omega, rfl, rfl⟩
  case round =>
    obtain ⟨k, hk, rfl, hfine⟩ := hrel
    by_cases hlt : (k : Int) < len
    · obtain ⟨g, off, rfl, hg, hcell⟩ := HF.out.2.2 (by omega)
      have hck := hcell k (by omega)
      have hs : fine l (k + 1) = (fine l k && !bad (l.getD k 0)) := rfl
      rw [hfine, Bool.true_and] at hs
      cases hb : bad (l.getD k 0) with
      | true =>
        have hno := fine_no l k len hb (by omega)
        have KN := Lib.hid (noWeight_any (l.getD k 0) w)
        rw [hb] at KN
        have HN := Lib.hid hno
        generalize l.getD k 0 = x at *
        clear hs hb hno hcell hfine
        go_wp2_with fail
        refine KN.out.mono ?_
        rintro e w1 ⟨rfl, rfl⟩
        go_wp2
        go_ret
        exact ⟨(k : Int), rfl, ⟨fun _ => HN.out, fun _ => by omega⟩, rfl⟩
      | false =>
        rw [hb] at hs
        have KN := Lib.hid (noWeight_any (l.getD k 0) w)
        rw [hb] at KN
        have HS := Lib.hid hs
        generalize l.getD k 0 = x at *
        clear hs hb hcell hfine
        go_wp2_with fail
        refine KN.out.mono ?_
        rintro e w1 ⟨rfl, rfl⟩
        go_wp2
        go_round
        case rel => exact ⟨k + 1, by omega, by go_num, by rw [HS.out]; rfl⟩
        case measure => simp [intOf]; omega
    · have : k = len := by omega
      subst this
      have HS := Lib.hid hfine
      clear hfine
      go_wp2
      go_ret
      exact ⟨-1, rfl, ⟨fun h => absurd h (by omega), fun h => by rw [HS.out] at h; cases h⟩, rfl⟩

end Go.Proofs.YtfeajbaaoflfeaaDoor.Mk
