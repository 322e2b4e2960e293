/-
  Two lists of tokens that agree for a while are parsed alike.
-/
import Derived.Test.YtakihbjfkpebcaaSxIn
namespace Go.Proofs.Ytakihbjfkpebcaa.Sx
open Lx (Tk)
set_option maxRecDepth 100000
variable {α β : Type}

/-- The tokens of ts up to n, from i on, stand in us, o further on. -/
def Agree (ts us : List Tk) (o i n : Nat) : Prop := ∀ k, i ≤ k → k ≤ n → (tkAt us (k + o)).kind = (tkAt ts k).kind ∧ (tkAt us (k + o)).text = (tkAt ts k).text
theorem Agree.less {ts us : List Tk} {o i n j m : Nat} (h : Agree ts us o i n) (hi : i ≤ j) (hm : m ≤ n) : Agree ts us o j m := fun k h1 h2 => h k (by omega) (by omega)
theorem Agree.sg {ts us : List Tk} {o i n : Nat} (h : Agree ts us o i n) (k : Nat) (h1 : i ≤ k) (h2 : k ≤ n) (c : UInt8) : isSg us (k + o) c = isSg ts k c := by
  obtain ⟨e1, e2⟩ := h k h1 h2
  unfold isSg
  rw [e1, e2]
theorem Agree.clos {ts us : List Tk} {o i n : Nat} (h : Agree ts us o i n) (k : Nat) (h1 : i ≤ k) (h2 : k ≤ n) : clos us (k + o) = clos ts k := by
  unfold Sx.clos
  rw [h.sg k h1 h2, h.sg k h1 h2, h.sg k h1 h2]
theorem Agree.starts {ts us : List Tk} {o i n : Nat} (h : Agree ts us o i n) (k : Nat) (h1 : i ≤ k) (h2 : k ≤ n) : starts us (k + o) = starts ts k := by
  unfold Sx.starts
  rw [h.clos k h1 h2, (h k h1 h2).1]
theorem tak_short {us : List Tk} (hu : us.length ≤ 4096) (i : Nat) : tak us i = .ok () (i + 1) := by
  unfold tak
  rw [if_neg]
  rintro ⟨h1, h2⟩
  apply h2
  unfold tkAt
  rw [List.getD_eq_getElem?_getD, List.getElem?_eq_none (by omega)]
  rfl
theorem tak_go {ts us : List Tk} {o i j : Nat} {u : Unit} (hu : us.length ≤ 4096) (h : tak ts i = .ok u j) : tak us (i + o) = .ok () (j + o) := by
  rw [tak_short hu, tak_at h, Nat.add_right_comm]

/-- What one parse tells of ts at i, another tells of us. -/
def Goes (ts us : List Tk) (o i : Nat) (x y : Option (Res α)) : Prop := ∀ v j, x = some (.ok v j) → Agree ts us o i j → y = some (.ok v (j + o))
theorem goes_bind {ts us : List Tk} {o i : Nat} {x y : Option (Res α)} {f g : α → Nat → Option (Res β)} (hx : Goes ts us o i x y) (ha : Adv x i 0) (hb : ∀ v j, Adv (f v j) j 0) (hf : ∀ v j, i ≤ j → Goes ts us o j (f v j) (g v (j + o))) :
    Goes ts us o i (x.bind fun r => r.bind f) (y.bind fun r => r.bind g) := by
  intro v j h hA
  rcases bind_some h with ⟨l, c, e, _, h2⟩ | ⟨v2, j2, h1, h2⟩
  · cases h2
  · have e1 := ha v2 j2 h1
    have e2 := hb v2 j2 v j h2
    rw [hx v2 j2 h1 (hA.less (Nat.le_refl _) (by omega))]
    exact hf v2 j2 (by omega) v j h2 (hA.less (by omega) (Nat.le_refl _))
theorem goes_tak {ts us : List Tk} {o i : Nat} {f g : Unit → Nat → Option (Res β)} (hu : us.length ≤ 4096) (hb : ∀ v j, Adv (f v j) j 0) (hf : ∀ v j, j = i + 1 → Goes ts us o j (f v j) (g () (j + o))) :
    Goes ts us o i ((tak ts i).bind f) ((tak us (i + o)).bind g) := by
  intro v j h hA
  rcases res_some h with ⟨l, c, e, _, h2⟩ | ⟨v2, j2, h1, h2⟩
  · cases h2
  · have e1 := tak_at h1
    have e2 := hb v2 j2 v j h2
    rw [tak_go hu h1]
    exact hf v2 j2 e1 v j h2 (hA.less (by omega) (Nat.le_refl _))
theorem need_go {ts us : List Tk} {o i j : Nat} {c : UInt8} {u : Unit} (hu : us.length ≤ 4096) (h : need ts i c = .ok u j) (hA : Agree ts us o i i) : need us (i + o) c = .ok () (j + o) := by
  unfold need at h ⊢
  rw [hA.sg i (Nat.le_refl _) (Nat.le_refl _)]
  split at h
  · rename_i h1; rw [if_pos h1]; exact tak_go hu h
  · unfold Res.bad at h; cases h
theorem goes_need {ts us : List Tk} {o i : Nat} {c : UInt8} {f g : Unit → Nat → Option (Res β)} (hu : us.length ≤ 4096) (hb : ∀ v j, Adv (f v j) j 0) (hf : ∀ v j, j = i + 1 → Goes ts us o j (f v j) (g () (j + o))) :
    Goes ts us o i ((need ts i c).bind f) ((need us (i + o) c).bind g) := by
  intro v j h hA
  rcases res_some h with ⟨l, k, e, _, h2⟩ | ⟨v2, j2, h1, h2⟩
  · cases h2
  · have e1 := (need_at h1).1
    have e2 := hb v2 j2 v j h2
    rw [need_go hu h1 (hA.less (Nat.le_refl _) (by omega))]
    exact hf v2 j2 e1 v j h2 (hA.less (by omega) (Nat.le_refl _))
theorem nam_go {ts us : List Tk} {o i j : Nat} {n : List UInt8} (hu : us.length ≤ 4096) (h : nam ts i = .ok n j) (hA : Agree ts us o i i) : nam us (i + o) = .ok n (j + o) := by
  obtain ⟨e1, e2⟩ := hA i (Nat.le_refl _) (Nat.le_refl _)
  unfold nam at h ⊢
  rw [e1, e2]
  split at h
  · rename_i h1
    rw [if_pos h1]
    cases ht : tak ts i with
    | no l c e => rw [ht] at h; cases h
    | ok u k =>
      rw [ht] at h
      injection h with h3 h4
      rw [tak_go hu ht, h3, h4]
  · unfold Res.bad at h; cases h
theorem goes_ok {ts us : List Tk} {o i j : Nat} {v : α} : Goes ts us o i (some (.ok v j)) (some (.ok v (j + o))) := by
  intro v' j' h _
  injection h with h
  injection h with h1 h2
  rw [h1, h2]
theorem goes_bad {ts us : List Tk} {o i k c : Nat} {y : Option (Res α)} : Goes ts us o i (some (Res.bad (α := α) ts k c)) y := by
  intro v' j' h _
  injection h with h
  unfold Res.bad at h
  cases h

/-- A guard on the token at i: it is looked at, for what is told lies behind it. -/
theorem goes_at {ts us : List Tk} {o i : Nat} {x y : Option (Res α)} (ha : Adv x i 0) (h : Agree ts us o i i → Goes ts us o i x y) : Goes ts us o i x y := fun v j hx hA =>
  h (hA.less (Nat.le_refl _) (by have := ha v j hx; omega)) v j hx hA

theorem shift_all (ts us : List Tk) (o : Nat) (hu : us.length ≤ 4096) : ∀ f f' : Nat, f ≤ f' →
    (∀ d i, Goes ts us o i (pAlt ts f d i) (pAlt us f' d (i + o))) ∧ (∀ d i acc, Goes ts us o i (pMore ts f d i acc) (pMore us f' d (i + o) acc)) ∧ (∀ d i, Goes ts us o i (pRow ts f d i) (pRow us f' d (i + o))) ∧
    (∀ d i acc, Goes ts us o i (pItems ts f d i acc) (pItems us f' d (i + o) acc)) ∧ (∀ d i, Goes ts us o i (pItem ts f d i) (pItem us f' d (i + o))) ∧ (∀ d i, Goes ts us o i (pAtom ts f d i) (pAtom us f' d (i + o)))
  | 0, _, _ => ⟨(fun d i v j h _ => by rw [pAlt] at h; cases h), (fun d i acc v j h _ => by rw [pMore] at h; cases h), (fun d i v j h _ => by rw [pRow] at h; cases h), (fun d i acc v j h _ => by rw [pItems] at h; cases h), (fun d i v j h _ => by rw [pItem] at h; cases h), (fun d i v j h _ => by rw [pAtom] at h; cases h)⟩
  | f + 1, 0, h => absurd h (by omega)
  | f + 1, f' + 1, hff => by
    obtain ⟨ih1, ih2, ih3, ih4, ih5, ih6⟩ := shift_all ts us o hu f f' (by omega)
    obtain ⟨a1, a2, a3, a4, a5, a6⟩ := adv_all ts f
    obtain ⟨b1, b2, b3, b4, b5, b6⟩ := adv_all ts (f + 1)
    have m5 : ∀ d i, Adv (pItem ts f d i) i 0 := fun d i => (a5 d i).mono (by omega)
    have m6 : ∀ d i, Adv (pAtom ts f d i) i 0 := fun d i => (a6 d i).mono (by omega)
    refine ⟨fun d i => ?_, fun d i acc => ?_, fun d i => ?_, fun d i acc => ?_, fun d i => ?_, fun d i => ?_⟩
    · rw [pAlt, pAlt]
      exact goes_bind (ih3 d i) (a3 d i) (fun v j => a2 d j _) fun t j _ => ih2 d j _
    · refine goes_at (b2 d i acc) fun hA => ?_
      rw [pMore, pMore, hA.sg i (Nat.le_refl _) (Nat.le_refl _)]
      split
      · refine goes_tak hu (fun v j => adv_bind (a3 d j) fun t k hk => (a2 d k _).mono (by omega)) fun u j _ => ?_
        exact goes_bind (ih3 d j) (a3 d j) (fun v k => a2 d k _) fun t k _ => ih2 d k _
      · exact goes_ok
    · rw [pRow, pRow]; exact ih4 d i []
    · refine goes_at (b4 d i acc) fun hA => ?_
      rw [pItems, pItems, hA.starts i (Nat.le_refl _) (Nat.le_refl _)]
      split
      · exact goes_bind (ih5 d i) (m5 d i) (fun v j => a4 d j _) fun t j _ => ih4 d j _
      · exact goes_ok
    · rw [pItem, pItem]
      have hadv : ∀ (t : Tree) (j : Nat), Adv ((if isSg ts j 42 = true then (tak ts j).bind fun _ k => some (Res.ok (around 6 t) k) else if isSg ts j 43 = true then (tak ts j).bind fun _ k => some (Res.ok (around 7 t) k) else if isSg ts j 63 = true then (tak ts j).bind fun _ k => some (Res.ok (around 5 t) k) else some (Res.ok t j))) j 0 := fun t j => by
        have go : ∀ t : Tree, Adv ((tak ts j).bind fun _ k => some (Res.ok t k)) j 0 := fun t => adv_res fun u k hk => by
          have := tak_at hk
          exact adv_ok (by omega)
        split
        · exact go _
        · split
          · exact go _
          · split
            · exact go _
            · exact adv_ok (by omega)
      refine goes_bind (ih6 d i) (m6 d i) hadv fun t j _ => goes_at (hadv t j) fun hA => ?_
      rw [hA.sg j (Nat.le_refl _) (Nat.le_refl _), hA.sg j (Nat.le_refl _) (Nat.le_refl _), hA.sg j (Nat.le_refl _) (Nat.le_refl _)]
      have go : ∀ t : Tree, Goes ts us o j ((tak ts j).bind fun _ k => some (Res.ok t k)) ((tak us (j + o)).bind fun _ k => some (Res.ok t k)) := fun t => goes_tak hu (fun v k => adv_ok (by omega)) fun u k _ => goes_ok
      split
      · exact go _
      · split
        · exact go _
        · split
          · exact go _
          · exact goes_ok
    · refine goes_at ((b6 d i).mono (by omega)) fun hA => ?_
      obtain ⟨e1, e2⟩ := hA i (Nat.le_refl _) (Nat.le_refl _)
      rw [pAtom, pAtom, e1, e2, hA.clos i (Nat.le_refl _) (Nat.le_refl _)]
      split
      · exact goes_tak hu (fun v j => adv_ok (by omega)) fun u k _ => goes_ok
      · split
        · exact goes_tak hu (fun v j => adv_ok (by omega)) fun u k _ => goes_ok
        · split
          · intro v j h; cases h
          · rename_i c hc
            split
            · exact goes_bad
            · have hn : ∀ (t : Tree) (k : Nat), Adv ((need ts k c).bind fun _ m => some (Res.ok (wrapped c t) m)) k 0 := fun t k => adv_res fun u m hm => by
                have := (need_at hm).1
                exact adv_ok (by omega)
              refine goes_tak hu (fun v j => adv_bind (a1 (d + 1) j) fun t k hk => (hn t k).mono (by omega)) fun u j _ => ?_
              exact goes_bind (ih1 (d + 1) j) (a1 (d + 1) j) hn fun t k _ => goes_need hu (fun v m => adv_ok (by omega)) fun u2 m _ => goes_ok

theorem rule_adv (ts : List Tk) (f i : Nat) : Adv (pRule ts f i) i 1 := by
  unfold pRule
  refine adv_res fun n j e => ?_
  have h1 := (nam_at e).1
  refine adv_res fun u k e2 => ?_
  have h2 := (need_at e2).1
  refine adv_bind ((((adv_all ts f).1) 0 k).mono (i' := i) (k' := 1) (by omega)) fun t m hm => adv_res fun u2 o e3 => ?_
  have := (need_at e3).1
  exact adv_ok (by omega)
/-- A rule is read alike, the tokens ahead of its end alike. -/
theorem rule_go {ts us : List Tk} {o i j f f' : Nat} {v : List UInt8 × Tree} (hu : us.length ≤ 4096) (hff : f ≤ f') (h : pRule ts f i = some (.ok v (j + 1))) (hA : Agree ts us o i j) : pRule us f' (i + o) = some (.ok v (j + 1 + o)) := by
  unfold pRule at h ⊢
  rcases res_some h with ⟨l, k, e, _, h2⟩ | ⟨n, j1, h1, h2⟩
  · cases h2
  · have e1 := (nam_at h1).1
    rcases res_some h2 with ⟨l, k, e, _, h4⟩ | ⟨u, j2, h3, h4⟩
    · cases h4
    · have e2 := (need_at h3).1
      rcases bind_some h4 with ⟨l, k, e, _, h6⟩ | ⟨t, j3, h5, h6⟩
      · cases h6
      · have e3 := (adv_all ts f).1 0 j2 t j3 h5
        rcases res_some h6 with ⟨l, k, e, _, h8⟩ | ⟨u2, j4, h7, h8⟩
        · cases h8
        · have e4 := (need_at h7).1
          injection h8 with h8
          injection h8 with h8 h9
          subst h8
          have e5 : j3 = j := by omega
          subst e5
          have e6 : j4 = j3 + 1 := e4
          subst e6
          rw [nam_go hu h1 (hA.less (Nat.le_refl _) (by omega))]
          show ((need us (j1 + o) 58).bind _) = _
          rw [need_go hu h3 (hA.less (by omega) (by omega))]
          show ((pAlt us f' 0 (j2 + o)).bind _) = _
          rw [(shift_all ts us o hu f f' hff).1 0 j2 t j3 h5 (hA.less (by omega) (Nat.le_refl _))]
          show ((need us (j3 + o) 59).bind _) = _
          rw [need_go hu h7 (hA.less (by omega) (Nat.le_refl _))]
          rfl
end Go.Proofs.Ytakihbjfkpebcaa.Sx
