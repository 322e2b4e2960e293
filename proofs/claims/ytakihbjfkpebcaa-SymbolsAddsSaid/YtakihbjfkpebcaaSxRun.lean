/-
  Fuel does not matter; rules that are read in a longer list of tokens.
-/
import Derived.Test.YtakihbjfkpebcaaSxTrees
namespace Go.Proofs.Ytakihbjfkpebcaa.Sx
open Lx (Tk)
set_option maxRecDepth 100000
variable {α β : Type}

/-- Where the one has an answer, the other has it, too. -/
def Mon (x y : Option (Res α)) : Prop := ∀ R, x = some R → y = some R
theorem mon_bind {x y : Option (Res α)} {f g : α → Nat → Option (Res β)} (hx : Mon x y) (hf : ∀ v j, Mon (f v j) (g v j)) : Mon (x.bind fun r => r.bind f) (y.bind fun r => r.bind g) := by
  intro R h
  cases x with
  | none => cases h
  | some r =>
    rw [hx r rfl]
    cases r with
    | no l c e => exact h
    | ok v j => exact hf v j R h
theorem mon_res {x : Res α} {f g : α → Nat → Option (Res β)} (hf : ∀ v j, Mon (f v j) (g v j)) : Mon (x.bind f) (x.bind g) := by
  intro R h
  cases x with
  | no l c e => exact h
  | ok v j => exact hf v j R h
theorem mon_refl (x : Option (Res α)) : Mon x x := fun _ h => h
theorem mono_all (ts : List Tk) : ∀ f f' : Nat, f ≤ f' →
    (∀ d i, Mon (pAlt ts f d i) (pAlt ts f' d i)) ∧ (∀ d i acc, Mon (pMore ts f d i acc) (pMore ts f' d i acc)) ∧ (∀ d i, Mon (pRow ts f d i) (pRow ts f' d i)) ∧
    (∀ d i acc, Mon (pItems ts f d i acc) (pItems ts f' d i acc)) ∧ (∀ d i, Mon (pItem ts f d i) (pItem ts f' d i)) ∧ (∀ d i, Mon (pAtom ts f d i) (pAtom ts f' d i))
  | 0, _, _ => ⟨(fun d i R h => by rw [pAlt] at h; cases h), (fun d i acc R h => by rw [pMore] at h; cases h), (fun d i R h => by rw [pRow] at h; cases h), (fun d i acc R h => by rw [pItems] at h; cases h), (fun d i R h => by rw [pItem] at h; cases h), (fun d i R h => by rw [pAtom] at h; cases h)⟩
  | f + 1, 0, h => absurd h (by omega)
  | f + 1, f' + 1, hff => by
    obtain ⟨ih1, ih2, ih3, ih4, ih5, ih6⟩ := mono_all ts f f' (by omega)
    refine ⟨fun d i => ?_, fun d i acc => ?_, fun d i => ?_, fun d i acc => ?_, fun d i => ?_, fun d i => ?_⟩
    · rw [pAlt, pAlt]; exact mon_bind (ih3 d i) fun t j => ih2 d j _
    · rw [pMore, pMore]
      split
      · exact mon_res fun u j => mon_bind (ih3 d j) fun t k => ih2 d k _
      · exact mon_refl _
    · rw [pRow, pRow]; exact ih4 d i []
    · rw [pItems, pItems]
      split
      · exact mon_bind (ih5 d i) fun t j => ih4 d j _
      · exact mon_refl _
    · rw [pItem, pItem]; exact mon_bind (ih6 d i) fun t j => mon_refl _
    · rw [pAtom, pAtom]
      split
      · exact mon_refl _
      · split
        · exact mon_refl _
        · split
          · exact mon_refl _
          · split
            · exact mon_refl _
            · exact mon_res fun u j => mon_bind (ih1 (d + 1) j) fun t k => mon_refl _
theorem rule_mono (ts : List Tk) {f f' : Nat} (h : f ≤ f') (i : Nat) : Mon (pRule ts f i) (pRule ts f' i) := by
  unfold pRule
  exact mon_res fun n j => mon_res fun u k => mon_bind ((mono_all ts f f' h).1 0 k) fun t m => mon_refl _
theorem rules_mono (ts : List Tk) : ∀ (f f' : Nat), f ≤ f' → ∀ (i : Nat) (acc : List (List UInt8 × Tree)), Mon (pRules ts f i acc) (pRules ts f' i acc)
  | 0, _, _, _, _ => fun R h => by rw [pRules] at h; cases h
  | f + 1, 0, h, _, _ => absurd h (by omega)
  | f + 1, f' + 1, h, i, acc => by
    rw [pRules, pRules]
    split
    · split
      · exact mon_refl _
      · exact mon_bind (rule_mono ts (by omega) i) fun v j => rules_mono ts f f' (by omega) j _
    · exact mon_refl _
theorem gram_mono (ts : List Tk) {f f' : Nat} (h : f ≤ f') : Mon (pGram ts f) (pGram ts f') := by
  unfold pGram
  split
  · exact mon_res fun u i => mon_res fun n j => mon_res fun u2 k => mon_bind (rules_mono ts f f' h k []) fun rs m => mon_refl _
  · exact mon_bind (rules_mono ts f f' h 0 []) fun rs m => mon_refl _
/-- What parse tells of tokens. -/
def parseT (ts : List Tk) : Res Gram := (pGram ts (7 * ts.length + 8)).getD (.no 0 0 0)
theorem parseT_is (ts : List Tk) : pGram ts (7 * ts.length + 8) = some (parseT ts) := by
  obtain ⟨R, h⟩ := gram_total ts
  rw [parseT, h]; rfl
theorem parseT_of {ts : List Tk} {F : Nat} {R : Res Gram} (h : pGram ts F = some R) : parseT ts = R := by
  have h1 := gram_mono ts (Nat.le_max_left F (7 * ts.length + 8)) R h
  have h2 := gram_mono ts (Nat.le_max_right F (7 * ts.length + 8)) _ (parseT_is ts)
  rw [h1] at h2
  injection h2 with h2
  exact h2.symm

/-- The tokens of ts ahead of n, from i on, stand in us, o further on. -/
def Ahead (ts us : List Tk) (o i n : Nat) : Prop := ∀ k, i ≤ k → k < n → (tkAt us (k + o)).kind = (tkAt ts k).kind ∧ (tkAt us (k + o)).text = (tkAt ts k).text
/-- Rules that are read stand in any list in which their tokens do. -/
theorem rules_run (ts : List Tk) : ∀ (f i : Nat) (acc R : List (List UInt8 × Tree)) (m : Nat), pRules ts f i acc = some (.ok R m) →
    ∃ rs, R = acc ++ rs ∧ i ≤ m ∧ (tkAt ts m).kind = 4 ∧ 0 < R.length ∧
      ∀ (us : List Tk) (o : Nat) (acc' : List (List UInt8 × Tree)) (F : Nat), us.length ≤ 4096 → Ahead ts us o i m → acc'.length + rs.length ≤ 64 → f ≤ F → pRules us (F + rs.length) (i + o) acc' = pRules us F (m + o) (acc' ++ rs)
  | 0, _, _, _, _, h => by rw [pRules] at h; cases h
  | f + 1, i, acc, R, m, h => by
    rw [pRules] at h
    split at h
    · split at h
      · injection h with h; unfold Res.bad at h; cases h
      · rcases bind_some h with ⟨l, c, e, _, h2⟩ | ⟨v, j, h1, h2⟩
        · cases h2
        · have hj := rule_adv ts f i v j h1
          obtain ⟨rs, rfl, hm, hk, h0, hrun⟩ := rules_run ts f j (acc ++ [v]) R m h2
          have hk1 : (tkAt ts i).kind = 1 := by
            unfold pRule at h1
            rcases res_some h1 with ⟨l, c, e, _, h4⟩ | ⟨n, k, h3, _⟩
            · cases h4
            · unfold nam at h3
              split at h3
              · assumption
              · unfold Res.bad at h3; cases h3
          refine ⟨v :: rs, by simp, by omega, hk, h0, fun us o acc' F hu hA hl hF => ?_⟩
          have hki := (hA i (Nat.le_refl _) (by omega)).1
          rw [show F + (v :: rs).length = (F + rs.length) + 1 by simp; omega, pRules, if_pos (.inr (by rw [hki, hk1]; decide)), if_neg (by simp only [List.length_cons] at hl; omega)]
          obtain ⟨j', rfl⟩ : ∃ j', j = j' + 1 := ⟨j - 1, by omega⟩
          rw [rule_go hu (show f ≤ F + rs.length by omega) h1 (fun k a b => hA k a (by omega))]
          show pRules us (F + rs.length) (j' + 1 + o) (acc' ++ [v]) = _
          rw [hrun us o (acc' ++ [v]) F hu (fun k a b => hA k (by omega) b) (by simp only [List.length_append, List.length_cons, List.length_nil] at hl ⊢; omega) (by omega)]
          simp
    · rename_i hc
      injection h with h
      injection h with h1 h2
      subst h1
      subst h2
      refine ⟨[], by simp, Nat.le_refl _, ?_, ?_, fun us o acc' F _ _ _ _ => by simp⟩
      · exact Decidable.byContradiction fun e => hc (.inr e)
      · rcases Nat.eq_zero_or_pos acc.length with e | e
        · exact absurd (.inl e) hc
        · exact e
theorem rules_end {us : List Tk} {F m : Nat} {R : List (List UInt8 × Tree)} (h0 : 0 < R.length) (hk : (tkAt us m).kind = 4) : pRules us (F + 1) m R = some (.ok R m) := by
  rw [pRules, if_neg]
  rintro (h | h)
  · omega
  · exact h hk

theorem tkAt_app_left {a b : List Tk} {k : Nat} (h : k < a.length) : tkAt (a ++ b) k = tkAt a k := by
  simp [tkAt, List.getD, List.getElem?_append_left h]
theorem tkAt_app_right {a b : List Tk} (k : Nat) : tkAt (a ++ b) (k + a.length) = tkAt b k := by
  simp [tkAt, List.getD, List.getElem?_append_right]
theorem ended_app (T : List Tk) (e : Tk) (he : e.kind = 4) : Ended (T ++ [e]) := by
  intro i h
  rcases Nat.lt_trichotomy i T.length with h1 | h1 | h1
  · simp; omega
  · exfalso
    apply h
    have := tkAt_app_right (a := T) (b := [e]) 0
    rw [Nat.zero_add] at this
    rw [h1, this]
    exact he
  · exfalso
    apply h
    unfold tkAt
    rw [List.getD_eq_getElem?_getD, List.getElem?_eq_none (by simp; omega)]
    rfl
/-- A grammar's parse, told by its rules' parse. -/
theorem gram_cases {ts : List Tk} {f : Nat} {G : Gram} {j : Nat} (h : pGram ts f = some (.ok G j)) :
    (isSg ts 0 37 = true ∧ nam ts 1 = .ok G.start 2 ∧ isSg ts 2 59 = true ∧ pRules ts f 3 [] = some (.ok G.rules j)) ∨
    (isSg ts 0 37 = false ∧ pRules ts f 0 [] = some (.ok G.rules j) ∧ G.start = (G.rules.headD ([], .node 0 [] [])).1) := by
  unfold pGram at h
  split at h
  · rename_i hs
    left
    rcases res_some h with ⟨l, c, e, _, h2⟩ | ⟨u, i, h1, h2⟩
    · cases h2
    · have e1 := tak_at h1
      rcases res_some h2 with ⟨l, c, e, _, h4⟩ | ⟨n, k, h3, h4⟩
      · cases h4
      · have e2 := (nam_at h3).1
        rcases res_some h4 with ⟨l, c, e, _, h6⟩ | ⟨u2, k2, h5, h6⟩
        · cases h6
        · have e3 := (need_at h5).1
          rcases bind_some h6 with ⟨l, c, e, _, h8⟩ | ⟨rs, m, h7, h8⟩
          · cases h8
          · injection h8 with h8
            injection h8 with h8 h9
            subst h8
            subst h9
            have hi : i = 1 := by omega
            subst hi
            have hk : k = 2 := by omega
            subst hk
            have hk2 : k2 = 3 := by omega
            subst hk2
            refine ⟨hs, h3, ?_, h7⟩
            unfold need at h5
            split at h5
            · assumption
            · unfold Res.bad at h5; cases h5
  · rename_i hs
    right
    rcases bind_some h with ⟨l, c, e, _, h2⟩ | ⟨rs, m, h1, h2⟩
    · cases h2
    · injection h2 with h2
      injection h2 with h2 h3
      subst h2
      subst h3
      exact ⟨by simpa using hs, h1, rfl⟩
/-- With a start that is named ahead. -/
theorem start_parse {ts us p : List Tk} {G : Gram} {j : Nat} {name : List UInt8} (h : parseT ts = .ok G j) (h37 : isSg ts 0 37 = false) (hp : p.length = 3) (h0 : isSg p 0 37 = true) (h1 : (tkAt p 1).kind = 1) (hn : (tkAt p 1).text = name) (h2 : isSg p 2 59 = true)
    (hus : us.length ≤ 4093) (hA : ∀ k, (tkAt us k).kind = (tkAt ts k).kind ∧ (tkAt us k).text = (tkAt ts k).text) (hl : G.rules.length ≤ 64) : ∃ j', parseT (p ++ us) = .ok ⟨name, G.rules⟩ j' := by
  have hP := parseT_is ts
  rw [h] at hP
  rcases gram_cases hP with ⟨h5, _⟩ | ⟨_, h5, _⟩
  · rw [h37] at h5; cases h5
  · obtain ⟨rs, hR, _, hk, h0', hrun⟩ := rules_run ts _ 0 [] G.rules j h5
    rw [List.nil_append] at hR
    have hu : (p ++ us).length ≤ 4096 := by simp; omega
    have hat : ∀ k, tkAt (p ++ us) (k + 3) = tkAt us k := fun k => by rw [← hp]; exact tkAt_app_right k
    have hrun2 := hrun (p ++ us) 3 [] (7 * ts.length + 8 + 1) hu (fun k _ _ => by rw [hat]; exact hA k) (by rw [← hR]; simp; omega) (by omega)
    rw [List.nil_append, ← hR, rules_end h0' (by rw [hat, (hA j).1]; exact hk)] at hrun2
    refine ⟨j + 3, parseT_of (F := 7 * ts.length + 8 + 1 + G.rules.length) ?_⟩
    have l0 : isSg (p ++ us) 0 37 = true := by unfold isSg at h0 ⊢; rw [tkAt_app_left (by omega)]; exact h0
    have l2 : isSg (p ++ us) 2 59 = true := by unfold isSg at h2 ⊢; rw [tkAt_app_left (by omega)]; exact h2
    unfold pGram
    rw [if_pos l0, tak_short hu]
    show ((nam (p ++ us) 1).bind _) = _
    rw [show nam (p ++ us) 1 = .ok name 2 by
      unfold nam
      rw [tkAt_app_left (by omega), if_pos h1, tak_short hu, hn]]
    show ((need (p ++ us) 2 59).bind _) = _
    rw [show need (p ++ us) 2 59 = .ok () 3 by unfold need; rw [if_pos l2, tak_short hu]]
    show ((pRules (p ++ us) _ (0 + 3) []).bind _) = _
    rw [hrun2]
    rfl
/-- Two lists of tokens, one behind the other. -/
theorem join_parse {T M : List Tk} {e : Tk} {G H : Gram} {j k : Nat} (hT : ∀ t ∈ T, t.kind ≠ 4) (he : e.kind = 4) (h : parseT (T ++ [e]) = .ok G j) (h2 : parseT M = .ok H k) (h37 : isSg M 0 37 = false) (hl : G.rules.length + H.rules.length ≤ 64) (M' : List Tk)
    (hA : ∀ k, (tkAt M' k).kind = (tkAt M k).kind ∧ (tkAt M' k).text = (tkAt M k).text) (hu : (T ++ M').length ≤ 4096) : ∃ i, parseT (T ++ M') = .ok ⟨G.start, G.rules ++ H.rules⟩ i := by
  have hP := parseT_is (T ++ [e])
  rw [h] at hP
  have hQ := parseT_is M
  rw [h2] at hQ
  rcases gram_cases hQ with ⟨h5, _⟩ | ⟨_, hM, _⟩
  · rw [h37] at h5; cases h5
  obtain ⟨rb, hRb, _, hkb, h0b, hrunb⟩ := rules_run M _ 0 [] H.rules k hM
  rw [List.nil_append] at hRb
  have hr : ∀ q, tkAt (T ++ M') (q + T.length) = tkAt M' q := fun q => tkAt_app_right q
  have hlt : ∀ q, q < T.length → tkAt (T ++ M') q = tkAt (T ++ [e]) q := fun q hq => by rw [tkAt_app_left hq, tkAt_app_left hq]
  have hend : ∀ q, (tkAt (T ++ [e]) q).kind = 4 → T.length ≤ q := fun q hq => by
    rcases Nat.lt_or_ge q T.length with h3 | h3
    · exfalso
      rw [tkAt_app_left h3] at hq
      have : tkAt T q = T[q] := by simp [tkAt, List.getD, List.getElem?_eq_getElem h3]
      rw [this] at hq
      exact hT _ (List.getElem_mem h3) hq
    · exact h3
  -- behind the first one's rules
  have key : ∀ i, pRules (T ++ [e]) (7 * (T ++ [e]).length + 8) i [] = some (.ok G.rules j) → j = T.length → ∃ F, pRules (T ++ M') F i [] = some (.ok (G.rules ++ H.rules) (k + T.length)) := by
    intro i hi hj
    obtain ⟨ra, hRa, him, hka, h0a, hruna⟩ := rules_run (T ++ [e]) _ i [] G.rules j hi
    rw [List.nil_append] at hRa
    subst hj
    have r1 := hruna (T ++ M') 0 [] (7 * (T ++ [e]).length + 8 + (7 * M.length + 8) + H.rules.length + 1) hu (fun q _ hq => by rw [Nat.add_zero, hlt q hq]; exact ⟨rfl, rfl⟩) (by rw [← hRa]; simp; omega) (by omega)
    rw [List.nil_append, ← hRa, Nat.add_zero, Nat.add_zero] at r1
    have r2 := hrunb (T ++ M') T.length G.rules (7 * (T ++ [e]).length + 8 + (7 * M.length + 8) + 1) hu (fun q _ _ => by rw [hr]; exact hA q) (by rw [← hRb]; exact hl) (by omega)
    rw [Nat.zero_add, ← hRb, rules_end (by simp; omega) (by rw [hr, (hA k).1]; exact hkb)] at r2
    refine ⟨_, r1.trans ?_⟩
    rw [show 7 * (T ++ [e]).length + 8 + (7 * M.length + 8) + H.rules.length + 1 = 7 * (T ++ [e]).length + 8 + (7 * M.length + 8) + 1 + H.rules.length by omega]
    exact r2
  have hjT : ∀ i, pRules (T ++ [e]) (7 * (T ++ [e]).length + 8) i [] = some (.ok G.rules j) → i < T.length + 1 → Ended (T ++ [e]) → j = T.length := by
    intro i hi hlt2 hE
    obtain ⟨ra, hRa, him, hka, h0a, hruna⟩ := rules_run (T ++ [e]) _ i [] G.rules j hi
    have h3 := hend j hka
    have h4 : j < (T ++ [e]).length := by
      have : ∀ (f i : Nat) (acc R : List (List UInt8 × Tree)) (m : Nat), i < (T ++ [e]).length → pRules (T ++ [e]) f i acc = some (.ok R m) → m < (T ++ [e]).length := by
        intro f
        induction f with
        | zero => intro i acc R m _ h; rw [pRules] at h; cases h
        | succ f ih =>
          intro i acc R m hi h
          rw [pRules] at h
          split at h
          · split at h
            · injection h with h; unfold Res.bad at h; cases h
            · rcases bind_some h with ⟨l, c, e, _, h2⟩ | ⟨v, q, h1, h2⟩
              · cases h2
              · refine ih q _ R m ?_ h2
                unfold pRule at h1
                rcases res_some h1 with ⟨l, c, e, _, h4⟩ | ⟨n, k, h3, h4⟩
                · cases h4
                · have a1 := nam_at h3
                  have a2 : k < (T ++ [e]).length := by
                    unfold nam at h3
                    split at h3
                    · rename_i hk
                      have := hE i (by rw [hk]; decide)
                      omega
                    · unfold Res.bad at h3; cases h3
                  rcases res_some h4 with ⟨l, c, e, _, h6⟩ | ⟨u, k2, h5, h6⟩
                  · cases h6
                  · have a3 := need_inb hE u k2 h5
                    rcases bind_some h6 with ⟨l, c, e, _, h8⟩ | ⟨t, k3, h7, h8⟩
                    · cases h8
                    · rcases res_some h8 with ⟨l, c, e, _, h10⟩ | ⟨u2, k4, h9, h10⟩
                      · cases h10
                      · have a4 := need_inb hE u2 k4 h9
                        injection h10 with h10
                        injection h10 with _ h10
                        omega
          · injection h with h
            injection h with _ h
            omega
      exact this _ _ _ _ _ (by simp; omega) hi
    simp at h4
    omega
  have hE : Ended (T ++ [e]) := ended_app T e he
  rcases gram_cases hP with ⟨h0, h1, h3, hG⟩ | ⟨h0, hG, hst⟩
  · have hl2 : 2 < T.length := by
      have := hE 2 (sg_kind h3)
      simp at this
      omega
    have hj := hjT 3 hG (by omega) hE
    obtain ⟨F, hF⟩ := key 3 hG hj
    refine ⟨k + T.length, parseT_of (F := F) ?_⟩
    have l0 : isSg (T ++ M') 0 37 = true := by unfold isSg at h0 ⊢; rw [hlt 0 (by omega)]; exact h0
    have l2 : isSg (T ++ M') 2 59 = true := by unfold isSg at h3 ⊢; rw [hlt 2 hl2]; exact h3
    unfold pGram
    rw [if_pos l0, tak_short hu]
    show ((nam (T ++ M') 1).bind _) = _
    have hn := nam_go (us := T ++ M') (o := 0) hu h1 (fun q h4 h5 => by
      have : q = 1 := by omega
      subst this
      rw [Nat.add_zero, hlt 1 (by omega)]
      exact ⟨rfl, rfl⟩)
    rw [hn]
    show ((need (T ++ M') 2 59).bind _) = _
    rw [show need (T ++ M') 2 59 = .ok () 3 by unfold need; rw [if_pos l2, tak_short hu]]
    show ((pRules (T ++ M') F 3 []).bind _) = _
    rw [hF]
    rfl
  · have hl0 : 0 < T.length := by
      rcases Nat.eq_zero_or_pos T.length with h4 | h4
      · exfalso
        have hT0 : T = [] := List.eq_nil_of_length_eq_zero h4
        rw [hT0] at hG
        rw [show 7 * (([] : List Tk) ++ [e]).length + 8 = 14 + 1 from rfl, pRules, if_pos (.inl rfl), if_neg (by simp)] at hG
        unfold pRule nam at hG
        rw [if_neg (by show ¬ e.kind = 1; rw [he]; decide)] at hG
        unfold Res.bad Res.bind at hG
        injection hG with hG
        cases hG
      · exact h4
    have hj := hjT 0 hG (by omega) hE
    obtain ⟨F, hF⟩ := key 0 hG hj
    obtain ⟨ra, _, _, _, h0a, _⟩ := rules_run (T ++ [e]) _ 0 [] G.rules j hG
    refine ⟨k + T.length, parseT_of (F := F) ?_⟩
    have l0 : isSg (T ++ M') 0 37 = false := by unfold isSg at h0 ⊢; rw [hlt 0 hl0]; exact h0
    unfold pGram
    rw [if_neg (by rw [l0]; decide), hF]
    show some (Res.ok (Gram.mk ((G.rules ++ H.rules).headD ([], .node 0 [] [])).1 (G.rules ++ H.rules)) (k + T.length)) = _
    rw [show ((G.rules ++ H.rules).headD ([], .node 0 [] [])).1 = G.start by
      rw [hst]
      cases hr2 : G.rules with
      | nil => rw [hr2] at h0a; simp at h0a
      | cons a l => rfl]
end Go.Proofs.Ytakihbjfkpebcaa.Sx
