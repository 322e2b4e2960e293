/-
  What all trees are of which a parse is made.
-/
import Derived.Test.YtakihbjfkpebcaaSxShift
namespace Go.Proofs.Ytakihbjfkpebcaa.Sx
open Lx (Tk)
set_option maxRecDepth 100000
variable {α β : Type}

/-- Whatever is told is one of those. -/
def All (T : α → Prop) (x : Option (Res α)) : Prop := ∀ v j, x = some (.ok v j) → T v
theorem all_bind {S : α → Prop} {T : β → Prop} {x : Option (Res α)} {f : α → Nat → Option (Res β)} (hx : All S x) (hf : ∀ v j, x = some (.ok v j) → S v → All T (f v j)) : All T (x.bind fun r => r.bind f) := by
  intro v j h
  rcases bind_some h with ⟨l, c, e, _, h2⟩ | ⟨v2, j2, h1, h2⟩
  · cases h2
  · exact hf v2 j2 h1 (hx v2 j2 h1) v j h2
theorem all_res {T : β → Prop} {x : Res α} {f : α → Nat → Option (Res β)} (hf : ∀ v j, x = .ok v j → All T (f v j)) : All T (x.bind f) := by
  intro v j h
  rcases res_some h with ⟨l, c, e, _, h2⟩ | ⟨v2, j2, h1, h2⟩
  · cases h2
  · exact hf v2 j2 h1 v j h2
theorem all_ok {T : α → Prop} {v : α} {j : Nat} (h : T v) : All T (some (Res.ok v j)) := by
  intro v' j' e
  injection e with e
  injection e with e _
  rw [← e]; exact h
theorem all_bad {T : α → Prop} (ts : List Tk) (i code : Nat) : All T (some (Res.bad (α := α) ts i code)) := by
  intro v j e
  injection e with e
  unfold Res.bad at e
  cases e

section
variable (ts : List Tk) (hE : Ended ts) (T : Tree → Prop)
  (h1 : ∀ i, (tkAt ts i).kind = 1 → T (.node 1 (tkAt ts i).text [])) (h2 : ∀ i, (tkAt ts i).kind = 2 → T (.node 2 (tkAt ts i).text []))
  (h3 : ∀ acc : List Tree, (∀ a ∈ acc, T a) → acc.length ≤ ts.length → acc.length ≠ 1 → T (.node 3 [] acc))
  (h4 : ∀ acc : List Tree, (∀ a ∈ acc, T a) → acc.length ≤ ts.length + 1 → 2 ≤ acc.length → T (.node 4 [] acc))
  (h5 : ∀ (k : Nat) (t : Tree), k = 5 ∨ k = 6 ∨ k = 7 → T t → T (.node k [] [t]))
include hE h1 h2 h3 h4 h5

theorem tree_all : ∀ f : Nat,
    (∀ d i, i < ts.length → All T (pAlt ts f d i)) ∧ (∀ d i acc, i < ts.length → (∀ a ∈ acc, T a) → 0 < acc.length → acc.length ≤ i + 1 → All T (pMore ts f d i acc)) ∧ (∀ d i, i < ts.length → All T (pRow ts f d i)) ∧
    (∀ d i acc, i < ts.length → (∀ a ∈ acc, T a) → acc.length ≤ i → All T (pItems ts f d i acc)) ∧ (∀ d i, i < ts.length → All T (pItem ts f d i)) ∧ (∀ d i, i < ts.length → All T (pAtom ts f d i))
  | 0 => ⟨(fun d i _ v j h => by rw [pAlt] at h; cases h), (fun d i acc _ _ _ _ v j h => by rw [pMore] at h; cases h), (fun d i _ v j h => by rw [pRow] at h; cases h), (fun d i acc _ _ _ v j h => by rw [pItems] at h; cases h), (fun d i _ v j h => by rw [pItem] at h; cases h), (fun d i _ v j h => by rw [pAtom] at h; cases h)⟩
  | f + 1 => by
    obtain ⟨ih1, ih2, ih3, ih4, ih5, ih6⟩ := tree_all f
    obtain ⟨n1, n2, n3, n4, n5, n6⟩ := inb_all ts hE f
    obtain ⟨a1, a2, a3, a4, a5, a6⟩ := adv_all ts f
    have snoc : ∀ {acc : List Tree} {t : Tree}, (∀ a ∈ acc, T a) → T t → ∀ a ∈ acc ++ [t], T a := fun h ht a ha => by
      rcases List.mem_append.1 ha with h' | h'
      · exact h a h'
      · rw [List.mem_singleton.1 h']; exact ht
    refine ⟨fun d i hi => ?_, fun d i acc hi ha h0 hl => ?_, fun d i hi => ?_, fun d i acc hi ha hl => ?_, fun d i hi => ?_, fun d i hi => ?_⟩
    · rw [pAlt]
      exact all_bind (ih3 d i hi) fun t j e ht => ih2 d j [t] (n3 d i hi t j e) (fun a ha => by rw [List.mem_singleton.1 ha]; exact ht) (by simp) (by simp)
    · rw [pMore]
      split
      · rename_i hs
        refine all_res fun u j e => ?_
        have hj := tak_inb hE (sg_kind hs) u j e
        have hj2 := tak_at e
        refine all_bind (ih3 d j hj) fun t k e2 ht => ?_
        have := a3 d j t k e2
        exact ih2 d k _ (n3 d j hj t k e2) (snoc ha ht) (by simp) (by simp; omega)
      · refine all_ok ?_
        unfold joined
        split
        · exact ha _ (by simp)
        · rename_i hne
          refine h4 acc ha (by omega) ?_
          rcases acc with _ | ⟨a, _ | ⟨b, l⟩⟩
          · simp at h0
          · exact absurd rfl (hne a)
          · simp
    · rw [pRow]; exact ih4 d i [] hi (fun a ha => absurd ha (by simp)) (by simp)
    · rw [pItems]
      split
      · refine all_bind (ih5 d i hi) fun t j e ht => ?_
        have := a5 d i t j e
        exact ih4 d j _ (n5 d i hi t j e) (snoc ha ht) (by simp; omega)
      · refine all_ok ?_
        unfold joined
        split
        · exact ha _ (by simp)
        · rename_i hne
          refine h3 acc ha (by omega) ?_
          rcases acc with _ | ⟨a, _ | ⟨b, l⟩⟩
          · simp
          · exact absurd rfl (hne a)
          · simp
    · rw [pItem]
      refine all_bind (ih6 d i hi) fun t j e ht => ?_
      split
      · exact all_res fun u k _ => all_ok (h5 6 t (by omega) ht)
      · split
        · exact all_res fun u k _ => all_ok (h5 7 t (by omega) ht)
        · split
          · exact all_res fun u k _ => all_ok (h5 5 t (by omega) ht)
          · exact all_ok ht
    · rw [pAtom]
      split
      · rename_i h; exact all_res fun u k _ => all_ok (h1 i h)
      · split
        · rename_i h; exact all_res fun u k _ => all_ok (h2 i h)
        · split
          · intro v j h; cases h
          · rename_i c hc
            split
            · exact all_bad _ _ _
            · refine all_res fun u j e => ?_
              have hj := tak_inb hE (clos_kind hc) u j e
              refine all_bind (ih1 (d + 1) j hj) fun t k e2 ht => all_res fun u2 o _ => all_ok ?_
              unfold wrapped
              split
              · exact h5 5 t (by omega) ht
              · split
                · exact h5 6 t (by omega) ht
                · exact ht
theorem rule_all (N : List UInt8 → Prop) (hN : ∀ i, (tkAt ts i).kind = 1 → N (tkAt ts i).text) (f i : Nat) : All (fun v : List UInt8 × Tree => N v.1 ∧ T v.2) (pRule ts f i) := by
  unfold pRule
  refine all_res fun n j e => ?_
  have hn := e
  unfold nam at hn
  split at hn
  · rename_i hk
    have hj := (nam_at e).1
    have hj2 := hE i (by rw [hk]; decide)
    have hnn : N n := by
      cases ht : tak ts i with
      | no l c q => rw [ht] at hn; cases hn
      | ok u k => rw [ht] at hn; injection hn with hn _; rw [← hn]; exact hN i hk
    refine all_res fun u k e2 => ?_
    have hk2 := need_inb hE u k e2
    refine all_bind ((tree_all ts hE T h1 h2 h3 h4 h5 f).1 0 k hk2) fun t m _ ht => all_res fun u2 o _ => all_ok ⟨hnn, ht⟩
  · unfold Res.bad at hn; cases hn
theorem rules_all (N : List UInt8 → Prop) (hN : ∀ i, (tkAt ts i).kind = 1 → N (tkAt ts i).text) : ∀ (f i : Nat) (acc : List (List UInt8 × Tree)), i < ts.length → acc.length ≤ 64 → (∀ v ∈ acc, N v.1 ∧ T v.2) →
    All (fun rs : List (List UInt8 × Tree) => (∀ v ∈ rs, N v.1 ∧ T v.2) ∧ 0 < rs.length ∧ rs.length ≤ 64) (pRules ts f i acc)
  | 0, _, _, _, _, _ => fun v j h => by rw [pRules] at h; cases h
  | f + 1, i, acc, hi, hl, ha => by
    rw [pRules]
    split
    · split
      · exact all_bad _ _ _
      · rename_i h64
        refine all_bind (rule_all ts hE T h1 h2 h3 h4 h5 N hN f i) fun v j e hv => ?_
        have hk : (tkAt ts i).kind = 1 := by
          unfold pRule at e
          rcases res_some e with ⟨l, c, q, _, h2⟩ | ⟨n, k, h3, _⟩
          · cases h2
          · unfold nam at h3
            split at h3
            · assumption
            · unfold Res.bad at h3; cases h3
        have hj : j < ts.length := by
          unfold pRule at e
          rcases res_some e with ⟨l, c, q, _, h2⟩ | ⟨n, k, h3, h4⟩
          · cases h2
          · have hk1 := (nam_at h3).1
            have := hE i (by rw [hk]; decide)
            rcases res_some h4 with ⟨l, c, q, _, h6⟩ | ⟨u, k2, h5, h6⟩
            · cases h6
            · have hk2 := need_inb hE u k2 h5
              rcases bind_some h6 with ⟨l, c, q, _, h8⟩ | ⟨t, k3, h7, h8⟩
              · cases h8
              · rcases res_some h8 with ⟨l, c, q, _, h10⟩ | ⟨u2, k4, h9, h10⟩
                · cases h10
                · have hk4 := need_inb hE u2 k4 h9
                  injection h10 with h10
                  injection h10 with _ h10
                  omega
        refine rules_all N hN f j _ hj (by simp; omega) fun w hw => ?_
        rcases List.mem_append.1 hw with h' | h'
        · exact ha w h'
        · rw [List.mem_singleton.1 h']; exact hv
    · rename_i h
      refine all_ok ⟨ha, ?_, hl⟩
      rcases Nat.eq_zero_or_pos acc.length with h0 | h0
      · exact absurd (.inl h0) h
      · exact h0
theorem gram_all (N : List UInt8 → Prop) (hN : ∀ i, (tkAt ts i).kind = 1 → N (tkAt ts i).text) (f : Nat) (h0 : 0 < ts.length) : All (fun g : Gram => N g.start ∧ (∀ v ∈ g.rules, N v.1 ∧ T v.2) ∧ 0 < g.rules.length ∧ g.rules.length ≤ 64) (pGram ts f) := by
  unfold pGram
  split
  · rename_i hs
    refine all_res fun u i e => ?_
    have hi := tak_inb hE (sg_kind hs) u i e
    refine all_res fun n j e2 => ?_
    have hn := e2
    unfold nam at hn
    split at hn
    · rename_i hk
      have hj := (nam_at e2).1
      have hj2 := hE i (by rw [hk]; decide)
      have hnn : N n := by
        cases ht : tak ts i with
        | no l c q => rw [ht] at hn; cases hn
        | ok u k => rw [ht] at hn; injection hn with hn _; rw [← hn]; exact hN i hk
      refine all_res fun u2 k e3 => ?_
      have hk2 := need_inb hE u2 k e3
      exact all_bind (rules_all ts hE T h1 h2 h3 h4 h5 N hN f k [] hk2 (by simp) (fun v hv => absurd hv (by simp))) fun rs m _ hr => all_ok ⟨hnn, hr.1, hr.2.1, hr.2.2⟩
    · unfold Res.bad at hn; cases hn
  · refine all_bind (rules_all ts hE T h1 h2 h3 h4 h5 N hN f 0 [] h0 (by simp) (fun v hv => absurd hv (by simp))) fun rs m _ hr => all_ok ⟨?_, hr.1, hr.2.1, hr.2.2⟩
    cases rs with
    | nil => have := hr.2.1; simp at this
    | cons a l => exact (hr.1 a (by simp)).1
end
end Go.Proofs.Ytakihbjfkpebcaa.Sx
