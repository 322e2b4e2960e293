/-
  Layer 7 in plain words: the names that a grammar uses, and what is wrong with it.
  How many names a parse can have: no more than tokens.
  The walk of syntax.Refs.
-/
import Derived.Test.YtakihbjfkpebcaaSxText
import Derived.Test.YtakihbjfkpebcaaSxTrees
import Derived.Test.YtakihbjfkpebcaaGn
import Derived.Deep.AppendLies

namespace Go.Proofs.Ytakihbjfkpebcaa.Sx
set_option maxRecDepth 100000

abbrev Nam := List UInt8
/-- A tree whose texts and rows are no longer than so. -/
inductive SmW : Tree → Prop
  | mk (k : Nat) (t : List UInt8) (l : List Tree) (ht : t.length ≤ 1048576) (h : l.length ≤ 1048576) (hl : ∀ a ∈ l, SmW a) : SmW (.node k t l)
mutual
/-- The names that a tree uses, from the left. -/
def refs : Tree → List Nam
  | .node k t l => if k = 1 then [t] else refsL l
def refsL : List Tree → List Nam
  | [] => []
  | a :: r => refs a ++ refsL r
end
theorem refsL_snoc (a : Tree) : ∀ l : List Tree, refsL (l ++ [a]) = refsL l ++ refs a
  | [] => by simp [refsL]
  | b :: l => by rw [List.cons_append, refsL, refsL, refsL_snoc a l, List.append_assoc]
/-- How many nodes a tree has at most names in. -/
theorem refsL_take (l : List Tree) (i : Nat) (h : i < l.length) : refsL (l.take (i + 1)) = refsL (l.take i) ++ refs l[i] := by
  rw [List.take_succ_eq_append_getElem h, refsL_snoc]
/-- The place of the first rule of a name; -1. -/
def firstGo : List Rul → Nam → Nat → Int
  | [], _, _ => -1
  | r :: rs, n, k => if r.1 = n then (k : Int) else firstGo rs n (k + 1)
def firstP (rs : List Rul) (n : Nam) : Int := firstGo rs n 0
/-- Each once. -/
def onceGo : List Nam → List Nam → List Nam
  | acc, [] => acc
  | acc, a :: r => if a ∈ acc then onceGo acc r else onceGo (acc ++ [a]) r
def onceP (l : List Nam) : List Nam := onceGo [] l
abbrev Prb := Nat × Int × Nam
def noneP (rs : List Rul) (k : Nat) (l : List Nam) : List Prb := (l.filter fun n => decide (firstP rs n = -1)).map fun n => (10, (k : Int), n)
def ruleP (rs : List Rul) (k : Nat) (r : Rul) : List Prb := (if firstP rs r.1 = (k : Int) then [] else [(9, (k : Int), r.1)]) ++ noneP rs k (onceP (refs r.2))
def rulesGo (rs : List Rul) : Nat → List Rul → List Prb
  | _, [] => []
  | k, r :: l => ruleP rs k r ++ rulesGo rs (k + 1) l
def checkP (G : Gram) : List Prb := rulesGo G.rules 0 G.rules ++ (if firstP G.rules G.start = -1 then [(19, -1, G.start)] else [])
theorem rulesGo_snoc (rs : List Rul) (r : Rul) : ∀ (l : List Rul) (k : Nat), rulesGo rs k (l ++ [r]) = rulesGo rs k l ++ ruleP rs (k + l.length) r
  | [], k => by simp [rulesGo]
  | a :: l, k => by
    rw [List.cons_append, rulesGo, rulesGo, rulesGo_snoc rs r l (k + 1), List.length_cons, List.append_assoc]
    congr 3
    omega
theorem onceGo_snoc (a : Nam) : ∀ (l acc : List Nam), onceGo acc (l ++ [a]) = if a ∈ onceGo acc l then onceGo acc l else onceGo acc l ++ [a]
  | [], acc => by
    rw [List.nil_append, onceGo]
    simp only [onceGo]
  | b :: l, acc => by
    rw [List.cons_append, onceGo, onceGo]
    split
    · exact onceGo_snoc a l acc
    · exact onceGo_snoc a l _
end Go.Proofs.Ytakihbjfkpebcaa.Sx

namespace Go.Proofs.Ytakihbjfkpebcaa.Sx
open Lx (Tk)
set_option maxRecDepth 100000
variable {α : Type}

def rc (t : Tree) : Nat := (refs t).length
def rcL (l : List Tree) : Nat := (refsL l).length
theorem rcL_snoc (l : List Tree) (t : Tree) : rcL (l ++ [t]) = rcL l + rc t := by unfold rcL rc; rw [refsL_snoc, List.length_append]
theorem rc_node (k : Nat) (t : List UInt8) (l : List Tree) (hk : k ≠ 1) : rc (.node k t l) = rcL l := by unfold rc rcL; rw [refs, if_neg hk]
theorem rc_joined (k : Nat) (hk : k ≠ 1) (l : List Tree) : rc (joined k l) ≤ rcL l := by
  unfold joined
  split
  · rename_i t; unfold rcL rc; rw [refsL, refsL, List.append_nil]; exact Nat.le_refl _
  · rw [rc_node k _ _ hk]; exact Nat.le_refl _
theorem rc_around (k : Nat) (hk : k ≠ 1) (t : Tree) : rc (around k t) = rc t := by
  unfold around
  rw [rc_node k _ _ hk]
  unfold rcL rc
  rw [refsL, refsL, List.append_nil]
theorem rc_wrapped (c : UInt8) (t : Tree) : rc (wrapped c t) = rc t := by
  unfold wrapped
  split
  · exact rc_around 5 (by decide) t
  · split
    · exact rc_around 6 (by decide) t
    · rfl
/-- Of a value at j no more than a names more than tokens gone over from i. -/
def Cn (x : Option (Res Tree)) (i a : Nat) : Prop := ∀ v j, x = some (.ok v j) → rc v + i ≤ j + a
theorem cn_bind {x : Option (Res Tree)} {i a : Nat} {f : Tree → Nat → Option (Res Tree)} (hf : ∀ v j, x = some (.ok v j) → Cn (f v j) i a) : Cn (x.bind fun r => r.bind f) i a := by
  intro v j h
  rcases bind_some h with ⟨l, c, e, _, h2⟩ | ⟨v2, j2, h1, h2⟩
  · cases h2
  · exact hf v2 j2 h1 v j h2
theorem cn_res {x : Res α} {i a : Nat} {f : α → Nat → Option (Res Tree)} (hf : ∀ v j, x = .ok v j → Cn (f v j) i a) : Cn (x.bind f) i a := by
  intro v j h
  rcases res_some h with ⟨l, c, e, _, h2⟩ | ⟨v2, j2, h1, h2⟩
  · cases h2
  · exact hf v2 j2 h1 v j h2
theorem cn_ok {v : Tree} {i j a : Nat} (h : rc v + i ≤ j + a) : Cn (some (Res.ok v j)) i a := by
  intro u k e
  injection e with e
  injection e with e1 e2
  subst e1
  subst e2
  exact h
theorem cn_bad (ts : List Tk) (i i' code a : Nat) : Cn (some (Res.bad ts i' code)) i a := by
  intro u k e
  injection e with e
  unfold Res.bad at e
  cases e
theorem Cn.mono {x : Option (Res Tree)} {i a i' a' : Nat} (h : Cn x i a) (h2 : i' + a ≤ i + a') : Cn x i' a' := fun v j e => by have := h v j e; omega
theorem cn_all (ts : List Tk) : ∀ f : Nat,
    (∀ d i, Cn (pAlt ts f d i) i 0) ∧ (∀ d i acc, Cn (pMore ts f d i acc) i (rcL acc)) ∧ (∀ d i, Cn (pRow ts f d i) i 0) ∧
    (∀ d i acc, Cn (pItems ts f d i acc) i (rcL acc)) ∧ (∀ d i, Cn (pItem ts f d i) i 0) ∧ (∀ d i, Cn (pAtom ts f d i) i 0)
  | 0 => ⟨(fun d i v j h => by rw [pAlt] at h; cases h), (fun d i acc v j h => by rw [pMore] at h; cases h), (fun d i v j h => by rw [pRow] at h; cases h), (fun d i acc v j h => by rw [pItems] at h; cases h), (fun d i v j h => by rw [pItem] at h; cases h), (fun d i v j h => by rw [pAtom] at h; cases h)⟩
  | f + 1 => by
    obtain ⟨ih1, ih2, ih3, ih4, ih5, ih6⟩ := cn_all ts f
    refine ⟨fun d i => ?_, fun d i acc => ?_, fun d i => ?_, fun d i acc => ?_, fun d i => ?_, fun d i => ?_⟩
    · rw [pAlt]
      refine cn_bind fun t j hj => (ih2 d j [t]).mono ?_
      have h1 := ih3 d i t j hj
      have h2 : rcL [t] = rc t := by unfold rcL rc; rw [refsL, refsL, List.append_nil]
      omega
    · rw [pMore]
      split
      · refine cn_res fun u j hj => cn_bind fun t k hk => (ih2 d k _).mono ?_
        have h1 := ih3 d j t k hk
        have h2 := tak_at hj
        rw [rcL_snoc]
        omega
      · exact cn_ok (by have := rc_joined 4 (by decide) acc; omega)
    · rw [pRow]; exact ih4 d i []
    · rw [pItems]
      split
      · refine cn_bind fun t j hj => (ih4 d j _).mono ?_
        have h1 := ih5 d i t j hj
        rw [rcL_snoc]
        omega
      · exact cn_ok (by have := rc_joined 3 (by decide) acc; omega)
    · rw [pItem]
      refine cn_bind fun t j hj => ?_
      have h1 := ih6 d i t j hj
      have go : ∀ (t' : Tree), rc t' = rc t → Cn ((tak ts j).bind fun _ k => some (.ok t' k)) i 0 := fun t' e => cn_res fun u k hk => by
        have := tak_at hk
        exact cn_ok (by omega)
      split
      · exact go _ (rc_around 6 (by decide) t)
      · split
        · exact go _ (rc_around 7 (by decide) t)
        · split
          · exact go _ (rc_around 5 (by decide) t)
          · exact cn_ok (by omega)
    · rw [pAtom]
      split
      · refine cn_res fun u k hk => ?_
        have := tak_at hk
        refine cn_ok ?_
        unfold rc
        rw [refs, if_pos rfl]
        simp; omega
      · split
        · refine cn_res fun u k hk => ?_
          have := tak_at hk
          refine cn_ok ?_
          rw [rc_node 2 _ _ (by decide)]
          simp [rcL, refsL]; omega
        · split
          · intro v j h; cases h
          · rename_i c hc
            split
            · exact cn_bad _ _ _ _ _
            · refine cn_res fun u j hj => ?_
              have h1 := tak_at hj
              refine cn_bind fun t k hk => cn_res fun u2 o ho => ?_
              have h2 := need_at ho
              have h3 := ih1 (d + 1) j t k hk
              exact cn_ok (by rw [rc_wrapped]; omega)
theorem rule_cn (ts : List Tk) (f i : Nat) : All (fun v : List UInt8 × Tree => rc v.2 ≤ ts.length) (pRule ts f i) := by
  unfold pRule
  refine all_res fun n j hj => all_res fun u k hk => all_bind (S := fun _ => True) (fun _ _ _ => trivial) fun t m hm _ => all_res fun u2 o ho => all_ok ?_
  have h1 := (cn_all ts f).1 0 k t m hm
  have h2 := need_at ho
  show rc t ≤ ts.length
  omega
theorem rules_cn (ts : List Tk) : ∀ (f i : Nat) (acc : List (List UInt8 × Tree)), (∀ v ∈ acc, rc v.2 ≤ ts.length) → All (fun l : List (List UInt8 × Tree) => ∀ v ∈ l, rc v.2 ≤ ts.length) (pRules ts f i acc)
  | 0, i, acc, _ => by intro v j h; rw [pRules] at h; cases h
  | f + 1, i, acc, ha => by
    rw [pRules]
    split
    · split
      · exact all_bad _ _ _
      · refine all_bind (rule_cn ts f i) fun v j _ hv => rules_cn ts f j _ fun w hw => ?_
        rcases List.mem_append.1 hw with hw | hw
        · exact ha w hw
        · rw [List.mem_singleton.1 hw]; exact hv
    · exact all_ok ha
theorem gram_cn (ts : List Tk) (f : Nat) : All (fun g : Gram => ∀ v ∈ g.rules, rc v.2 ≤ ts.length) (pGram ts f) := by
  unfold pGram
  split
  · exact all_res fun _ i _ => all_res fun n j _ => all_res fun _ k _ => all_bind (rules_cn ts f k [] (by simp)) fun rs m _ h => all_ok h
  · exact all_bind (rules_cn ts f 0 [] (by simp)) fun rs m _ h => all_ok h
end Go.Proofs.Ytakihbjfkpebcaa.Sx

namespace Go.Proofs.Ytakihbjfkpebcaa.Sx
open Go.RowKit
set_option maxRecDepth 100000
set_option linter.unusedSimpArgs false
set_option linter.unusedVariables false

theorem strinfo : (Try.prog.info? 9).map (fun i => (i.zero, i.size, i.bytes)) = some (some (.string ⟨#[]⟩), 1, 16) := by kernel_rfl
def strV (n : Nam) : Value := .string (Lx.mk n)
def RefCtr (t : Tree) : Prop := ∀ (P : Nat → Prop) (B : Nat) (W : World) (x y z v : Value) (k : Nat) (xs : List Nam), Nd P W t x y z → (∀ r, P r → r < B) → B ≤ W.heap.size → W.ownsRow B 9 1 v k (xs.map strV) → k + (refs t).length ≤ 4398046511104 →
  Calls Try.prog 41 #[v, .agg #[x, y, z]] W fun e w' => ∃ v', e = .returned v' ∧ w'.ownsRow B 9 1 v' (k + (refs t).length) ((xs ++ refs t).map strV) ∧ Below B W w'
theorem refsL_len (l : List Tree) : ∀ j, (refsL (l.take j)).length ≤ (refsL l).length := by
  induction l with
  | nil => intro j; simp [refsL]
  | cons a r ih =>
    intro j
    cases j with
    | zero => simp [refsL]
    | succ j =>
      rw [List.take_succ_cons, refsL, refsL, List.length_append, List.length_append]
      have := ih j
      omega

set_option maxHeartbeats 4000000 in
theorem refs_any {t : Tree} (h : SmW t) : RefCtr t := by
  induction h with
  | mk kd tx l htl hlen hl ih =>
    intro P B W x y z v k xs hnd hP hB hown hbig
    obtain ⟨i0, hi0, hz0, hz1, hz2⟩ := info_parts strinfo
    cases hnd with
    | mk _ _ _ A cap r a b c hA hcap hc hk =>
    obtain ⟨Av, cv, rfl⟩ := Gn.slice_of hown
    obtain ⟨m, hm⟩ : ∃ m, m = l.length := ⟨_, rfl⟩
    rw [← hm] at hA hcap hc hlen ⊢
    have HMM := Lib.hid hm
    have HA := Lib.hid hA
    have HC := Lib.hid hc
    have HK := Lib.hid hk
    have HP := Lib.hid hP
    have HIH := Lib.hid ih
    have HLW := Lib.hid hl
    have hown1 : (W.alloc (.cells #[.int .i64 kd, .string (Lx.mk tx), .slice A m cap] 63)).ownsRow B 9 1 (.slice Av k cv) k (xs.map strV) := hown.alloc _
    have hb1 : Below B W (W.alloc (.cells #[.int .i64 kd, .string (Lx.mk tx), .slice A m cap] 63)) := (Below.refl _ _).alloc hB _
    have HO1 := Lib.hid hown1
    have HB1 := Lib.hid hb1
    obtain ⟨s, hs⟩ : ∃ s, s = Lx.mk tx := ⟨_, rfl⟩
    rw [← hs] at HO1 HB1 ⊢
    have HS := Lib.hid hs
    clear hm hA hc hk hP ih hl hown hown1 hb1 hs
    by_cases hkd : kd = 1
    · have e0 : ((kd : Int) == 1) = true := by rw [hkd]; rfl
      have er : refs (.node kd tx l) = [tx] := by rw [refs, if_pos hkd]
      rw [er] at hbig ⊢
      have HNEW := Lib.hid (Gn.row_new (W.alloc (.cells #[.int .i64 kd, .string s, .slice A m cap] 63)) [.string s] 9 (W.heap.size + 1) (by simp))
      have HO2 := Lib.hid (HO1.out.alloc (.cells #[.string s] 9))
      clear hkd er
      simp only [List.length_cons, List.length_nil] at hbig ⊢
      go_enter Try.func41, Try.ntmps41
      go_wp2_with (at_builtin; refine wpList_append_lies _ rfl _ _ 34 rfl B 9 i0 _ 1 16 Try.underlying34 hi0 hz0 hz1 hz2 rfl (by decide) (.slice Av k cv) k _ rfl HO2.out ⟨W.heap.size + 1, 0, none⟩ 1 1 [.string s] rfl rfl HNEW.out (by simp [Value.oneCell']) (by decide) (by unfold maxLen; omega) (by omega) (by simp; omega) _ rfl ?_; intro gq cap' w4 hown4 hgrow4 hat4 hlt4; have HO4 := Lib.hid (show w4.ownsRow B 9 1 (.slice (some ⟨gq, 0, none⟩) (k + 1) cap') (k + 1) ((xs ++ [tx]).map strV) by rw [List.map_append]; unfold strV; rw [List.map_singleton, ← HS.out]; exact hown4); have HB4 := Lib.hid ((HB1.out.alloc (by simp; omega) _).grown hgrow4 (by simp; omega) (fun j hj => Gn.own_block HO1.out j hj)); clear hown4 hgrow4 hat4 hlt4)
      go_ret
      exact ⟨_, rfl, HO4.out, HB4.out⟩
    · have e0 : ((kd : Int) == 1) = false := by rw [beq_eq_false_iff_ne]; omega
      have er : refs (.node kd tx l) = refsL l := by rw [refs, if_neg hkd]
      rw [er] at hbig ⊢
      clear hkd er
      go_enter Try.func41, Try.ntmps41
      go_wp2_with fail
      generalize hV : World.alloc W _ = V
      rw [hV] at HO1 HB1
      clear hV
      go_loopw [0, 18] (fun nv i wr => ∃ (j : Nat), j ≤ m ∧ i = .int .i64 j ∧ wr.ownsRow B 9 1 nv (k + (refsL (l.take j)).length) ((xs ++ refsL (l.take j)).map strV) ∧ Below B W wr ∧ B ≤ wr.heap.size) (fun _ i _ => m - (intOf i).toNat)
      case atStart => exact ⟨0, Nat.zero_le _, rfl, by simpa [refsL] using HO1.out, HB1.out, by have := HB1.out.size; omega⟩
      case round =>
        obtain ⟨j, hj, rfl, hown, hb, hsz⟩ := hrel
        have HO := Lib.hid hown
        have HB := Lib.hid hb
        clear hown hb
        by_cases hjm : j < m
        · have hjm2 : (j : Int) < (m : Int) := by omega
          have hjl : j < l.length := by rw [← HMM.out]; exact hjm
          obtain ⟨eA, hr, hPr⟩ := HA.out (by omega)
          subst eA
          have hrB : r < B := HP.out r hPr
          obtain ⟨q0, q1, q2⟩ := HC.out j hjm
          have y0 := (HB.out.cell (p := ⟨r, j * 3, none⟩) hrB).trans q0
          have y1 := (HB.out.cell (p := ⟨r, j * 3 + 1, none⟩) hrB).trans q1
          have y2 := (HB.out.cell (p := ⟨r, j * 3 + 2, none⟩) hrB).trans q2
          have hkj := (HK.out j hjl).keep (Q := P) HB.out.size (fun q hp _ => ⟨hp, fun i => HB.out.cell (p := ⟨q, i, none⟩) (HP.out q hp)⟩)
          have hlt := refsL_take l j hjl
          have hle := refsL_len l (j + 1)
          have HTL := Lib.hid hlt
          have hlen2 : (refsL (l.take (j + 1))).length = (refsL (l.take j)).length + (refs l[j]).length := by rw [hlt, List.length_append]
          have HL2 := Lib.hid hlen2
          obtain ⟨kk, ss, AA, qq, cc, f1, f2, f3⟩ := hkj.form
          rw [f1] at y0
          rw [f2] at y1
          rw [f3] at y2
          rw [f1, f2, f3] at hkj
          have HKJ := Lib.hid (fun o => (HIH.out _ (List.getElem_mem hjl)) P B (wr.alloc o) _ _ _ _ _ _ (hkj.under ((Below.refl _ _).alloc (Nat.le_refl _) o)) HP.out (by simp; omega) (HO.out.alloc o) (by omega))
          clear q0 q1 q2 hkj hlt hle hlen2 f1 f2 f3
          go_wp2_with fail
          refine (HKJ.out _).mono ?_
          rintro e w3 ⟨v3, rfl, ho3, hb3⟩
          have HO3 := Lib.hid (show w3.ownsRow B 9 1 v3 (k + (refsL (l.take (j + 1))).length) ((xs ++ refsL (l.take (j + 1))).map strV) by rw [HL2.out, HTL.out, ← Nat.add_assoc, ← List.append_assoc]; exact ho3)
          have HB3 := Lib.hid ((HB.out.alloc hsz _).trans hb3)
          have hs3 : B ≤ w3.heap.size := by have := hb3.size; simp at this; omega
          clear ho3 hb3 y0 y1 y2
          go_wp2_with fail
          go_roundw
          case rel => exact ⟨j + 1, by omega, by simp, HO3.out, HB3.out, hs3⟩
          case measure => simp [intOf]; omega
        · have hje : m = j := by omega
          subst hje
          have hjm2 : ¬ ((m : Nat) : Int) < ((m : Nat) : Int) := by omega
          have HT := Lib.hid (show l.take m = l by rw [HMM.out, List.take_length])
          go_wp2_with fail
          go_ret
          exact ⟨_, rfl, by have := HO.out; rw [HT.out, List.map_append] at this; exact this, HB.out⟩
/-- Refs tells the names in a row of its own. -/
theorem Refs_any {t : Tree} (h : SmW t) (P : Nat → Prop) (W : World) (x y z : Value) (hnd : Nd P W t x y z) (hP : ∀ r, P r → r < W.heap.size) (hbig : (refs t).length ≤ 4398046511104) :
    Calls Try.prog 28 #[.agg #[x, y, z]] W fun e w' => ∃ v', e = .returned v' ∧ w'.ownsRow W.heap.size 9 1 v' (refs t).length ((refs t).map strV) ∧ Below W.heap.size W w' := by
  have HK := Lib.hid (refs_any h P W.heap.size (W.alloc (.cells #[x, y, z] 63)) x y z (.slice none 0 0) 0 [] (hnd.under ((Below.refl _ _).alloc (Nat.le_refl _) _)) hP (by simp) (World.ownsRow_nil _ _ _ _) (by omega))
  obtain ⟨ka, ta, Aa, na, ca, rfl, rfl, rfl⟩ := hnd.form
  go_enter Try.func28, Try.ntmps28
  go_wp2_with fail
  refine HK.out.mono ?_
  rintro e w3 ⟨v3, rfl, ho3, hb3⟩
  have HO3 := Lib.hid ho3
  have HB3 := Lib.hid (((Below.refl W.heap.size W).alloc (Nat.le_refl _) _).trans hb3)
  clear ho3 hb3
  go_wp2
  go_ret
  exact ⟨_, rfl, by have := HO3.out; rw [Nat.zero_add, List.nil_append] at this; exact this, HB3.out⟩
end Go.Proofs.Ytakihbjfkpebcaa.Sx
