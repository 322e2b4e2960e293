/-
  Layer 23: what a good message keeps; its bytes, and the message again.
-/
import Derived.Test.YtgbpofgmomglfaaDoorMsRv
import Derived.Test.YtgbpofgmomglfaaDoorMsPu
namespace Go.Proofs.YtgbpofgmomglfaaDoor.Ms
open Oct (pb bs rng eText eLen eInt eBool app)
open Go.RowKit
set_option maxRecDepth 100000
set_option linter.unusedSimpArgs false
set_option linter.unusedVariables false

theorem bad_rng {x : Int} (h : badN x = false) : ¬ rng x ∧ 0 ≤ x ∧ x ≤ 9007199254740992 := by
  unfold badN at h
  simp only [Bool.or_eq_false_iff, decide_eq_false_iff_not] at h
  unfold rng
  omega
theorem size0 (t : ByteArray) (h : t.size = 0) : t = ⟨#[]⟩ := by
  apply ByteArray.ext
  exact Array.size_eq_zero_iff.1 h
structure Good (m : Msg) (r : Int) : Prop where
  grp : r = 3 ∨ r = 5 ∨ r = 7
  k1 : 1 ≤ m.kind
  k12 : m.kind ≤ 12
  bare : emptyB (wipeM m) = true
  num : ∀ j, isNum j = true → ¬ rng (numAt m j)
  known : m.kind = 1 ∨ ((m.known.length : Int) = r ∧ ∀ n ∈ m.known, ¬ rng n)
  text : m.text.size ≤ 8192
  state : m.state.size ≤ 65536
  size : (m.ents.length : Int) = sizeM m
  en : m.ents.length ≤ 64
  ej : ∀ y ∈ m.ents, entOk y ∧ y.text.size ≤ 8192
theorem good_of {m : Msg} {r : Int} (h : goodM m r = true) : Good m r := by
  unfold goodM at h
  simp only [Bool.and_eq_true, decide_eq_true_eq, Bool.not_eq_true'] at h
  obtain ⟨⟨⟨⟨⟨⟨⟨⟨⟨⟨⟨⟨⟨⟨⟨g1, g2⟩, g3⟩, g4⟩, g5⟩, g6⟩, g7⟩, g8⟩, g9⟩, g10⟩, g11⟩, g12⟩, g13⟩, g14⟩, g15⟩, g16⟩ := h
  have hk : 1 ≤ m.kind ∧ m.kind ≤ 12 := by unfold knownB at g2; simpa using g2
  refine ⟨?_, hk.1, hk.2, g3, ?_, ?_, g7, g12, g14, g15, ?_⟩
  · unfold groupB at g1
    simp only [Bool.or_eq_true, decide_eq_true_eq] at g1
    omega
  · intro j hj
    have hb := List.any_eq_false.1 g4
    unfold isNum at hj
    simp only [List.contains_cons, List.contains_nil, Bool.or_false, Bool.or_eq_true, beq_iff_eq] at hj
    have key : ∀ x ∈ numsM m, ¬ rng x := fun x hx => (bad_rng (by simpa using hb x hx)).1
    rcases hj with rfl | rfl | rfl | rfl | rfl | rfl | rfl | rfl | rfl | rfl <;> exact key _ (by simp [numsM, numAt])
  · unfold senderB at g5
    simp only [Bool.or_eq_true, Bool.and_eq_true, decide_eq_true_eq, Bool.not_eq_true'] at g5
    rcases g5 with h | ⟨⟨_, h1⟩, h2⟩
    · exact .inl h
    · exact .inr ⟨h1, fun n hn => (bad_rng (by simpa using List.any_eq_false.1 h2 n hn)).1⟩
  · intro y hy
    have hb := List.any_eq_false.1 g16 y hy
    have hb : badE y = false := by simpa using hb
    unfold badE at hb
    simp only [Bool.or_eq_false_iff, decide_eq_false_iff_not] at hb
    obtain ⟨⟨⟨⟨b1, b2⟩, b3⟩, b4⟩, b5⟩ := hb
    exact ⟨⟨(bad_rng b1).1, (bad_rng b3).1, by omega⟩, by omega⟩
theorem Good.kn {m : Msg} {r : Int} (h : Good m r) : m.known.length ≤ 7 := by
  rcases h.known with h1 | ⟨h1, _⟩
  · have hb := h.bare
    have e : (wipeM m).known = m.known := by unfold wipeM wipeK; rw [if_pos h1, if_pos h1]
    unfold emptyB at hb
    simp only [Bool.and_eq_true, decide_eq_true_eq] at hb
    have := hb.1.2
    rw [e] at this
    omega
  · rcases h.grp with h | h | h <;> omega
theorem Good.kj {m : Msg} {r : Int} (h : Good m r) : ∀ n ∈ m.known, ¬ rng n := by
  rcases h.known with h1 | ⟨_, h2⟩
  · have hb := h.bare
    have e : (wipeM m).known = m.known := by unfold wipeM wipeK; rw [if_pos h1, if_pos h1]
    unfold emptyB at hb
    simp only [Bool.and_eq_true, decide_eq_true_eq] at hb
    have := hb.1.2
    rw [e] at this
    rw [List.eq_nil_of_length_eq_zero this]
    intro n hn
    cases hn
  · exact h2
/-! ### The bytes -/
theorem app_int (l : List UInt8) {n : Int} (h : ¬ rng n) : app (some l) (eInt n) = some (l ++ pb n) := by
  unfold eInt
  rw [if_neg h]
  rfl
theorem app_text (l : List UInt8) (t : ByteArray) (h : t.size ≤ 65536) : app (some l) (eText (bs t)) = some (l ++ qT t) := by
  have hl : (bs t).length = t.size := rfl
  unfold eText eLen
  rw [hl, if_neg (by omega), show (t.size : Int) = ((t.size : Nat) : Int) from rfl]
  unfold eInt
  rw [if_neg (by unfold rng; omega)]
  rfl
theorem fold_nums (m : Msg) (js : List Nat) (l : List UInt8) (h : ∀ j ∈ js, ¬ rng (numAt m j)) : js.foldl (fun st j => app st (eInt (numAt m j))) (some l) = some (l ++ (js.map fun j => pb (numAt m j)).flatten) := by
  induction js generalizing l with
  | nil => simp
  | cons j js ih =>
    rw [List.foldl_cons, app_int l (h j (List.mem_cons_self ..)), ih _ fun x hx => h x (List.mem_cons_of_mem _ hx)]
    simp
theorem fold_ints (ks : List Int) (l : List UInt8) (h : ∀ n ∈ ks, ¬ rng n) : ks.foldl (fun st n => app st (eInt n)) (some l) = some (l ++ (ks.map pb).flatten) := by
  induction ks generalizing l with
  | nil => simp
  | cons j js ih =>
    rw [List.foldl_cons, app_int l (h j (List.mem_cons_self ..)), ih _ fun x hx => h x (List.mem_cons_of_mem _ hx)]
    simp
theorem ent_some (l : List UInt8) (y : Ent) (h : entOk y) : eEnt (some l) y = some (l ++ encE y) := by
  unfold eEnt encE
  rw [app_int l h.1, app_int _ h.2.1, app_text _ _ h.2.2]
  simp
theorem fold_ents (ks : List Ent) (l : List UInt8) (h : ∀ y ∈ ks, entOk y) : ks.foldl eEnt (some l) = some (l ++ (ks.map encE).flatten) := by
  induction ks generalizing l with
  | nil => simp
  | cons j js ih =>
    rw [List.foldl_cons, ent_some l j (h j (List.mem_cons_self ..)), ih _ fun x hx => h x (List.mem_cons_of_mem _ hx)]
    simp
theorem next_enc {m : Msg} {r : Int} (hg : Good m r) (l : List UInt8) (a : Sh) (ha : shp a = true) : wrNext m (some l) a = some (l ++ encA m a) := by
  cases a with
  | nums js =>
    unfold shp at ha
    simp only [Bool.and_eq_true, decide_eq_true_eq, List.all_eq_true] at ha
    exact fold_nums m js l fun j hj => hg.num j (ha.2 j hj)
  | known => exact fold_ints _ _ hg.kj
  | text j =>
    unfold shp at ha
    simp only [Bool.or_eq_true, beq_iff_eq] at ha
    refine app_text _ _ ?_
    rcases ha with rfl | rfl
    · exact Nat.le_trans hg.text (by decide)
    · exact hg.state
  | yes => rfl
  | entry => exact fold_ents _ _ fun y hy => (hg.ej y hy).1
  | entries =>
    show m.ents.foldl eEnt (app (some l) (eInt m.ents.length)) = _
    have := hg.en
    rw [app_int l (by unfold rng; omega), fold_ents _ _ fun y hy => (hg.ej y hy).1]
    show some (l ++ pb _ ++ _) = some (l ++ (pb _ ++ _))
    rw [List.append_assoc]
theorem fold_enc {m : Msg} {r : Int} (hg : Good m r) : ∀ (acts : List Sh) (l : List UInt8), acts.all shp = true → acts.foldl (wrNext m) (some l) = some (l ++ (acts.map (encA m)).flatten)
  | [], l, _ => by simp
  | a :: acts, l, h => by
    rw [List.all_cons, Bool.and_eq_true] at h
    rw [List.foldl_cons, next_enc hg l a h.1, fold_enc hg acts _ h.2]
    simp
/-- The bytes of a good message's body. -/
def bodyM (m : Msg) : List UInt8 := pb m.kind ++ ((showA m.kind m.full).map (encA m)).flatten
theorem body_some {m : Msg} {r : Int} (hg : Good m r) : bodyO m = some (bodyM m) := by
  unfold bodyO bodyM
  have h1 := hg.k1
  have h2 := hg.k12
  rw [app_int [] (by unfold rng; omega), fold_enc hg _ _ (show_shp _ _).1]
  rfl
/-! ### Read again -/
def isK : Sh → Bool | .known => true | _ => false
def isE : Sh → Bool | .entry => true | .entries => true | _ => false
def isE1 : Sh → Bool | .entry => true | _ => false
def nod : List Sh → Bool
  | [] => true
  | a :: l => (!isK a || !l.any isK) && (!isE a || !l.any isE) && nod l
theorem setNum_known (x : Msg) (j : Nat) (n : Int) : (setNum x j n).known = x.known ∧ (setNum x j n).ents = x.ents := by
  unfold setNum
  split <;> exact ⟨rfl, rfl⟩
theorem foldNum_known (m : Msg) (js : List Nat) (x : Msg) : (js.foldl (fun x j => setNum x j (numAt m j)) x).known = x.known ∧ (js.foldl (fun x j => setNum x j (numAt m j)) x).ents = x.ents := by
  induction js generalizing x with
  | nil => exact ⟨rfl, rfl⟩
  | cons j js ih =>
    rw [List.foldl_cons]
    have h1 := ih (setNum x j (numAt m j))
    have h2 := setNum_known x j (numAt m j)
    exact ⟨h1.1.trans h2.1, h1.2.trans h2.2⟩
theorem setA_known (m x : Msg) (a : Sh) (h : isK a = false) : (setA m x a).known = x.known := by
  cases a with
  | nums js => exact (foldNum_known m js x).1
  | known => cases h
  | text j => show (setTxt x j (txtAt m j)).known = _; unfold setTxt; split <;> rfl
  | yes => rfl
  | entry => rfl
  | entries => rfl
theorem setA_ents (m x : Msg) (a : Sh) (h : isE a = false) : (setA m x a).ents = x.ents := by
  cases a with
  | nums js => exact (foldNum_known m js x).2
  | known => rfl
  | text j => show (setTxt x j (txtAt m j)).ents = _; unfold setTxt; split <;> rfl
  | yes => rfl
  | entry => cases h
  | entries => cases h
theorem rd_Ok (C : RdC) : ∀ (acts : List Sh) (s : RdS) (l : List UInt8), s.rest = (acts.map (encA C.m)).flatten ++ l → acts.all shp = true → nod acts = true → (acts.any isK = true → s.msg.known = [] ∧ C.m.kind ≠ 1) → (acts.any isE = true → s.msg.ents = []) → (acts.any isE1 = true → C.m.ents.length = 1) →
    (rdV C).Ok s acts ∧ (rdV C).after s acts = ⟨acts.foldl (setA C.m) s.msg, l⟩
  | [], s, l, hr, _, _, _, _, _ => ⟨trivial, by
    show s = _
    have : s.rest = l := by simpa using hr
    cases s
    simp only at this
    rw [this]
    rfl⟩
  | a :: acts, s, l, hr, hs, hn, hk, he, h1 => by
    rw [List.all_cons, Bool.and_eq_true] at hs
    unfold nod at hn
    simp only [Bool.and_eq_true, Bool.or_eq_true, Bool.not_eq_true'] at hn
    obtain ⟨⟨n1, n2⟩, n3⟩ := hn
    rw [List.map_cons, List.flatten_cons, List.append_assoc] at hr
    have hnx : (rdV C).next s a = ⟨setA C.m s.msg a, (acts.map (encA C.m)).flatten ++ l⟩ := next_is C s a _ hr
    have ih := rd_Ok C acts ⟨setA C.m s.msg a, (acts.map (encA C.m)).flatten ++ l⟩ l rfl hs.2 n3 (fun h => by
        have ha : isK a = false := by rcases n1 with h2 | h2; exact h2; rw [h] at h2; cases h2
        have := hk (by rw [List.any_cons, h, Bool.or_true])
        exact ⟨(setA_known C.m s.msg a ha).trans this.1, this.2⟩) (fun h => by
        have ha : isE a = false := by rcases n2 with h2 | h2; exact h2; rw [h] at h2; cases h2
        exact (setA_ents C.m s.msg a ha).trans (he (by rw [List.any_cons, h, Bool.or_true]))) (fun h => h1 (by rw [List.any_cons, h, Bool.or_true]))
    refine ⟨⟨?_, by rw [hnx]; exact ih.1⟩, ?_⟩
    · cases a with
      | nums js =>
        have h := hs.1
        unfold shp at h
        simp only [Bool.and_eq_true, decide_eq_true_eq, List.all_eq_true] at h
        exact ⟨h.1, h.2, _, hr⟩
      | known => have := hk rfl; exact ⟨this.1, this.2, _, hr⟩
      | text j =>
        have h := hs.1
        unfold shp at h
        simp only [Bool.or_eq_true, beq_iff_eq] at h
        exact ⟨h, _, hr⟩
      | yes => exact ⟨_, hr⟩
      | entry => exact ⟨he rfl, h1 rfl, _, hr⟩
      | entries => exact ⟨he rfl, _, hr⟩
    · show (rdV C).after ((rdV C).next s a) acts = _
      rw [hnx]
      exact ih.2
/-- The message that nothing was read of but its kind. -/
def zeroM (k : Int) : Msg := ⟨k, 0, 0, [], 0, 0, 0, 0, 0, 0, 0, ⟨#[]⟩, false, 0, ⟨#[]⟩, []⟩
theorem acts_nod (k : Int) (f : Bool) (h1 : 1 ≤ k) (h2 : k ≤ 12) : nod (showA k f) = true ∧ ((showA k f).any isK = true → k ≠ 1) ∧ ((showA k f).any isE1 = true → k = 2) := by
  by_cases k1 : k = 1
  · subst k1
    exact ⟨by cases f <;> rfl, by cases f <;> decide, by cases f <;> decide⟩
  by_cases k2 : k = 2
  · subst k2
    exact ⟨by cases f <;> rfl, by cases f <;> decide, by cases f <;> decide⟩
  by_cases k3 : k = 3
  · subst k3
    exact ⟨by cases f <;> rfl, by cases f <;> decide, by cases f <;> decide⟩
  by_cases k4 : k = 4
  · subst k4
    exact ⟨by cases f <;> rfl, by cases f <;> decide, by cases f <;> decide⟩
  by_cases k5 : k = 5
  · subst k5
    exact ⟨by cases f <;> rfl, by cases f <;> decide, by cases f <;> decide⟩
  by_cases k6 : k = 6
  · subst k6
    exact ⟨by cases f <;> rfl, by cases f <;> decide, by cases f <;> decide⟩
  by_cases k7 : k = 7
  · subst k7
    exact ⟨by cases f <;> rfl, by cases f <;> decide, by cases f <;> decide⟩
  by_cases k8 : k = 8
  · subst k8
    exact ⟨by cases f <;> rfl, by cases f <;> decide, by cases f <;> decide⟩
  by_cases k9 : k = 9
  · subst k9
    exact ⟨by cases f <;> rfl, by cases f <;> decide, by cases f <;> decide⟩
  by_cases k11 : k = 11
  · subst k11
    exact ⟨by cases f <;> rfl, by cases f <;> decide, by cases f <;> decide⟩
  by_cases k12 : k = 12
  · subst k12
    exact ⟨by cases f <;> rfl, by cases f <;> decide, by cases f <;> decide⟩
  have k10 : k = 10 := by omega
  subst k10
  exact ⟨by cases f <;> rfl, by cases f <;> decide, by cases f <;> decide⟩
theorem empty_parts {m : Msg} (h : emptyB m = true) : (∀ x ∈ numsM m, x = 0) ∧ m.text = ⟨#[]⟩ ∧ m.full = false ∧ m.state = ⟨#[]⟩ ∧ m.known = [] ∧ m.ents = [] := by
  unfold emptyB at h
  simp only [Bool.and_eq_true, decide_eq_true_eq, Bool.not_eq_true'] at h
  obtain ⟨⟨⟨⟨⟨hn, ht⟩, hf⟩, hs⟩, hk⟩, he⟩ := h
  refine ⟨fun x hx => ?_, size0 _ ht, hf, size0 _ hs, List.eq_nil_of_length_eq_zero hk, List.eq_nil_of_length_eq_zero he⟩
  have := List.any_eq_false.1 hn x hx
  simpa [nonz] using this
theorem again_1 (frm born : Int) (known : List Int) (view last op commit client number nonce : Int) (text : ByteArray) (full : Bool) (base : Int) (state : ByteArray) (ents : List Ent) (h : emptyB (wipeM ⟨1, frm, born, known, view, last, op, commit, client, number, nonce, text, full, base, state, ents⟩) = true) : [.nums [8, 9], .text 11].foldl (setA ⟨1, frm, born, known, view, last, op, commit, client, number, nonce, text, full, base, state, ents⟩) (zeroM 1) = ⟨1, frm, born, known, view, last, op, commit, client, number, nonce, text, full, base, state, ents⟩ := by
  have h : emptyB (⟨1, frm, born, known, view, last, op, commit, 0, 0, nonce, ⟨#[]⟩, full, base, state, ents⟩ : Msg) = true := h
  obtain ⟨hn, ht, hf, hs, hk, he⟩ := empty_parts h
  have e_frm : frm = 0 := hn frm (by simp [numsM])
  subst e_frm
  have e_born : born = 0 := hn born (by simp [numsM])
  subst e_born
  have e_known : known = [] := hk
  subst e_known
  have e_view : view = 0 := hn view (by simp [numsM])
  subst e_view
  have e_last : last = 0 := hn last (by simp [numsM])
  subst e_last
  have e_op : op = 0 := hn op (by simp [numsM])
  subst e_op
  have e_commit : commit = 0 := hn commit (by simp [numsM])
  subst e_commit
  have e_nonce : nonce = 0 := hn nonce (by simp [numsM])
  subst e_nonce
  have e_full : full = false := hf
  subst e_full
  have e_base : base = 0 := hn base (by simp [numsM])
  subst e_base
  have e_state : state = ⟨#[]⟩ := hs
  subst e_state
  have e_ents : ents = [] := he
  subst e_ents
  rfl
theorem again_2 (frm born : Int) (known : List Int) (view last op commit client number nonce : Int) (text : ByteArray) (full : Bool) (base : Int) (state : ByteArray) (ents : List Ent) (h : emptyB (wipeM ⟨2, frm, born, known, view, last, op, commit, client, number, nonce, text, full, base, state, ents⟩) = true) : (.nums [1, 2] :: .known :: [.nums [4, 6, 7], .entry]).foldl (setA ⟨2, frm, born, known, view, last, op, commit, client, number, nonce, text, full, base, state, ents⟩) (zeroM 2) = ⟨2, frm, born, known, view, last, op, commit, client, number, nonce, text, full, base, state, ents⟩ := by
  have h : emptyB (⟨2, 0, 0, [], 0, last, 0, 0, client, number, nonce, text, full, base, state, []⟩ : Msg) = true := h
  obtain ⟨hn, ht, hf, hs, hk, he⟩ := empty_parts h
  have e_last : last = 0 := hn last (by simp [numsM])
  subst e_last
  have e_client : client = 0 := hn client (by simp [numsM])
  subst e_client
  have e_number : number = 0 := hn number (by simp [numsM])
  subst e_number
  have e_nonce : nonce = 0 := hn nonce (by simp [numsM])
  subst e_nonce
  have e_text : text = ⟨#[]⟩ := ht
  subst e_text
  have e_full : full = false := hf
  subst e_full
  have e_base : base = 0 := hn base (by simp [numsM])
  subst e_base
  have e_state : state = ⟨#[]⟩ := hs
  subst e_state
  rfl
theorem again_3 (frm born : Int) (known : List Int) (view last op commit client number nonce : Int) (text : ByteArray) (full : Bool) (base : Int) (state : ByteArray) (ents : List Ent) (h : emptyB (wipeM ⟨3, frm, born, known, view, last, op, commit, client, number, nonce, text, full, base, state, ents⟩) = true) : (.nums [1, 2] :: .known :: [.nums [4, 6]]).foldl (setA ⟨3, frm, born, known, view, last, op, commit, client, number, nonce, text, full, base, state, ents⟩) (zeroM 3) = ⟨3, frm, born, known, view, last, op, commit, client, number, nonce, text, full, base, state, ents⟩ := by
  have h : emptyB (⟨3, 0, 0, [], 0, last, 0, commit, client, number, nonce, text, full, base, state, ents⟩ : Msg) = true := h
  obtain ⟨hn, ht, hf, hs, hk, he⟩ := empty_parts h
  have e_last : last = 0 := hn last (by simp [numsM])
  subst e_last
  have e_commit : commit = 0 := hn commit (by simp [numsM])
  subst e_commit
  have e_client : client = 0 := hn client (by simp [numsM])
  subst e_client
  have e_number : number = 0 := hn number (by simp [numsM])
  subst e_number
  have e_nonce : nonce = 0 := hn nonce (by simp [numsM])
  subst e_nonce
  have e_text : text = ⟨#[]⟩ := ht
  subst e_text
  have e_full : full = false := hf
  subst e_full
  have e_base : base = 0 := hn base (by simp [numsM])
  subst e_base
  have e_state : state = ⟨#[]⟩ := hs
  subst e_state
  have e_ents : ents = [] := he
  subst e_ents
  rfl
theorem again_11 (frm born : Int) (known : List Int) (view last op commit client number nonce : Int) (text : ByteArray) (full : Bool) (base : Int) (state : ByteArray) (ents : List Ent) (h : emptyB (wipeM ⟨11, frm, born, known, view, last, op, commit, client, number, nonce, text, full, base, state, ents⟩) = true) : (.nums [1, 2] :: .known :: [.nums [4, 6]]).foldl (setA ⟨11, frm, born, known, view, last, op, commit, client, number, nonce, text, full, base, state, ents⟩) (zeroM 11) = ⟨11, frm, born, known, view, last, op, commit, client, number, nonce, text, full, base, state, ents⟩ := by
  have h : emptyB (⟨11, 0, 0, [], 0, last, 0, commit, client, number, nonce, text, full, base, state, ents⟩ : Msg) = true := h
  obtain ⟨hn, ht, hf, hs, hk, he⟩ := empty_parts h
  have e_last : last = 0 := hn last (by simp [numsM])
  subst e_last
  have e_commit : commit = 0 := hn commit (by simp [numsM])
  subst e_commit
  have e_client : client = 0 := hn client (by simp [numsM])
  subst e_client
  have e_number : number = 0 := hn number (by simp [numsM])
  subst e_number
  have e_nonce : nonce = 0 := hn nonce (by simp [numsM])
  subst e_nonce
  have e_text : text = ⟨#[]⟩ := ht
  subst e_text
  have e_full : full = false := hf
  subst e_full
  have e_base : base = 0 := hn base (by simp [numsM])
  subst e_base
  have e_state : state = ⟨#[]⟩ := hs
  subst e_state
  have e_ents : ents = [] := he
  subst e_ents
  rfl
theorem again_4 (frm born : Int) (known : List Int) (view last op commit client number nonce : Int) (text : ByteArray) (full : Bool) (base : Int) (state : ByteArray) (ents : List Ent) (h : emptyB (wipeM ⟨4, frm, born, known, view, last, op, commit, client, number, nonce, text, full, base, state, ents⟩) = true) : (.nums [1, 2] :: .known :: [.nums [4, 8, 9], .text 11]).foldl (setA ⟨4, frm, born, known, view, last, op, commit, client, number, nonce, text, full, base, state, ents⟩) (zeroM 4) = ⟨4, frm, born, known, view, last, op, commit, client, number, nonce, text, full, base, state, ents⟩ := by
  have h : emptyB (⟨4, 0, 0, [], 0, last, op, commit, 0, 0, nonce, ⟨#[]⟩, full, base, state, ents⟩ : Msg) = true := h
  obtain ⟨hn, ht, hf, hs, hk, he⟩ := empty_parts h
  have e_last : last = 0 := hn last (by simp [numsM])
  subst e_last
  have e_op : op = 0 := hn op (by simp [numsM])
  subst e_op
  have e_commit : commit = 0 := hn commit (by simp [numsM])
  subst e_commit
  have e_nonce : nonce = 0 := hn nonce (by simp [numsM])
  subst e_nonce
  have e_full : full = false := hf
  subst e_full
  have e_base : base = 0 := hn base (by simp [numsM])
  subst e_base
  have e_state : state = ⟨#[]⟩ := hs
  subst e_state
  have e_ents : ents = [] := he
  subst e_ents
  rfl
theorem again_5 (frm born : Int) (known : List Int) (view last op commit client number nonce : Int) (text : ByteArray) (full : Bool) (base : Int) (state : ByteArray) (ents : List Ent) (h : emptyB (wipeM ⟨5, frm, born, known, view, last, op, commit, client, number, nonce, text, full, base, state, ents⟩) = true) : (.nums [1, 2] :: .known :: [.nums [4, 6, 7]]).foldl (setA ⟨5, frm, born, known, view, last, op, commit, client, number, nonce, text, full, base, state, ents⟩) (zeroM 5) = ⟨5, frm, born, known, view, last, op, commit, client, number, nonce, text, full, base, state, ents⟩ := by
  have h : emptyB (⟨5, 0, 0, [], 0, last, 0, 0, client, number, nonce, text, full, base, state, ents⟩ : Msg) = true := h
  obtain ⟨hn, ht, hf, hs, hk, he⟩ := empty_parts h
  have e_last : last = 0 := hn last (by simp [numsM])
  subst e_last
  have e_client : client = 0 := hn client (by simp [numsM])
  subst e_client
  have e_number : number = 0 := hn number (by simp [numsM])
  subst e_number
  have e_nonce : nonce = 0 := hn nonce (by simp [numsM])
  subst e_nonce
  have e_text : text = ⟨#[]⟩ := ht
  subst e_text
  have e_full : full = false := hf
  subst e_full
  have e_base : base = 0 := hn base (by simp [numsM])
  subst e_base
  have e_state : state = ⟨#[]⟩ := hs
  subst e_state
  have e_ents : ents = [] := he
  subst e_ents
  rfl
theorem again_6 (frm born : Int) (known : List Int) (view last op commit client number nonce : Int) (text : ByteArray) (full : Bool) (base : Int) (state : ByteArray) (ents : List Ent) (h : emptyB (wipeM ⟨6, frm, born, known, view, last, op, commit, client, number, nonce, text, full, base, state, ents⟩) = true) : (.nums [1, 2] :: .known :: [.nums [4]]).foldl (setA ⟨6, frm, born, known, view, last, op, commit, client, number, nonce, text, full, base, state, ents⟩) (zeroM 6) = ⟨6, frm, born, known, view, last, op, commit, client, number, nonce, text, full, base, state, ents⟩ := by
  have h : emptyB (⟨6, 0, 0, [], 0, last, op, commit, client, number, nonce, text, full, base, state, ents⟩ : Msg) = true := h
  obtain ⟨hn, ht, hf, hs, hk, he⟩ := empty_parts h
  have e_last : last = 0 := hn last (by simp [numsM])
  subst e_last
  have e_op : op = 0 := hn op (by simp [numsM])
  subst e_op
  have e_commit : commit = 0 := hn commit (by simp [numsM])
  subst e_commit
  have e_client : client = 0 := hn client (by simp [numsM])
  subst e_client
  have e_number : number = 0 := hn number (by simp [numsM])
  subst e_number
  have e_nonce : nonce = 0 := hn nonce (by simp [numsM])
  subst e_nonce
  have e_text : text = ⟨#[]⟩ := ht
  subst e_text
  have e_full : full = false := hf
  subst e_full
  have e_base : base = 0 := hn base (by simp [numsM])
  subst e_base
  have e_state : state = ⟨#[]⟩ := hs
  subst e_state
  have e_ents : ents = [] := he
  subst e_ents
  rfl
theorem again_7 (frm born : Int) (known : List Int) (view last op commit client number nonce : Int) (text : ByteArray) (full : Bool) (base : Int) (state : ByteArray) (ents : List Ent) (h : emptyB (wipeM ⟨7, frm, born, known, view, last, op, commit, client, number, nonce, text, full, base, state, ents⟩) = true) : (.nums [1, 2] :: .known :: (.nums [4, 5] :: tailA)).foldl (setA ⟨7, frm, born, known, view, last, op, commit, client, number, nonce, text, full, base, state, ents⟩) (zeroM 7) = ⟨7, frm, born, known, view, last, op, commit, client, number, nonce, text, full, base, state, ents⟩ := by
  have h : emptyB (⟨7, 0, 0, [], 0, 0, 0, 0, client, number, nonce, text, full, 0, ⟨#[]⟩, []⟩ : Msg) = true := h
  obtain ⟨hn, ht, hf, hs, hk, he⟩ := empty_parts h
  have e_client : client = 0 := hn client (by simp [numsM])
  subst e_client
  have e_number : number = 0 := hn number (by simp [numsM])
  subst e_number
  have e_nonce : nonce = 0 := hn nonce (by simp [numsM])
  subst e_nonce
  have e_text : text = ⟨#[]⟩ := ht
  subst e_text
  have e_full : full = false := hf
  subst e_full
  rfl
theorem again_8 (frm born : Int) (known : List Int) (view last op commit client number nonce : Int) (text : ByteArray) (full : Bool) (base : Int) (state : ByteArray) (ents : List Ent) (h : emptyB (wipeM ⟨8, frm, born, known, view, last, op, commit, client, number, nonce, text, full, base, state, ents⟩) = true) : (.nums [1, 2] :: .known :: (.nums [4] :: tailA)).foldl (setA ⟨8, frm, born, known, view, last, op, commit, client, number, nonce, text, full, base, state, ents⟩) (zeroM 8) = ⟨8, frm, born, known, view, last, op, commit, client, number, nonce, text, full, base, state, ents⟩ := by
  have h : emptyB (⟨8, 0, 0, [], 0, last, 0, 0, client, number, nonce, text, full, 0, ⟨#[]⟩, []⟩ : Msg) = true := h
  obtain ⟨hn, ht, hf, hs, hk, he⟩ := empty_parts h
  have e_last : last = 0 := hn last (by simp [numsM])
  subst e_last
  have e_client : client = 0 := hn client (by simp [numsM])
  subst e_client
  have e_number : number = 0 := hn number (by simp [numsM])
  subst e_number
  have e_nonce : nonce = 0 := hn nonce (by simp [numsM])
  subst e_nonce
  have e_text : text = ⟨#[]⟩ := ht
  subst e_text
  have e_full : full = false := hf
  subst e_full
  rfl
theorem again_12 (frm born : Int) (known : List Int) (view last op commit client number nonce : Int) (text : ByteArray) (full : Bool) (base : Int) (state : ByteArray) (ents : List Ent) (h : emptyB (wipeM ⟨12, frm, born, known, view, last, op, commit, client, number, nonce, text, full, base, state, ents⟩) = true) : (.nums [1, 2] :: .known :: (.nums [4] :: tailA)).foldl (setA ⟨12, frm, born, known, view, last, op, commit, client, number, nonce, text, full, base, state, ents⟩) (zeroM 12) = ⟨12, frm, born, known, view, last, op, commit, client, number, nonce, text, full, base, state, ents⟩ := by
  have h : emptyB (⟨12, 0, 0, [], 0, last, 0, 0, client, number, nonce, text, full, 0, ⟨#[]⟩, []⟩ : Msg) = true := h
  obtain ⟨hn, ht, hf, hs, hk, he⟩ := empty_parts h
  have e_last : last = 0 := hn last (by simp [numsM])
  subst e_last
  have e_client : client = 0 := hn client (by simp [numsM])
  subst e_client
  have e_number : number = 0 := hn number (by simp [numsM])
  subst e_number
  have e_nonce : nonce = 0 := hn nonce (by simp [numsM])
  subst e_nonce
  have e_text : text = ⟨#[]⟩ := ht
  subst e_text
  have e_full : full = false := hf
  subst e_full
  rfl
theorem again_9 (frm born : Int) (known : List Int) (view last op commit client number nonce : Int) (text : ByteArray) (full : Bool) (base : Int) (state : ByteArray) (ents : List Ent) (h : emptyB (wipeM ⟨9, frm, born, known, view, last, op, commit, client, number, nonce, text, full, base, state, ents⟩) = true) : (.nums [1, 2] :: .known :: [.nums [10]]).foldl (setA ⟨9, frm, born, known, view, last, op, commit, client, number, nonce, text, full, base, state, ents⟩) (zeroM 9) = ⟨9, frm, born, known, view, last, op, commit, client, number, nonce, text, full, base, state, ents⟩ := by
  have h : emptyB (⟨9, 0, 0, [], view, last, op, commit, client, number, 0, text, full, base, state, ents⟩ : Msg) = true := h
  obtain ⟨hn, ht, hf, hs, hk, he⟩ := empty_parts h
  have e_view : view = 0 := hn view (by simp [numsM])
  subst e_view
  have e_last : last = 0 := hn last (by simp [numsM])
  subst e_last
  have e_op : op = 0 := hn op (by simp [numsM])
  subst e_op
  have e_commit : commit = 0 := hn commit (by simp [numsM])
  subst e_commit
  have e_client : client = 0 := hn client (by simp [numsM])
  subst e_client
  have e_number : number = 0 := hn number (by simp [numsM])
  subst e_number
  have e_text : text = ⟨#[]⟩ := ht
  subst e_text
  have e_full : full = false := hf
  subst e_full
  have e_base : base = 0 := hn base (by simp [numsM])
  subst e_base
  have e_state : state = ⟨#[]⟩ := hs
  subst e_state
  have e_ents : ents = [] := he
  subst e_ents
  rfl
theorem again_10 (frm born : Int) (known : List Int) (view last op commit client number nonce : Int) (text : ByteArray) (full : Bool) (base : Int) (state : ByteArray) (ents : List Ent) (h : emptyB (wipeM ⟨10, frm, born, known, view, last, op, commit, client, number, nonce, text, true, base, state, ents⟩) = true) : (.nums [1, 2] :: .known :: (.nums [4, 10] :: .yes :: tailA)).foldl (setA ⟨10, frm, born, known, view, last, op, commit, client, number, nonce, text, true, base, state, ents⟩) (zeroM 10) = ⟨10, frm, born, known, view, last, op, commit, client, number, nonce, text, true, base, state, ents⟩ := by
  have h : emptyB (⟨10, 0, 0, [], 0, last, 0, 0, client, number, 0, text, false, 0, ⟨#[]⟩, []⟩ : Msg) = true := h
  obtain ⟨hn, ht, hf, hs, hk, he⟩ := empty_parts h
  have e_last : last = 0 := hn last (by simp [numsM])
  subst e_last
  have e_client : client = 0 := hn client (by simp [numsM])
  subst e_client
  have e_number : number = 0 := hn number (by simp [numsM])
  subst e_number
  have e_text : text = ⟨#[]⟩ := ht
  subst e_text
  rfl
theorem again_100 (frm born : Int) (known : List Int) (view last op commit client number nonce : Int) (text : ByteArray) (full : Bool) (base : Int) (state : ByteArray) (ents : List Ent) (h : emptyB (wipeM ⟨10, frm, born, known, view, last, op, commit, client, number, nonce, text, false, base, state, ents⟩) = true) : (.nums [1, 2] :: .known :: [.nums [4, 10], .yes]).foldl (setA ⟨10, frm, born, known, view, last, op, commit, client, number, nonce, text, false, base, state, ents⟩) (zeroM 10) = ⟨10, frm, born, known, view, last, op, commit, client, number, nonce, text, false, base, state, ents⟩ := by
  have h : emptyB (⟨10, 0, 0, [], 0, last, op, commit, client, number, 0, text, false, base, state, ents⟩ : Msg) = true := h
  obtain ⟨hn, ht, hf, hs, hk, he⟩ := empty_parts h
  have e_last : last = 0 := hn last (by simp [numsM])
  subst e_last
  have e_op : op = 0 := hn op (by simp [numsM])
  subst e_op
  have e_commit : commit = 0 := hn commit (by simp [numsM])
  subst e_commit
  have e_client : client = 0 := hn client (by simp [numsM])
  subst e_client
  have e_number : number = 0 := hn number (by simp [numsM])
  subst e_number
  have e_text : text = ⟨#[]⟩ := ht
  subst e_text
  have e_base : base = 0 := hn base (by simp [numsM])
  subst e_base
  have e_state : state = ⟨#[]⟩ := hs
  subst e_state
  have e_ents : ents = [] := he
  subst e_ents
  rfl
theorem again (m : Msg) (h1 : 1 ≤ m.kind) (h2 : m.kind ≤ 12) (h : emptyB (wipeM m) = true) : (showA m.kind m.full).foldl (setA m) (zeroM m.kind) = m := by
  obtain ⟨kind, frm, born, known, view, last, op, commit, client, number, nonce, text, full, base, state, ents⟩ := m
  dsimp only at *
  by_cases k1 : kind = 1
  · subst k1
    exact again_1 frm born known view last op commit client number nonce text full base state ents h
  by_cases k2 : kind = 2
  · subst k2
    exact again_2 frm born known view last op commit client number nonce text full base state ents h
  by_cases k3 : kind = 3
  · subst k3
    exact again_3 frm born known view last op commit client number nonce text full base state ents h
  by_cases k4 : kind = 4
  · subst k4
    exact again_4 frm born known view last op commit client number nonce text full base state ents h
  by_cases k5 : kind = 5
  · subst k5
    exact again_5 frm born known view last op commit client number nonce text full base state ents h
  by_cases k6 : kind = 6
  · subst k6
    exact again_6 frm born known view last op commit client number nonce text full base state ents h
  by_cases k7 : kind = 7
  · subst k7
    exact again_7 frm born known view last op commit client number nonce text full base state ents h
  by_cases k8 : kind = 8
  · subst k8
    exact again_8 frm born known view last op commit client number nonce text full base state ents h
  by_cases k9 : kind = 9
  · subst k9
    exact again_9 frm born known view last op commit client number nonce text full base state ents h
  by_cases k11 : kind = 11
  · subst k11
    exact again_11 frm born known view last op commit client number nonce text full base state ents h
  by_cases k12 : kind = 12
  · subst k12
    exact again_12 frm born known view last op commit client number nonce text full base state ents h
  have k10 : kind = 10 := by omega
  subst k10
  cases full with
  | true => exact again_10 frm born known view last op commit client number nonce text true base state ents h
  | false => exact again_100 frm born known view last op commit client number nonce text false base state ents h
end Go.Proofs.YtgbpofgmomglfaaDoor.Ms
