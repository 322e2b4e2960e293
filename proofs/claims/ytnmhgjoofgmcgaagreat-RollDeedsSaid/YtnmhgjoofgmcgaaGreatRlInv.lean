/-
  Layer 18: what every deed keeps (plain words).
-/
import Derived.Test.YtnmhgjoofgmcgaaGreatRlDo
namespace Go.Proofs.YtnmhgjoofgmcgaaGreat.Rl
set_option maxRecDepth 100000
set_option linter.unusedSimpArgs false
set_option linter.unusedVariables false
theorem rising_ins : ∀ {l : List ByteArray} {x : ByteArray}, Rising l → x ∉ l → Rising (l.take (plc l x) ++ [x] ++ l.drop (plc l x))
  | [], x, _, _ => List.pairwise_singleton _ _
  | y :: r, x, hs, hx => by
    have hr := List.pairwise_cons.1 hs
    have hxr : x ∉ r := fun h => hx (List.mem_cons_of_mem _ h)
    have hxy : x ≠ y := fun e => hx (by rw [e]; exact List.mem_cons_self)
    rw [plc]
    by_cases hy : 0 < cmpN x y
    · rw [if_pos hy, List.take_succ_cons, List.drop_succ_cons]
      refine List.pairwise_cons.2 ⟨fun z hz => ?_, rising_ins hr.2 hxr⟩
      have hz2 : z ∈ r.take (plc r x) ++ [x] ++ r.drop (plc r x) := hz
      simp only [List.mem_append, List.mem_singleton] at hz2
      rcases hz2 with (h | rfl) | h
      · exact hr.1 z (List.mem_of_mem_take h)
      · rw [cmpN_neg z]; omega
      · exact hr.1 z (List.mem_of_mem_drop h)
    · rw [if_neg hy]
      have h0 : cmpN x y ≠ 0 := fun e => hxy (cmpN_eq e)
      have h1 : cmpN x y < 0 := by omega
      refine List.pairwise_cons.2 ⟨fun z hz => ?_, hs⟩
      rcases List.mem_cons.1 hz with rfl | h
      · exact h1
      · exact cmpN_trans h1 (hr.1 z h)
theorem del_sub {α : Type} (l : List α) (k : Nat) : (l.take k ++ l.drop (k + 1)).Sublist l := by
  rw [← List.eraseIdx_eq_take_drop_succ]
  exact List.eraseIdx_sublist l k
theorem mem_ins {α : Type} (l : List α) (k : Nat) (x y : α) : y ∈ l.take k ++ [x] ++ l.drop k ↔ y = x ∨ y ∈ l := by
  have h : y ∈ l ↔ y ∈ l.take k ∨ y ∈ l.drop k := by
    rw [← List.mem_append, List.take_append_drop]
  simp only [List.mem_append, List.mem_singleton]
  rw [h]
  constructor
  · rintro ((h | h) | h)
    · exact .inr (.inl h)
    · exact .inl h
    · exact .inr (.inr h)
  · rintro (h | h | h)
    · exact .inl (.inr h)
    · exact .inl (.inl h)
    · exact .inr h
theorem mem_del {α : Type} {l : List α} {k : Nat} {y : α} (h : y ∈ l) (hk : ∀ h : k < l.length, l[k] ≠ y) : y ∈ l.take k ++ l.drop (k + 1) := by
  obtain ⟨i, hi, rfl⟩ := List.mem_iff_getElem.1 h
  rw [List.mem_append]
  rcases Nat.lt_trichotomy i k with h1 | h1 | h1
  · exact .inl (List.mem_take_iff_getElem.2 ⟨i, by omega, rfl⟩)
  · subst h1
    exact absurd rfl (hk hi)
  · exact .inr (List.mem_drop_iff_getElem.2 ⟨i - (k + 1), by omega, by congr 1; omega⟩)
theorem rising_one {α : Type} (f : α → ByteArray) {l : List α} (hs : Rising (l.map f)) {i j : Nat} (hi : i < l.length) (hj : j < l.length) (h : f l[i] = f l[j]) : i = j := by
  rcases Nat.lt_trichotomy i j with h1 | h1 | h1
  · have := hs.at_ h1 (by simpa using hj)
    simp only [List.getElem_map] at this
    rw [h, cmpN_self] at this
    exact absurd this (by decide)
  · exact h1
  · have := hs.at_ h1 (by simpa using hi)
    simp only [List.getElem_map] at this
    rw [h, cmpN_self] at this
    exact absurd this (by decide)
theorem rising_eq {α : Type} (f : α → ByteArray) {l : List α} (hs : Rising (l.map f)) {a b : α} (ha : a ∈ l) (hb : b ∈ l) (h : f a = f b) : a = b := by
  obtain ⟨i, hi, rfl⟩ := List.mem_iff_getElem.1 ha
  obtain ⟨j, hj, rfl⟩ := List.mem_iff_getElem.1 hb
  have := rising_one f hs hi hj h
  subst this
  rfl
theorem mem_out {l : List ByteArray} {x y : ByteArray} (hs : Rising l) (h : y ∈ outN l x) : y ∈ l ∧ y ≠ x := by
  unfold outN at h
  by_cases hx : hasN l x = true
  · rw [if_pos hx] at h
    obtain ⟨h1, h2⟩ := (plc_mem l x hs).2 (hasN_iff.1 hx)
    have h3 := cmpN_eq h2
    have hy : y ∈ l := (del_sub l (plc l x)).subset h
    refine ⟨hy, fun e => ?_⟩
    have hnd : (l.take (plc l x) ++ l[plc l x] :: l.drop (plc l x + 1)).Pairwise fun a b => cmpN a b < 0 := by
      rw [← List.drop_eq_getElem_cons h1, List.take_append_drop]; exact hs
    rw [List.pairwise_append] at hnd
    unfold delN at h
    rcases List.mem_append.1 h with h4 | h4
    · have := hnd.2.2 y h4 _ List.mem_cons_self
      rw [e, ← h3, cmpN_self] at this
      exact absurd this (by decide)
    · have := (List.pairwise_cons.1 hnd.2.1).1 y h4
      rw [e, ← h3, cmpN_self] at this
      exact absurd this (by decide)
  · rw [if_neg hx] at h
    exact ⟨h, fun e => hx (hasN_iff.2 (by rw [← e]; exact h))⟩
theorem out_rising {l : List ByteArray} (x : ByteArray) (hs : Rising l) : Rising (outN l x) ∧ (outN l x).length ≤ l.length := by
  unfold outN
  split
  · exact ⟨List.Pairwise.sublist (del_sub l _) hs, (del_sub l _).length_le⟩
  · exact ⟨hs, Nat.le_refl _⟩
theorem find_in {r : Rol} {nm : ByteArray} (hs : Rising r.names) (h : hasN r.names nm = true) : findM r nm ∈ r.ms ∧ (findM r nm).name = nm := by
  obtain ⟨h1, h2⟩ := (plc_mem r.names nm hs).2 (hasN_iff.1 h)
  have h3 := plc_lt hs h
  have h4 : findM r nm = r.ms[plc r.names nm] := by
    unfold findM
    rw [if_pos h, List.getD_eq_getElem?_getD, List.getElem?_eq_getElem h3]
    rfl
  rw [h4]
  refine ⟨List.getElem_mem h3, ?_⟩
  have h5 := cmpN_eq h2
  simp only [Rol.names, List.getElem_map] at h5
  exact h5.symm
/-- What every deed keeps, of rolls that have grown by no more than N. -/
structure Inv (N : Nat) (r : Rol) : Prop where
  names : Rising r.names
  classes : Rising r.classes
  rising : ∀ c ∈ r.cs, Rising c.studs
  teach : ∀ c ∈ r.cs, ∃ m ∈ r.ms, m.name = c.teacher ∧ m.role = 2
  stud : ∀ c ∈ r.cs, ∀ s ∈ c.studs, ∃ m ∈ r.ms, m.name = s ∧ m.role = 1
  lm : r.ms.length ≤ N
  lc : r.cs.length ≤ N
  ls : ∀ c ∈ r.cs, c.studs.length ≤ N
theorem Inv.sized {N : Nat} {r : Rol} (h : Inv N r) (hn : N ≤ 4000) : Sized r :=
  ⟨Nat.le_trans h.lm hn, Nat.le_trans h.lc hn, fun c hc => Nat.le_trans (h.ls c hc) hn, h.names, h.classes, h.rising⟩
theorem inv_nil : Inv 0 ⟨[], []⟩ := ⟨List.Pairwise.nil, List.Pairwise.nil, fun c hc => absurd hc (by simp), fun c hc => absurd hc (by simp), fun c hc => absurd hc (by simp), Nat.le_refl _, Nat.le_refl _, fun c hc => absurd hc (by simp)⟩
theorem Inv.mono {N M : Nat} {r : Rol} (h : Inv N r) (hn : N ≤ M) : Inv M r :=
  ⟨h.names, h.classes, h.rising, h.teach, h.stud, Nat.le_trans h.lm hn, Nat.le_trans h.lc hn, fun c hc => Nat.le_trans (h.ls c hc) hn⟩
theorem notMem {l : List ByteArray} {x : ByteArray} (h : ¬ hasN l x = true) : x ∉ l := fun e => h (hasN_iff.2 e)
theorem map_ins {α : Type} (f : α → ByteArray) (l : List α) (k : Nat) (x : α) : (l.take k ++ [x] ++ l.drop k).map f = (l.map f).take k ++ [f x] ++ (l.map f).drop k := by
  simp [List.map_take, List.map_drop]
theorem ins_length {α : Type} (l : List α) (k : Nat) (x : α) : (l.take k ++ [x] ++ l.drop k).length = l.length + 1 := by
  rw [List.length_append, List.length_append, List.length_take, List.length_drop, List.length_singleton]; omega
theorem inv_enrol {N : Nat} {r r' : Rol} {nm : ByteArray} {role : Int} (h : Inv N r) (e : enrolM r nm role = .ok r') : Inv (N + 1) r' := by
  unfold enrolM at e
  split at e
  · cases e
  split at e
  · cases e
  split at e
  · cases e
  split at e
  · cases e
  rename_i _ _ hn _
  injection e with e
  subst e
  have hin : ∀ m ∈ r.ms, m ∈ r.ms.take (plc r.names nm) ++ [(⟨nm, role, 4096⟩ : Mem)] ++ r.ms.drop (plc r.names nm) := fun m hm => (mem_ins _ _ _ _).2 (.inr hm)
  refine ⟨?_, h.classes, h.rising, fun c hc => ?_, fun c hc s hs => ?_, ?_, by have := h.lc; show r.cs.length ≤ _; omega, fun c hc => by have := h.ls c hc; omega⟩
  · show Rising ((r.ms.take (plc r.names nm) ++ [(⟨nm, role, 4096⟩ : Mem)] ++ r.ms.drop (plc r.names nm)).map (·.name))
    rw [map_ins]
    exact rising_ins h.names (notMem hn)
  · obtain ⟨m, h1, h2⟩ := h.teach c hc
    exact ⟨m, hin m h1, h2⟩
  · obtain ⟨m, h1, h2⟩ := h.stud c hc s hs
    exact ⟨m, hin m h1, h2⟩
  · have := h.lm
    show (r.ms.take (plc r.names nm) ++ [(⟨nm, role, 4096⟩ : Mem)] ++ r.ms.drop (plc r.names nm)).length ≤ _
    rw [ins_length]; omega
theorem inv_leave {N : Nat} {r r' : Rol} {nm : ByteArray} (h : Inv N r) (e : leaveM r nm = .ok r') : Inv (N + 1) r' := by
  unfold leaveM at e
  split at e
  · cases e
  split at e
  · cases e
  rename_i hn ht
  injection e with e
  subst e
  have hn2 : hasN r.names nm = true := by simpa using hn
  obtain ⟨f1, f2⟩ := find_in h.names hn2
  have hk : ∀ m ∈ r.ms, m.name ≠ nm → m ∈ r.ms.take (plc r.names nm) ++ r.ms.drop (plc r.names nm + 1) := fun m hm hne => mem_del hm fun hlt e => by
    have h4 : findM r nm = r.ms[plc r.names nm] := by
      unfold findM
      rw [if_pos hn2, List.getD_eq_getElem?_getD, List.getElem?_eq_getElem hlt]
      rfl
    rw [← h4] at e
    rw [e] at f2
    exact hne f2
  have hc9 : ∀ c' ∈ r.cs.map (lvC nm), ∃ c ∈ r.cs, c' = lvC nm c := fun c' hc => by
    obtain ⟨c, h1, h2⟩ := List.mem_map.1 hc
    exact ⟨c, h1, h2.symm⟩
  refine ⟨?_, ?_, fun c' hc => ?_, fun c' hc => ?_, fun c' hc s hs => ?_, ?_, ?_, fun c' hc => ?_⟩
  · show Rising ((r.ms.take (plc r.names nm) ++ r.ms.drop (plc r.names nm + 1)).map (·.name))
    exact List.Pairwise.sublist ((del_sub r.ms _).map _) h.names
  · show Rising ((r.cs.map (lvC nm)).map (·.name))
    rw [List.map_map]
    exact h.classes
  · obtain ⟨c, h1, rfl⟩ := hc9 c' hc
    exact (out_rising nm (h.rising c h1)).1
  · obtain ⟨c, h1, rfl⟩ := hc9 c' hc
    obtain ⟨m, m1, m2, m3⟩ := h.teach c h1
    refine ⟨m, hk m m1 fun e => ht ?_, m2, m3⟩
    rw [List.any_eq_true]
    exact ⟨c, h1, decide_eq_true (by rw [← m2]; exact e)⟩
  · obtain ⟨c, h1, rfl⟩ := hc9 c' hc
    obtain ⟨s1, s2⟩ := mem_out (h.rising c h1) hs
    obtain ⟨m, m1, m2, m3⟩ := h.stud c h1 s s1
    exact ⟨m, hk m m1 (by rw [m2]; exact s2), m2, m3⟩
  · have := h.lm
    have := (del_sub r.ms (plc r.names nm)).length_le
    show (r.ms.take (plc r.names nm) ++ r.ms.drop (plc r.names nm + 1)).length ≤ _
    omega
  · have := h.lc
    show (r.cs.map (lvC nm)).length ≤ _
    rw [List.length_map]; omega
  · obtain ⟨c, h1, rfl⟩ := hc9 c' hc
    have := h.ls c h1
    have := (out_rising nm (h.rising c h1)).2
    show (outN c.studs nm).length ≤ _
    omega
theorem set_map {α : Type} (f : α → ByteArray) {l : List α} {k : Nat} (x : α) (hx : ∀ h : k < l.length, f l[k] = f x) : (l.set k x).map f = l.map f := by
  apply List.ext_getElem
  · simp
  · intro i h1 h2
    have hi : i < l.length := by simpa using h2
    simp only [List.getElem_map]
    by_cases e : k = i
    · subst e
      rw [List.getElem_set_self, hx hi]
    · rw [List.getElem_set_ne e]
theorem inv_grant {N : Nat} {r r' : Rol} {nm : ByteArray} {q : Int} (h : Inv N r) (e : grantM r nm q = .ok r') : Inv (N + 1) r' := by
  unfold grantM at e
  split at e
  · cases e
  split at e
  · cases e
  rename_i hn _
  injection e with e
  subst e
  have hn2 : hasN r.names nm = true := by simpa using hn
  have h3 := plc_lt h.names hn2
  have h4 : findM r nm = r.ms[plc r.names nm] := by
    unfold findM
    rw [if_pos hn2, List.getD_eq_getElem?_getD, List.getElem?_eq_getElem h3]
    rfl
  have hk : ∀ m ∈ r.ms, ∃ m' ∈ r.ms.set (plc r.names nm) ⟨(findM r nm).name, (findM r nm).role, q⟩, m'.name = m.name ∧ m'.role = m.role := fun m hm => by
    obtain ⟨i, hi, rfl⟩ := List.mem_iff_getElem.1 hm
    by_cases e : plc r.names nm = i
    · subst e
      exact ⟨_, List.mem_iff_getElem.2 ⟨plc r.names nm, by rw [List.length_set]; exact h3, List.getElem_set_self _⟩, by rw [h4], by rw [h4]⟩
    · exact ⟨_, List.mem_iff_getElem.2 ⟨i, by rw [List.length_set]; exact hi, List.getElem_set_ne e _⟩, rfl, rfl⟩
  refine ⟨?_, h.classes, h.rising, fun c hc => ?_, fun c hc s hs => ?_, ?_, by have := h.lc; show r.cs.length ≤ _; omega, fun c hc => by have := h.ls c hc; omega⟩
  · show Rising ((r.ms.set (plc r.names nm) ⟨(findM r nm).name, (findM r nm).role, q⟩).map (·.name))
    rw [set_map _ _ (fun h9 => by rw [h4])]
    exact h.names
  · obtain ⟨m, m1, m2, m3⟩ := h.teach c hc
    obtain ⟨m', n1, n2, n3⟩ := hk m m1
    exact ⟨m', n1, n2.trans m2, n3.trans m3⟩
  · obtain ⟨m, m1, m2, m3⟩ := h.stud c hc s hs
    obtain ⟨m', n1, n2, n3⟩ := hk m m1
    exact ⟨m', n1, n2.trans m2, n3.trans m3⟩
  · have := h.lm
    show (r.ms.set _ _).length ≤ _
    rw [List.length_set]; omega
theorem inv_open {N : Nat} {r r' : Rol} {cl tc : ByteArray} (h : Inv N r) (e : openM r cl tc = .ok r') : Inv (N + 1) r' := by
  unfold openM at e
  split at e
  · cases e
  split at e
  · cases e
  split at e
  · cases e
  split at e
  · split at e
    · cases e
    · rename_i hc hn hr _
      injection e with e
      subst e
      have hn2 : hasN r.names tc = true := by simpa using hn
      obtain ⟨f1, f2⟩ := find_in h.names hn2
      have hor : ∀ c ∈ r.cs.take (plc r.classes cl) ++ [(⟨cl, tc, []⟩ : Cls)] ++ r.cs.drop (plc r.classes cl), c = ⟨cl, tc, []⟩ ∨ c ∈ r.cs := fun c hc => (mem_ins _ _ _ _).1 hc
      refine ⟨h.names, ?_, fun c hc => ?_, fun c hc => ?_, fun c hc s hs => ?_, by have := h.lm; show r.ms.length ≤ _; omega, ?_, fun c hc => ?_⟩
      · show Rising ((r.cs.take (plc r.classes cl) ++ [(⟨cl, tc, []⟩ : Cls)] ++ r.cs.drop (plc r.classes cl)).map (·.name))
        rw [map_ins]
        exact rising_ins h.classes (notMem hc)
      · rcases hor c hc with rfl | h1
        · exact List.Pairwise.nil
        · exact h.rising c h1
      · rcases hor c hc with rfl | h1
        · exact ⟨_, f1, f2, hr⟩
        · exact h.teach c h1
      · rcases hor c hc with rfl | h1
        · exact absurd hs (by simp)
        · exact h.stud c h1 s hs
      · have := h.lc
        show (r.cs.take (plc r.classes cl) ++ [(⟨cl, tc, []⟩ : Cls)] ++ r.cs.drop (plc r.classes cl)).length ≤ _
        rw [ins_length]; omega
      · rcases hor c hc with rfl | h1
        · exact Nat.zero_le _
        · have := h.ls c h1; omega
  · cases e
theorem inv_close {N : Nat} {r r' : Rol} {cl : ByteArray} (h : Inv N r) (e : closeM r cl = .ok r') : Inv (N + 1) r' := by
  unfold closeM at e
  split at e
  · cases e
  injection e with e
  subst e
  have hs : ∀ c ∈ r.cs.take (plc r.classes cl) ++ r.cs.drop (plc r.classes cl + 1), c ∈ r.cs := fun c hc => (del_sub r.cs _).subset hc
  refine ⟨h.names, ?_, fun c hc => h.rising c (hs c hc), fun c hc => h.teach c (hs c hc), fun c hc => h.stud c (hs c hc), by have := h.lm; show r.ms.length ≤ _; omega, ?_, fun c hc => by have := h.ls c (hs c hc); omega⟩
  · show Rising ((r.cs.take (plc r.classes cl) ++ r.cs.drop (plc r.classes cl + 1)).map (·.name))
    exact List.Pairwise.sublist ((del_sub r.cs _).map _) h.classes
  · have := h.lc
    have := (del_sub r.cs (plc r.classes cl)).length_le
    show (r.cs.take (plc r.classes cl) ++ r.cs.drop (plc r.classes cl + 1)).length ≤ _
    omega
theorem inv_set {N : Nat} {r : Rol} {k : Nat} {l : List ByteArray} (h : Inv N r) (hk : k < r.cs.length) (hl : Rising l) (hn : l.length ≤ N + 1) (hm : ∀ s ∈ l, ∃ m ∈ r.ms, m.name = s ∧ m.role = 1) : Inv (N + 1) ⟨r.ms, r.cs.set k ⟨r.cs[k].name, r.cs[k].teacher, l⟩⟩ := by
  have hor : ∀ c ∈ r.cs.set k ⟨r.cs[k].name, r.cs[k].teacher, l⟩, c = ⟨r.cs[k].name, r.cs[k].teacher, l⟩ ∨ c ∈ r.cs := fun c hc => (List.mem_or_eq_of_mem_set hc).symm
  have hmem := List.getElem_mem hk
  refine ⟨h.names, ?_, fun c hc => ?_, fun c hc => ?_, fun c hc s hs => ?_, by have := h.lm; show r.ms.length ≤ _; omega, ?_, fun c hc => ?_⟩
  · show Rising ((r.cs.set k ⟨r.cs[k].name, r.cs[k].teacher, l⟩).map (·.name))
    rw [set_map _ _ (fun h9 => rfl)]
    exact h.classes
  · rcases hor c hc with rfl | h1
    · exact hl
    · exact h.rising c h1
  · rcases hor c hc with rfl | h1
    · exact (h.teach r.cs[k] hmem : ∃ m ∈ r.ms, m.name = r.cs[k].teacher ∧ m.role = 2)
    · exact h.teach c h1
  · rcases hor c hc with rfl | h1
    · exact hm s hs
    · exact h.stud c h1 s hs
  · have := h.lc
    show (r.cs.set _ _).length ≤ _
    rw [List.length_set]; omega
  · rcases hor c hc with rfl | h1
    · exact hn
    · have := h.ls c h1; omega
theorem getD_cls {r : Rol} {k : Nat} (hk : k < r.cs.length) : r.cs.getD k noC = r.cs[k] := by rw [List.getD_eq_getElem?_getD, List.getElem?_eq_getElem hk]; rfl
theorem inv_join {N : Nat} {r r' : Rol} {cl st : ByteArray} (h : Inv N r) (e : joinM r cl st = .ok r') : Inv (N + 1) r' := by
  unfold joinM at e
  split at e
  · cases e
  split at e
  · cases e
  split at e
  · split at e
    · cases e
    · rename_i hc hn hr hh
      injection e with e
      subst e
      have hc2 : hasN r.classes cl = true := by simpa using hc
      have hn2 : hasN r.names st = true := by simpa using hn
      have hk := plc_lt2 h.classes hc2
      obtain ⟨f1, f2⟩ := find_in h.names hn2
      have hmem := List.getElem_mem hk
      rw [getD_cls hk] at hh ⊢
      refine inv_set h hk (rising_ins (h.rising _ hmem) (notMem hh)) ?_ fun s hs => ?_
      · show (List.take _ _ ++ [st] ++ List.drop _ _).length ≤ _
        rw [ins_length]; have := h.ls _ hmem; omega
      · rcases (mem_ins _ _ _ _).1 hs with rfl | h1
        · exact ⟨_, f1, f2, hr⟩
        · exact h.stud _ hmem s h1
  · cases e
theorem inv_part {N : Nat} {r r' : Rol} {cl st : ByteArray} (h : Inv N r) (e : partM r cl st = .ok r') : Inv (N + 1) r' := by
  unfold partM at e
  split at e
  · cases e
  split at e
  · cases e
  rename_i hc hh
  injection e with e
  subst e
  have hc2 : hasN r.classes cl = true := by simpa using hc
  have hk := plc_lt2 h.classes hc2
  have hmem := List.getElem_mem hk
  rw [getD_cls hk]
  have ho := out_rising st (h.rising _ hmem)
  exact inv_set h hk ho.1 (by have := h.ls _ hmem; have := ho.2; omega) fun s hs => h.stud _ hmem s (mem_out (h.rising _ hmem) hs).1
theorem inv_do {N : Nat} {r r' : Rol} {d : Dd} (h : Inv N r) (e : doM r d = .ok r') : Inv (N + 1) r' := by
  unfold doM at e
  have h6 := (kN_is d).2
  generalize kN d = k at e h6
  have hk : k = 0 ∨ k = 1 ∨ k = 2 ∨ k = 3 ∨ k = 4 ∨ k = 5 ∨ k = 6 := by omega
  rcases hk with rfl | rfl | rfl | rfl | rfl | rfl | rfl
  · exact inv_enrol h e
  · exact inv_leave h e
  · exact inv_grant h e
  · exact inv_open h e
  · exact inv_close h e
  · exact inv_join h e
  · exact inv_part h e
end Go.Proofs.YtnmhgjoofgmcgaaGreat.Rl
