/-
  Layer 18: RollTurned in plain words: a roll is what was enrolled, opened and joined, in whatever order.
-/
import Derived.Test.YtdkcfhmdgignhaaRlSpeaks
namespace Go.Proofs.Ytdkcfhmdgignhaa.Rl
set_option maxRecDepth 100000
set_option linter.unusedSimpArgs false
set_option linter.unusedVariables false
def tt : ByteArray := ⟨#[116]⟩
structure Tn (X C : ByteArray → Prop) (S : ByteArray → ByteArray → Prop) (N M : Nat) (r : Rol) : Prop where
  names : Rising r.names
  classes : Rising r.classes
  rising : ∀ c ∈ r.cs, Rising c.studs
  mem : ∀ m, m ∈ r.ms ↔ m = ⟨tt, 2, 4096⟩ ∨ ∃ x, X x ∧ m = ⟨x, 1, 4096⟩
  cls : ∀ n, n ∈ r.classes ↔ C n
  tch : ∀ c ∈ r.cs, c.teacher = tt
  std : ∀ c ∈ r.cs, ∀ s, s ∈ c.studs ↔ S c.name s
  lm : r.ms.length ≤ N
  lc : r.cs.length ≤ M
  ls : ∀ c ∈ r.cs, c.studs.length ≤ N
section
variable {X C : ByteArray → Prop} {S : ByteArray → ByteArray → Prop} {N M : Nat} {r : Rol}
theorem Tn.sized (h : Tn X C S N M r) (hN : N ≤ 4000) (hM : M ≤ 4000) : Sized r :=
  ⟨Nat.le_trans h.lm hN, Nat.le_trans h.lc hM, fun c hc => Nat.le_trans (h.ls c hc) hN, h.names, h.classes, h.rising⟩
theorem Tn.same {X' C' : ByteArray → Prop} {S' : ByteArray → ByteArray → Prop} {N' M' : Nat} (h : Tn X C S N M r) (hX : ∀ x, X x ↔ X' x) (hC : ∀ x, C x ↔ C' x) (hS : ∀ n s, S n s ↔ S' n s) (hN : N ≤ N') (hM : M ≤ M') : Tn X' C' S' N' M' r :=
  ⟨h.names, h.classes, h.rising, fun m => (h.mem m).trans ⟨fun h => h.imp id fun ⟨x, h1, h2⟩ => ⟨x, (hX x).1 h1, h2⟩, fun h => h.imp id fun ⟨x, h1, h2⟩ => ⟨x, (hX x).2 h1, h2⟩⟩, fun n => (h.cls n).trans (hC n), h.tch, fun c hc s => (h.std c hc s).trans (hS _ _), Nat.le_trans h.lm hN, Nat.le_trans h.lc hM, fun c hc => Nat.le_trans (h.ls c hc) hN⟩
theorem who (hs : Rising r.names) {m : Mem} (hm : m ∈ r.ms) : hasN r.names m.name = true ∧ findM r m.name = m := by
  have h1 : hasN r.names m.name = true := hasN_iff.2 (List.mem_map.2 ⟨m, hm, rfl⟩)
  obtain ⟨f1, f2⟩ := find_in hs h1
  exact ⟨h1, rising_eq (fun m : Mem => m.name) (show Rising (r.ms.map fun m => m.name) from hs) f1 hm f2⟩
def Went (R : Except Nat Rol) (r : Rol) (P : Rol → Prop) : Prop := (codeOf R = 0 ∧ P (rolOf R)) ∨ (codeOf R = 9 ∧ P r)
theorem Tn.enrol (h : Tn X C S N M r) {x : ByteArray} (hx : x ≠ tt) (hg : Lx.goodB (Lx.bs x) = true) (hN : N < 256) : Went (enrolM r x 1) r (Tn (fun y => y = x ∨ X y) C S (N + 1) M) := by
  unfold enrolM
  rw [if_neg (by rw [hg]; decide), if_neg (by decide)]
  by_cases hh : hasN r.names x = true
  · rw [if_pos hh]
    refine .inr ⟨rfl, h.same (fun y => ⟨.inr, fun e => e.elim (fun e => ?_) id⟩) (fun _ => Iff.rfl) (fun _ _ => Iff.rfl) (Nat.le_succ _) (Nat.le_refl _)⟩
    subst e
    obtain ⟨m, hm, e⟩ := List.mem_map.1 (hasN_iff.1 hh)
    rcases (h.mem m).1 hm with e1 | ⟨z, h1, e1⟩
    · rw [e1] at e; exact absurd e.symm hx
    · rw [e1] at e
      rw [← e]; exact h1
  · have := h.lm
    rw [if_neg hh, if_neg (by omega)]
    refine .inl ⟨rfl, ?_, h.classes, h.rising, fun m => ?_, h.cls, h.tch, h.std, ?_, h.lc, fun c hc => Nat.le_succ_of_le (h.ls c hc)⟩
    · show Rising ((r.ms.take (plc r.names x) ++ [(⟨x, 1, 4096⟩ : Mem)] ++ r.ms.drop (plc r.names x)).map (·.name))
      rw [map_ins]
      exact rising_ins h.names (notMem hh)
    · refine (mem_ins r.ms (plc r.names x) _ m).trans ⟨fun e => ?_, fun e => ?_⟩
      · rcases e with e | e
        · exact .inr ⟨x, .inl rfl, e⟩
        · exact ((h.mem m).1 e).imp id fun ⟨z, h1, h2⟩ => ⟨z, .inr h1, h2⟩
      · rcases e with e | ⟨z, rfl | h1, h2⟩
        · exact .inr ((h.mem m).2 (.inl e))
        · exact .inl h2
        · exact .inr ((h.mem m).2 (.inr ⟨z, h1, h2⟩))
    · show (r.ms.take (plc r.names x) ++ [(⟨x, 1, 4096⟩ : Mem)] ++ r.ms.drop (plc r.names x)).length ≤ _
      rw [ins_length]; omega
theorem Tn.open_ (h : Tn X C S N M r) {c : ByteArray} (hS : ∀ s, ¬ S c s) (hg : Lx.goodB (Lx.bs c) = true) (hM : M < 32) : Went (openM r c tt) r (Tn X (fun y => y = c ∨ C y) S N (M + 1)) := by
  obtain ⟨w1, w2⟩ := who h.names ((h.mem ⟨tt, 2, 4096⟩).2 (.inl rfl))
  dsimp only at w1 w2
  unfold openM
  rw [if_neg (by rw [hg]; decide)]
  by_cases hh : hasN r.classes c = true
  · rw [if_pos hh]
    refine .inr ⟨rfl, h.same (fun _ => Iff.rfl) (fun y => ⟨.inr, fun e => e.elim (fun e => ?_) id⟩) (fun _ _ => Iff.rfl) (Nat.le_refl _) (Nat.le_succ _)⟩
    subst e
    exact (h.cls y).1 (hasN_iff.1 hh)
  · have := h.lc
    rw [if_neg hh, if_neg (by rw [w1]; decide), w2, if_pos rfl, if_neg (by omega)]
    have hor : ∀ c' ∈ r.cs.take (plc r.classes c) ++ [(⟨c, tt, []⟩ : Cls)] ++ r.cs.drop (plc r.classes c), c' = ⟨c, tt, []⟩ ∨ c' ∈ r.cs := fun c' hc => (mem_ins _ _ _ _).1 hc
    have hnm : (r.cs.take (plc r.classes c) ++ [(⟨c, tt, []⟩ : Cls)] ++ r.cs.drop (plc r.classes c)).map (·.name) = r.classes.take (plc r.classes c) ++ [c] ++ r.classes.drop (plc r.classes c) := map_ins _ _ _ _
    refine .inl ⟨rfl, h.names, ?_, fun c' hc => ?_, h.mem, fun n => ?_, fun c' hc => ?_, fun c' hc s => ?_, h.lm, ?_, fun c' hc => ?_⟩
    · show Rising ((r.cs.take (plc r.classes c) ++ [(⟨c, tt, []⟩ : Cls)] ++ r.cs.drop (plc r.classes c)).map (·.name))
      rw [hnm]
      exact rising_ins h.classes (notMem hh)
    · rcases hor c' hc with rfl | h1
      · exact List.Pairwise.nil
      · exact h.rising c' h1
    · show n ∈ (r.cs.take (plc r.classes c) ++ [(⟨c, tt, []⟩ : Cls)] ++ r.cs.drop (plc r.classes c)).map (·.name) ↔ _
      rw [hnm, mem_ins]
      exact ⟨fun e => e.imp id (h.cls n).1, fun e => e.imp id (h.cls n).2⟩
    · rcases hor c' hc with rfl | h1
      · rfl
      · exact h.tch c' h1
    · rcases hor c' hc with rfl | h1
      · exact ⟨fun e => absurd e (by simp), fun e => absurd e (hS s)⟩
      · exact h.std c' h1 s
    · show (r.cs.take (plc r.classes c) ++ [(⟨c, tt, []⟩ : Cls)] ++ r.cs.drop (plc r.classes c)).length ≤ _
      rw [ins_length]; omega
    · rcases hor c' hc with rfl | h1
      · exact Nat.zero_le _
      · exact h.ls c' h1
theorem Tn.join (h : Tn X C S N M r) {c x : ByteArray} (hc : C c) (hx : X x) (hxt : x ≠ tt) : Went (joinM r c x) r (Tn X C (fun n s => (n = c ∧ s = x) ∨ S n s) (N + 1) M) := by
  obtain ⟨w1, w2⟩ := who h.names ((h.mem ⟨x, 1, 4096⟩).2 (.inr ⟨x, hx, rfl⟩))
  dsimp only at w1 w2
  have hcm := (h.cls c).2 hc
  have hch : hasN r.classes c = true := hasN_iff.2 hcm
  obtain ⟨p1, p2⟩ := (plc_mem r.classes c h.classes).2 hcm
  have hk := plc_lt2 h.classes hch
  have hnm : r.cs[plc r.classes c].name = c := by
    have := cmpN_eq p2
    simp only [Rol.classes, List.getElem_map] at this
    exact this.symm
  have hmem := List.getElem_mem hk
  unfold joinM
  rw [if_neg (by rw [hch]; decide), if_neg (by rw [w1]; decide), w2, if_pos rfl, getD_cls hk]
  by_cases hh : hasN r.cs[plc r.classes c].studs x = true
  · rw [if_pos hh]
    refine .inr ⟨rfl, h.names, h.classes, h.rising, h.mem, h.cls, h.tch, fun c' hc' s => ⟨fun e => .inr ((h.std c' hc' s).1 e), fun e => e.elim (fun ⟨e1, e2⟩ => ?_) (h.std c' hc' s).2⟩, Nat.le_succ_of_le h.lm, h.lc, fun c hc => Nat.le_succ_of_le (h.ls c hc)⟩
    have e3 := rising_eq (fun c : Cls => c.name) (show Rising (r.cs.map fun c => c.name) from h.classes) hc' hmem (e1.trans hnm.symm)
    rw [e3, e2]
    exact hasN_iff.1 hh
  · rw [if_neg hh]
    have hor : ∀ (i : Nat) (hi : i < (r.cs.set (plc r.classes c) ⟨r.cs[plc r.classes c].name, r.cs[plc r.classes c].teacher, insN r.cs[plc r.classes c].studs x⟩).length), (plc r.classes c = i ∧ (r.cs.set (plc r.classes c) ⟨r.cs[plc r.classes c].name, r.cs[plc r.classes c].teacher, insN r.cs[plc r.classes c].studs x⟩)[i] = ⟨r.cs[plc r.classes c].name, r.cs[plc r.classes c].teacher, insN r.cs[plc r.classes c].studs x⟩) ∨ (∃ hi2 : i < r.cs.length, plc r.classes c ≠ i ∧ (r.cs.set (plc r.classes c) ⟨r.cs[plc r.classes c].name, r.cs[plc r.classes c].teacher, insN r.cs[plc r.classes c].studs x⟩)[i] = r.cs[i]) := fun i hi => by
      by_cases e : plc r.classes c = i
      · subst e
        exact .inl ⟨rfl, List.getElem_set_self _⟩
      · exact .inr ⟨by simpa using hi, e, List.getElem_set_ne e _⟩
    have hall : ∀ {P : Cls → Prop}, P ⟨r.cs[plc r.classes c].name, r.cs[plc r.classes c].teacher, insN r.cs[plc r.classes c].studs x⟩ → (∀ (i : Nat) (hi : i < r.cs.length), plc r.classes c ≠ i → P r.cs[i]) → ∀ c' ∈ r.cs.set (plc r.classes c) ⟨r.cs[plc r.classes c].name, r.cs[plc r.classes c].teacher, insN r.cs[plc r.classes c].studs x⟩, P c' := fun h1 h2 c' hc' => by
      obtain ⟨i, hi, rfl⟩ := List.mem_iff_getElem.1 hc'
      rcases hor i hi with ⟨_, e⟩ | ⟨hi2, hne, e⟩
      · rw [e]; exact h1
      · rw [e]; exact h2 i hi2 hne
    have hnames : (r.cs.set (plc r.classes c) ⟨r.cs[plc r.classes c].name, r.cs[plc r.classes c].teacher, insN r.cs[plc r.classes c].studs x⟩).map (·.name) = r.classes := set_map _ _ (fun h9 => rfl)
    refine .inl ⟨rfl, h.names, ?_, ?_, h.mem, fun n => ?_, ?_, ?_, Nat.le_succ_of_le h.lm, by show (r.cs.set _ _).length ≤ _; rw [List.length_set]; exact h.lc, ?_⟩
    · show Rising ((r.cs.set _ _).map (·.name))
      rw [hnames]; exact h.classes
    · exact hall (rising_ins (h.rising _ hmem) (notMem hh)) fun i hi _ => h.rising _ (List.getElem_mem hi)
    · show n ∈ (r.cs.set _ _).map (·.name) ↔ _
      rw [hnames]; exact h.cls n
    · exact hall (show r.cs[plc r.classes c].teacher = tt from h.tch _ hmem) fun i hi _ => h.tch _ (List.getElem_mem hi)
    · refine hall (fun s => ?_) fun i hi hne s => ⟨fun e => .inr ((h.std _ (List.getElem_mem hi) s).1 e), fun e => e.elim (fun ⟨e1, e2⟩ => ?_) (h.std _ (List.getElem_mem hi) s).2⟩
      · show s ∈ List.take _ _ ++ [x] ++ List.drop _ _ ↔ (r.cs[plc r.classes c].name = c ∧ s = x) ∨ S r.cs[plc r.classes c].name s
        rw [mem_ins]
        exact ⟨fun e => e.elim (fun e => .inl ⟨hnm, e⟩) (fun e => .inr ((h.std _ hmem s).1 e)), fun e => e.elim (fun e => .inl e.2) (fun e => .inr ((h.std _ hmem s).2 e))⟩
      · exact absurd (rising_one (fun c : Cls => c.name) (show Rising (r.cs.map fun c => c.name) from h.classes) hk hi (hnm.trans e1.symm)) hne
    · refine hall ?_ fun i hi _ => Nat.le_succ_of_le (h.ls _ (List.getElem_mem hi))
      show (List.take _ _ ++ [x] ++ List.drop _ _).length ≤ _
      rw [ins_length]
      have := h.ls _ hmem
      omega
end
theorem rising_same {α : Type} (f : α → ByteArray) : ∀ {l k : List α}, Rising (l.map f) → Rising (k.map f) → (∀ x, x ∈ l ↔ x ∈ k) → l = k
  | [], [], _, _, _ => rfl
  | [], b :: k, _, _, h => absurd ((h b).2 List.mem_cons_self) (by simp)
  | a :: l, [], _, _, h => absurd ((h a).1 List.mem_cons_self) (by simp)
  | a :: l, b :: k, hl, hk, h => by
    have hl2 := List.pairwise_cons.1 hl
    have hk2 := List.pairwise_cons.1 hk
    have hab : a = b := by
      rcases List.mem_cons.1 ((h a).1 List.mem_cons_self) with e | e
      · exact e
      · rcases List.mem_cons.1 ((h b).2 List.mem_cons_self) with e2 | e2
        · exact e2.symm
        · have h1 := hk2.1 (f a) (List.mem_map.2 ⟨a, e, rfl⟩)
          have h2 := hl2.1 (f b) (List.mem_map.2 ⟨b, e2, rfl⟩)
          have := cmpN_trans h1 h2
          rw [cmpN_self] at this
          exact absurd this (by decide)
    subst hab
    refine congrArg (a :: ·) (rising_same f hl2.2 hk2.2 fun x => ⟨fun hx => ?_, fun hx => ?_⟩)
    · rcases List.mem_cons.1 ((h x).1 (List.mem_cons_of_mem _ hx)) with rfl | e
      · have := hl2.1 (f x) (List.mem_map.2 ⟨x, hx, rfl⟩)
        rw [cmpN_self] at this
        exact absurd this (by decide)
      · exact e
    · rcases List.mem_cons.1 ((h x).2 (List.mem_cons_of_mem _ hx)) with rfl | e
      · have := hk2.1 (f x) (List.mem_map.2 ⟨x, hx, rfl⟩)
        rw [cmpN_self] at this
        exact absurd this (by decide)
      · exact e
theorem Tn.one {X C : ByteArray → Prop} {S : ByteArray → ByteArray → Prop} {N M N' M' : Nat} {r r' : Rol} (h : Tn X C S N M r) (k : Tn X C S N' M' r') : r = r' := by
  have hm : r.ms = r'.ms := rising_same (fun m : Mem => m.name) h.names k.names fun m => (h.mem m).trans (k.mem m).symm
  have key : ∀ {r r' : Rol} {N M N' M' : Nat}, Tn X C S N M r → Tn X C S N' M' r' → ∀ c ∈ r.cs, c ∈ r'.cs := fun {r r' N M N' M'} h k c hc => by
    have h1 : c.name ∈ r'.classes := (k.cls _).2 ((h.cls _).1 (List.mem_map.2 ⟨c, hc, rfl⟩))
    obtain ⟨c', hc', e⟩ := List.mem_map.1 h1
    have e2 : c'.studs = c.studs := by
      have := rising_same (fun s : ByteArray => s) (l := c'.studs) (k := c.studs) (by rw [List.map_id']; exact k.rising c' hc') (by rw [List.map_id']; exact h.rising c hc) fun s => (k.std c' hc' s).trans (by rw [show c'.name = c.name from e]; exact (h.std c hc s).symm)
      exact this
    have e3 : c'.teacher = c.teacher := (k.tch c' hc').trans (h.tch c hc).symm
    have e4 : c' = c := by
      cases c'; cases c
      simp only [Cls.mk.injEq]
      exact ⟨e, e3, e2⟩
    rw [← e4]; exact hc'
  have hc : r.cs = r'.cs := rising_same (fun c : Cls => c.name) h.classes k.classes fun c => ⟨key h k c, key k h c⟩
  cases r; cases r'
  simp only [Rol.mk.injEq]
  exact ⟨hm, hc⟩
theorem tn_start : enrolM ⟨[], []⟩ tt 2 = .ok ⟨[⟨tt, 2, 4096⟩], []⟩ ∧ Tn (fun _ => False) (fun _ => False) (fun _ _ => False) 1 0 ⟨[⟨tt, 2, 4096⟩], []⟩ := by
  refine ⟨rfl, List.pairwise_singleton _ _, List.Pairwise.nil, fun c hc => absurd hc (by simp), fun m => ⟨fun e => .inl (by simpa using e), fun e => e.elim (fun e => by simp [e]) (fun ⟨_, e, _⟩ => e.elim)⟩, fun n => ⟨fun e => absurd e (by simp [Rol.classes]), fun e => e.elim⟩, fun c hc => absurd hc (by simp), fun c hc => absurd hc (by simp), by simp, by simp, fun c hc => absurd hc (by simp)⟩
end Go.Proofs.Ytdkcfhmdgignhaa.Rl
