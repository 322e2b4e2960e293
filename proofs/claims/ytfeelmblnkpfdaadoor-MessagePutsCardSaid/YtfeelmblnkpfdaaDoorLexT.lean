/-
  A chain of 'or' in a plain region: behind the first true one all is passed over at once.
-/
import Derived.Test.YtfeelmblnkpfdaaDoorGn
namespace Go.Proofs.YtfeelmblnkpfdaaDoor.LexT
open Go
/-- The slots that are known to hold true behind the operations; T, U: those that hold true, and those that hold nothing. -/
def orT (ops : Array Oper) (n : Nat) : List Oper → List Nat → List Nat → Option (List Nat)
  | [], T, _ => some T
  | o :: r, T, U =>
    match o.dst with
    | none => none
    | some d =>
      if (decide (d < n) && !T.contains d && !U.contains d) = true then
        match o.guard with
        | some (g, b) =>
          match (ops[g]?).bind (·.dst) with
          | some t => if ((T.contains t && !b) || U.contains t) = true then orT ops n r T (d :: U) else none
          | none => none
        | none =>
          match o.op with
          | .pick (.tmp c) (.const (.bool true)) _ => if T.contains c = true then orT ops n r (d :: T) U else none
          | .move (.tmp c) => if T.contains c = true then orT ops n r (d :: T) U else none
          | _ => none
      else none
section
variable {P : Program} {ops : Array Oper} {Q : Exit → Act → World → Prop} {w : World}
theorem put_get {a : Act} {d n : Nat} {v : Value} (hsz : a.tmps.size = n) (hd : d < n) (t : Nat) : (a.put (some d) v).tmps[t]? = if t = d then some v else a.tmps[t]? := by
  show (a.tmps.setIfInBounds d v)[t]? = _
  by_cases h : t = d
  · subst h
    rw [if_pos rfl]
    simp [hsz, hd]
  · rw [if_neg h, Array.getElem?_setIfInBounds_ne (Ne.symm h)]
theorem orT_wp (n : Nat) : ∀ (rest : List Oper) (T U F : List Nat) (a : Act), a.tmps.size = n → (∀ t ∈ T, a.tmps[t]? = some (.bool true)) → (∀ t ∈ U, a.tmps[t]? = some undef) → orT ops n rest T U = some F →
    (∀ tm : Array Value, tm.size = n → (∀ t ∈ F, tm[t]? = some (.bool true)) → Q .normal ⟨tm, a.defers⟩ w) → wpList P ops Q rest a w
  | [], T, U, F, a, hsz, hT, hU, h, hK => by
    injection h with h
    subst h
    exact hK a.tmps hsz hT
  | o :: r, T, U, F, a, hsz, hT, hU, h, hK => by
    unfold orT at h
    cases hd : o.dst with
    | none => rw [hd] at h; cases h
    | some d =>
      rw [hd] at h
      simp only at h
      split at h
      · rename_i hc
        simp only [Bool.and_eq_true, decide_eq_true_eq, Bool.not_eq_true', List.contains_eq_mem, decide_eq_false_iff_not] at hc
        obtain ⟨⟨hdn, hdT⟩, hdU⟩ := hc
        have keepT : ∀ v, ∀ t ∈ T, (a.put (some d) v).tmps[t]? = some (.bool true) := fun v t ht => by
          have e : ¬ t = d := fun e => hdT (by rw [← e]; exact ht)
          rw [put_get hsz hdn, if_neg e]; exact hT t ht
        have keepU : ∀ v, ∀ t ∈ U, (a.put (some d) v).tmps[t]? = some undef := fun v t ht => by
          have e : ¬ t = d := fun e => hdU (by rw [← e]; exact ht)
          rw [put_get hsz hdn, if_neg e]; exact hU t ht
        have hsz2 : ∀ v, (a.put (some d) v).tmps.size = n := fun v => by show (a.tmps.setIfInBounds d v).size = n; simpa using hsz
        cases hg : o.guard with
        | some gb =>
          obtain ⟨g, b⟩ := gb
          rw [hg] at h
          simp only at h
          cases ht : (ops[g]?).bind (·.dst) with
          | none => rw [ht] at h; cases h
          | some t =>
            rw [ht] at h
            simp only at h
            split at h
            · rename_i hc
              have hw : Region.wanted o (yielded ops a.tmps) = false := by
                have hy : yielded ops a.tmps g ≠ some b := by
                  unfold yielded
                  rw [ht]
                  simp only [Bool.or_eq_true, Bool.and_eq_true, Bool.not_eq_true', List.contains_eq_mem, decide_eq_true_eq] at hc
                  rcases hc with ⟨h1, h2⟩ | h1
                  · rw [Option.bind_some, hT t h1, h2]
                    simp
                  · rw [Option.bind_some, hU t h1]
                    simp [undef]
                simp [Region.wanted, hg, hy]
              unfold wpList
              rw [if_neg (by rw [hw]; decide), hd]
              exact orT_wp n r T (d :: U) F _ (hsz2 _) (keepT _) (fun t ht2 => by
                rcases List.mem_cons.1 ht2 with e | e
                · rw [put_get hsz hdn, if_pos e]
                · exact keepU _ t e) h hK
            · cases h
        | none =>
          rw [hg] at h
          simp only at h
          have hw : Region.wanted o (yielded ops a.tmps) = true := by simp [Region.wanted, hg]
          have step : ∀ c, T.contains c = true → (∀ w : World, (execOp a.eval o).run P w = .ok (.value (.bool true)) w) → orT ops n r (d :: T) U = some F → wpList P ops Q (o :: r) a w := fun c hc hr h => by
            unfold wpList
            rw [if_pos hw]
            refine .inl ?_
            unfold Oper.wp
            rw [hr w]
            show wpList P ops Q r (a.put o.dst (.bool true)) w
            rw [hd]
            exact orT_wp n r (d :: T) U F _ (hsz2 _) (fun t ht2 => by
              rcases List.mem_cons.1 ht2 with e | e
              · rw [put_get hsz hdn, if_pos e]
              · exact keepT _ t e) (keepU _) h hK
          have ev : ∀ c, T.contains c = true → a.eval (.tmp c) = .bool true := fun c hc => by
            have := hT c (by simpa using hc)
            show a.tmps.getD c undef = _
            simp [this]
          cases ho : o.op <;> rw [ho] at h <;> (try simp only at h) <;> try (cases h; done)
          case move x =>
            cases x <;> (try simp only at h) <;> try (cases h; done)
            rename_i c
            split at h
            · rename_i hc
              exact step c hc (fun w => by unfold execOp; rw [ho]; simp only [ev c hc]; rfl) h
            · cases h
          case pick x y z =>
            cases x <;> (try simp only at h) <;> try (cases h; done)
            rename_i c
            cases y <;> (try simp only at h) <;> try (cases h; done)
            rename_i v
            cases v <;> (try simp only at h) <;> try (cases h; done)
            rename_i bb
            cases bb <;> (try simp only at h) <;> try (cases h; done)
            split at h
            · rename_i hc
              exact step c hc (fun w => by unfold execOp; rw [ho]; simp only [ev c hc]; rfl) h
            · cases h
      · cases h
/-- One operation that reads, in a plain region. -/
theorem wpList_val {a : Act} {rest : List Oper} {o : Oper} (v : Value) (hw : Region.wanted o (yielded ops a.tmps) = true) (hr : (execOp a.eval o).run P w = .ok (.value v) w) (h : wpList P ops Q rest (a.put o.dst v) w) : wpList P ops Q (o :: rest) a w := by
  unfold wpList
  rw [if_pos hw]
  refine .inl ?_
  unfold Oper.wp
  rw [hr]
  exact h
end
end Go.Proofs.YtfeelmblnkpfdaaDoor.LexT
