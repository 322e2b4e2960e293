/-
  Layer 27: a text whose bytes from a place on are turned.
-/
import Derived.Test.YtdkigbaodbkebaaNtF
import Derived.WalkSpells
import Derived.WalkLawsBesides
import Derived.Test.YtdkigbaodbkebaaHeldU
namespace Go.Proofs.Ytdkigbaodbkebaa.Nt
open Go.RowKit
set_option maxRecDepth 100000
set_option linter.unusedSimpArgs false
set_option linter.unusedVariables false
/-- The bytes of a string. -/
abbrev bs (s : ByteArray) : List UInt8 := s.data.toList
theorem bs_length (s : ByteArray) : (bs s).length = s.size := rfl
def u8v (c : UInt8) : Value := .int .u8 (c.toNat : Int)
theorem u8v_ofNat (x : Nat) (n : Int) (k : Nat) (hn : n = x) : Value.int .u8 (n / 2 ^ (8 * k) % 256) = u8v (UInt8.ofNat (x / 256 ^ k)) := by
  subst hn
  unfold u8v
  rw [UInt8.toNat_ofNat']
  have e : (2 : Int) ^ (8 * k) = ((256 ^ k : Nat) : Int) := by
    rw [Int.pow_mul]; simp
  rw [e]
  congr 1

/-- Bytes of which k, from the place A on, were turned by x. -/
def sp (l : List UInt8) (A : Nat) (x : Nat → UInt8) : Nat → List UInt8
  | 0 => l
  | k + 1 => (sp l A x k).set (A + k) (l.getD (A + k) 0 ^^^ x k)
theorem sp_len (l : List UInt8) (A : Nat) (x : Nat → UInt8) (k : Nat) : (sp l A x k).length = l.length := by
  induction k with
  | zero => rfl
  | succ k ih => rw [sp, List.length_set, ih]
theorem getD_at (l : List UInt8) (i : Nat) (h : i < l.length) : l.getD i 0 = l[i] := by
  rw [List.getD_eq_getElem?_getD, List.getElem?_eq_getElem h]; rfl
theorem sp_get (l : List UInt8) (A : Nat) (x : Nat → UInt8) (k j : Nat) : (sp l A x k)[j]? = if A ≤ j ∧ j < A + k then l[j]?.map (· ^^^ x (j - A)) else l[j]? := by
  induction k with
  | zero => rw [sp, if_neg (by omega)]
  | succ k ih =>
    rw [sp, List.getElem?_set, sp_len]
    by_cases h : A + k = j
    · subst h
      have hc : A ≤ A + k ∧ A + k < A + (k + 1) := by omega
      rw [if_pos rfl]
      by_cases hl : A + k < l.length
      · rw [if_pos hl, if_pos hc, List.getElem?_eq_getElem hl, getD_at l _ hl, show A + k - A = k from by omega]; rfl
      · rw [if_neg hl, if_pos hc, List.getElem?_eq_none (by omega)]; rfl
    · rw [if_neg h, ih]
      by_cases h2 : A ≤ j ∧ j < A + k
      · rw [if_pos h2, if_pos (by omega)]
      · rw [if_neg h2, if_neg (by omega)]
theorem sp_at (l : List UInt8) (A : Nat) (x : Nat → UInt8) (k : Nat) (h : A + k < l.length) : (sp l A x k)[A + k]? = some (l.getD (A + k) 0) := by
  rw [sp_get, if_neg (by omega), List.getElem?_eq_getElem h, getD_at l _ h]
theorem sp_same (l : List UInt8) (A : Nat) (x : Nat → UInt8) (k : Nat) (h : ∀ i, i < k → x i = 0) : sp l A x k = l := by
  apply List.ext_getElem?
  intro j
  rw [sp_get]
  split
  · rename_i hj
    rw [h (j - A) (by omega)]
    cases l[j]? with
    | none => rfl
    | some c => simp
  · rfl
def chg (x : Nat → UInt8) : Nat → Bool
  | 0 => false
  | k + 1 => chg x k || (x k != 0)
theorem chg_false {x : Nat → UInt8} {k : Nat} (h : chg x k = false) : ∀ i, i < k → x i = 0 := by
  induction k with
  | zero => intro i hi; omega
  | succ k ih =>
    rw [chg, Bool.or_eq_false_iff] at h
    intro i hi
    by_cases he : i = k
    · subst he; simpa using h.2
    · exact ih h.1 i (by omega)
theorem chg_true {x : Nat → UInt8} {k : Nat} (h : chg x k = true) : ∃ i, i < k ∧ x i ≠ 0 := by
  induction k with
  | zero => cases h
  | succ k ih =>
    rw [chg, Bool.or_eq_true] at h
    rcases h with h | h
    · obtain ⟨i, hi, hx⟩ := ih h; exact ⟨i, by omega, hx⟩
    · exact ⟨k, by omega, by simpa using h⟩

/-- The byte of a number that turns the k-th. -/
def turns (v : Nat) (k : Nat) : UInt8 := UInt8.ofNat (v / 256 ^ k)
theorem turns_eq (v k : Nat) : (v : Int) / 2 ^ (8 * k) % 256 = ((turns v k).toNat : Int) := by
  have h := u8v_ofNat v (v : Int) k rfl
  unfold u8v at h
  injection h

/-- The row of the bytes, whatever their capacity. -/
theorem bytesRow_eq (s : ByteArray) (cap : Nat) : bytesRow s cap = ((bs s).map u8v ++ List.replicate (cap - s.size) (Value.int .u8 0)).toArray := by
  unfold bytesRow
  apply Array.ext'
  simp [bs]
  exact fun _ _ => rfl

theorem row_sp (l : List UInt8) (A : Nat) (x : Nat → UInt8) (k : Nat) (rest : List Value) (h : A + k < l.length) (c xk : UInt8) (hc : c = l.getD (A + k) 0) (hx : xk = x k) :
    ((sp l A x k).map u8v ++ rest).set (A + k) (Value.int .u8 ((c.toNat ^^^ xk.toNat : Nat) : Int)) = (sp l A x (k + 1)).map u8v ++ rest := by
  rw [List.set_append_left _ _ (by rw [List.length_map, sp_len]; exact h), sp, List.map_set, ← hc, ← hx]
  congr 2

/-- A text, turned. -/
def spT (s : ByteArray) (A : Nat) (v : Nat) : ByteArray := ⟨(sp (bs s) A (turns v) (min 4 (s.size - A))).toArray⟩
set_option maxHeartbeats 8000000 in
theorem turned_any (s : ByteArray) (A v : Nat) (w : World) (hA : A < s.size) (hs : s.size ≤ 2000000) :
    Calls Try.prog 17 #[.string s, .int .i64 A, .int .u32 v] w fun e w' => e = .returned (.string (spT s A v)) ∧ Below w.heap.size w w' := by
  have hcv := fun W : World => run_bytes_of_string (P := Try.prog) W 9 50 5 s Try.underlying9 Try.underlying50 Try.underlying5
  obtain ⟨l, hl⟩ : ∃ l, l = bs s := ⟨_, rfl⟩
  have hll : l.length = s.size := by rw [hl, bs_length]
  obtain ⟨n, hn⟩ : ∃ n, n = s.size := ⟨_, rfl⟩
  obtain ⟨m, hm⟩ : ∃ m, m = min 4 (n - A) := ⟨_, rfl⟩
  obtain ⟨x, hx⟩ : ∃ x, x = turns v := ⟨_, rfl⟩
  have hT : spT s A v = ⟨(sp l A x m).toArray⟩ := by unfold spT; rw [← hl, ← hn, ← hm, hx]
  rw [hT]
  have hrowb : ∀ cap, bytesRow s cap = (l.map u8v ++ List.replicate (cap - s.size) (Value.int .u8 0)).toArray := fun cap => by rw [bytesRow_eq, hl]
  have hsz : s.size = n := hn.symm
  rw [← hn] at hll hA hs
  have hmin : min (4 : Int) ((n : Int) - (A : Int)) = (m : Int) := by rw [hm]; omega
  have hm4 : m ≤ 4 := by rw [hm]; omega
  have hmA : A + m ≤ n := by rw [hm]; omega
  have HL := Lib.hid hl
  have HLL := Lib.hid hll
  have HRB := Lib.hid hrowb
  have HSZ := Lib.hid hsz
  clear hl hll hn hT hrowb hm
  go_enter Try.func17, Try.ntmps17
  go_upto_region 2 with fail
  obtain ⟨cap, hcap⟩ : ∃ cap, cap = grownCap w n 0 5 := ⟨_, rfl⟩
  rw [← hcap]
  clear hcap
  obtain ⟨fr, hfr⟩ : ∃ fr : Nat × Nat, fr = ((bytesRow s cap).size, (bytesRow s cap).size + 1) := ⟨_, rfl⟩
  have hfr1 : n ≤ fr.1 := by
    rw [hfr, HRB.out]
    simp only [List.size_toArray, List.length_append, List.length_map, HLL.out]
    omega
  obtain ⟨rest, hrest⟩ : ∃ rest, bytesRow s cap = (l.map u8v ++ rest).toArray := ⟨_, HRB.out cap⟩
  rw [← hfr, hrest]
  obtain ⟨w3, hw3⟩ : ∃ w3, w3 = (w.alloc (.cells (l.map u8v ++ rest).toArray 5 fr)).drew := ⟨_, rfl⟩
  have hrow0 : w3.heap[w.heap.size]? = some (.cells (l.map u8v ++ rest).toArray 5 fr) := by
    rw [hw3]; exact heap_alloc_new w _
  have b3 : Below w.heap.size w w3 := by
    rw [hw3]; exact ((Below.refl _ w).alloc (Nat.le_refl _) _).drew
  obtain ⟨B, hBB⟩ : ∃ B, B = w.heap.size := ⟨_, rfl⟩
  rw [← hw3, ← hBB]
  rw [← hBB] at hrow0
  have hB : w.heap.size ≤ B := Nat.le_of_eq hBB.symm
  clear hw3 hfr hrest hBB hcv
  have HROW0 := Lib.hid hrow0
  have HX := Lib.hid hx
  clear hrow0 hx
  go_cut [15, 16] from 11 to 16 (fun sm si wx => sm = .int .i64 m ∧ si = .int .i64 0 ∧ wx = w3)
  case first =>
    go_wp2_with fail
    all_goals go_meet
    all_goals (refine ⟨?_, rfl, rfl⟩; first | rfl | (congr 1; omega) | congr 1)
  case rest =>
  obtain ⟨rfl, rfl, rfl⟩ := hcut
  go_wp2_with fail
  go_loopw [16] (fun i wr => ∃ k : Nat, k ≤ m ∧ i = .int .i64 k ∧ wr.heap[B]? = some (.cells ((sp l A x k).map u8v ++ rest).toArray 5 fr) ∧ Below w.heap.size w wr) (fun i _ => 4 - (intOf i).toNat)
  case atStart => exact ⟨0, by omega, rfl, HROW0.out, b3⟩
  case round =>
    obtain ⟨k, hk, rfl, hrow, hbel⟩ := hrel
    by_cases hgo : k < m
    · have hkl : A + k < l.length := by rw [HLL.out]; omega
      obtain ⟨c, hc⟩ : ∃ c, c = l.getD (A + k) 0 := ⟨_, rfl⟩
      have hget : ((sp l A x k).map u8v ++ rest)[A + k]? = some (.int .u8 (c.toNat : Int)) := by
        rw [List.getElem?_append_left (by rw [List.length_map, sp_len]; exact hkl), List.getElem?_map, sp_at l A x k hkl, ← hc]; rfl
      have hcell : wr.cell? ⟨B, A + k, none⟩ = some (.int .u8 (c.toNat : Int)) := by
        rw [cell_of_row _ _ _ _ _ _ hrow, List.getElem?_toArray, hget]
      have hfz : wr.frozen? ⟨B, A + k, none⟩ = false := by simp [World.frozen?, hrow]; omega
      have hxk := turns_eq v k
      rw [← HX.out] at hxk
      obtain ⟨xk, hxx⟩ : ∃ xk, xk = x k := ⟨_, rfl⟩
      rw [← hxx] at hxk
      have hc2 := c.toNat_lt
      have hx2 := xk.toNat_lt
      have hxor := u8_xor_nat c.toNat xk.toNat (by omega) (by omega)
      have hg1 : (k : Int) < (m : Int) := by omega
      have hnew := row_sp l A x k rest hkl c xk hc hxx
      have HROW := Lib.hid hrow
      have HNEW := Lib.hid hnew
      clear hrow hget hc hxx hnew
      obtain ⟨d, hd⟩ : ∃ d : Nat, d = c.toNat ^^^ xk.toNat := ⟨_, rfl⟩
      rw [← hd] at hxor HNEW
      clear hd
      go_upto_region 5 with fail
      refine wp_region_noPanic ?_
      refine HeldU.wp_region_until (F := fun _ => True) (G := (fun w9 : World => w9.cell? ⟨B, A + k, none⟩ = some (.int .u8 (c.toNat : Int)))) (k := 13) (by kernel_rfl) (trivial) ?_ (fun hHeld => ?_)
      · exact hcell
      conv in Array.replicate _ false => change #[false, false, false, false, false, false, false, false, false, false, false, false, false, false]
      obtain ⟨wd, hwd⟩ : ∃ x, x = wr.drew := ⟨_, rfl⟩
      have hbd2 : Below w.heap.size w wd := by rw [hwd]; exact Gn.below_drew hbel
      have HRD := Lib.hid ((show wd.heap[B]? = wr.heap[B]? by rw [hwd]; rfl).trans HROW.out)
      have hw1 : IntKind.i64.wrap ((A : Int) + (k : Int)) = ((A + k : Nat) : Int) := IntWalk.i64_in _ (by omega)
      have hw2 : IntKind.i64.wrap (8 * (k : Int)) = ((8 * k : Nat) : Int) := IntWalk.i64_in _ (by omega)
      have hlk : (A : Int) + (k : Int) < (n : Int) := by omega
      have hlk0 : (0 : Int) ≤ (A : Int) + (k : Int) := by omega
      have hl1 : ((A : Int) + (k : Int)).toNat = A + k := by omega
      have hl2 : (8 * (k : Int)).toNat = 8 * k := by omega
      have hxw : IntKind.u8.wrap ((v : Int) / 2 ^ (8 * k)) = (xk.toNat : Int) := by rw [← hxk]; rfl
      have hcd : wd.cell? ⟨B, A + k, none⟩ = some (.int .u8 (c.toNat : Int)) := by rw [hwd]; exact hcell
      have hfd : wd.frozen? ⟨B, A + k, none⟩ = false := by rw [hwd]; exact hfz
      rw [← hwd] at hHeld ⊢
      clear hwd hcell hfz
      refine HeldU.wpAnyU_take (i := 0) (v := ?_) rfl (by kernel_rfl) (by kernel_rfl) (by kernel_rfl) (by kernel_rfl) (by rfl) (fun _ _ _ h => h) (Or.inl ⟨by rfl, ?_⟩) (by assumption) ?_
      rotate_left
      · intro w hSw
        try dsimp only at hSw
        go_simp
        try with_reducible rfl
      try simp only [Act.put, List.getElem_toArray, List.getElem_cons_zero, List.getElem_cons_succ, List.setIfInBounds_toArray, List.set_cons_zero, List.set_cons_succ]
      refine HeldU.wpAnyU_take (i := 1) (v := ?_) rfl (by kernel_rfl) (by kernel_rfl) (by kernel_rfl) (by kernel_rfl) (by rfl) (fun _ _ _ h => h) (Or.inl ⟨by rfl, ?_⟩) (by assumption) ?_
      rotate_left
      · intro w hSw
        try dsimp only at hSw
        go_simp
        try with_reducible rfl
      try simp only [Act.put, List.getElem_toArray, List.getElem_cons_zero, List.getElem_cons_succ, List.setIfInBounds_toArray, List.set_cons_zero, List.set_cons_succ]
      refine HeldU.wpAnyU_take (i := 2) (v := ?_) rfl (by kernel_rfl) (by kernel_rfl) (by kernel_rfl) (by kernel_rfl) (by rfl) (fun _ _ _ h => h) (Or.inl ⟨by rfl, ?_⟩) (by assumption) ?_
      rotate_left
      · intro w hSw
        try dsimp only at hSw
        go_simp
        try with_reducible rfl
      try simp only [Act.put, List.getElem_toArray, List.getElem_cons_zero, List.getElem_cons_succ, List.setIfInBounds_toArray, List.set_cons_zero, List.set_cons_succ]
      refine HeldU.wpAnyU_take (i := 3) (v := ?_) rfl (by kernel_rfl) (by kernel_rfl) (by kernel_rfl) (by kernel_rfl) (by rfl) (fun _ _ _ h => h) (Or.inl ⟨by rfl, ?_⟩) (by assumption) ?_
      rotate_left
      · intro w hSw
        try dsimp only at hSw
        go_simp
        try with_reducible rfl
      try simp only [Act.put, List.getElem_toArray, List.getElem_cons_zero, List.getElem_cons_succ, List.setIfInBounds_toArray, List.set_cons_zero, List.set_cons_succ]
      refine HeldU.wpAnyU_take (i := 4) (v := ?_) rfl (by kernel_rfl) (by kernel_rfl) (by kernel_rfl) (by kernel_rfl) (by rfl) (fun _ _ _ h => h) (Or.inl ⟨by rfl, ?_⟩) (by assumption) ?_
      rotate_left
      · intro w hSw
        try dsimp only at hSw
        go_simp
        try with_reducible rfl
      try simp only [Act.put, List.getElem_toArray, List.getElem_cons_zero, List.getElem_cons_succ, List.setIfInBounds_toArray, List.set_cons_zero, List.set_cons_succ]
      refine HeldU.wpAnyU_early (i := 5) (v := ?_) rfl (by kernel_rfl) (by kernel_rfl) (by kernel_rfl) (by kernel_rfl) (by rfl) (by kernel_rfl) (fun _ _ _ h => h) (Or.inl ⟨by rfl, ?_⟩) (by assumption) ?_
      rotate_left
      · intro w hSw
        have hG := hSw.2
        clear hSw
        try dsimp only at hG
        go_simp
        try with_reducible rfl
      try simp only [Act.put, List.getElem_toArray, List.getElem_cons_zero, List.getElem_cons_succ, List.setIfInBounds_toArray, List.set_cons_zero, List.set_cons_succ]
      refine HeldU.wpAnyU_take (i := 6) (v := ?_) rfl (by kernel_rfl) (by kernel_rfl) (by kernel_rfl) (by kernel_rfl) (by rfl) (fun _ _ _ h => h) (Or.inl ⟨by rfl, ?_⟩) (by assumption) ?_
      rotate_left
      · intro w hSw
        try dsimp only at hSw
        go_simp
        try with_reducible rfl
      try simp only [Act.put, List.getElem_toArray, List.getElem_cons_zero, List.getElem_cons_succ, List.setIfInBounds_toArray, List.set_cons_zero, List.set_cons_succ]
      refine HeldU.wpAnyU_take (i := 7) (v := ?_) rfl (by kernel_rfl) (by kernel_rfl) (by kernel_rfl) (by kernel_rfl) (by rfl) (fun _ _ _ h => h) (Or.inl ⟨by rfl, ?_⟩) (by assumption) ?_
      rotate_left
      · intro w hSw
        try dsimp only at hSw
        go_simp
        try with_reducible rfl
      try simp only [Act.put, List.getElem_toArray, List.getElem_cons_zero, List.getElem_cons_succ, List.setIfInBounds_toArray, List.set_cons_zero, List.set_cons_succ]
      refine HeldU.wpAnyU_take (i := 8) (v := ?_) rfl (by kernel_rfl) (by kernel_rfl) (by kernel_rfl) (by kernel_rfl) (by rfl) (fun _ _ _ h => h) (Or.inl ⟨by rfl, ?_⟩) (by assumption) ?_
      rotate_left
      · intro w hSw
        try dsimp only at hSw
        go_simp
        try with_reducible rfl
      try simp only [Act.put, List.getElem_toArray, List.getElem_cons_zero, List.getElem_cons_succ, List.setIfInBounds_toArray, List.set_cons_zero, List.set_cons_succ]
      refine HeldU.wpAnyU_take (i := 9) (v := ?_) rfl (by kernel_rfl) (by kernel_rfl) (by kernel_rfl) (by kernel_rfl) (by rfl) (fun _ _ _ h => h) (Or.inl ⟨by rfl, ?_⟩) (by assumption) ?_
      rotate_left
      · intro w hSw
        try dsimp only at hSw
        go_simp
        try with_reducible rfl
      try simp only [Act.put, List.getElem_toArray, List.getElem_cons_zero, List.getElem_cons_succ, List.setIfInBounds_toArray, List.set_cons_zero, List.set_cons_succ]
      refine HeldU.wpAnyU_take (i := 10) (v := ?_) rfl (by kernel_rfl) (by kernel_rfl) (by kernel_rfl) (by kernel_rfl) (by rfl) (fun _ _ _ h => h) (Or.inl ⟨by rfl, ?_⟩) (by assumption) ?_
      rotate_left
      · intro w hSw
        try dsimp only at hSw
        go_simp
        try with_reducible rfl
      try simp only [Act.put, List.getElem_toArray, List.getElem_cons_zero, List.getElem_cons_succ, List.setIfInBounds_toArray, List.set_cons_zero, List.set_cons_succ]
      refine HeldU.wpAnyU_take (i := 11) (v := ?_) rfl (by kernel_rfl) (by kernel_rfl) (by kernel_rfl) (by kernel_rfl) (by rfl) (fun _ _ _ h => h) (Or.inl ⟨by rfl, ?_⟩) (by assumption) ?_
      rotate_left
      · intro w hSw
        try dsimp only at hSw
        go_simp
        try with_reducible rfl
      try simp only [Act.put, List.getElem_toArray, List.getElem_cons_zero, List.getElem_cons_succ, List.setIfInBounds_toArray, List.set_cons_zero, List.set_cons_succ]
      refine HeldU.wpAnyU_take (i := 12) (v := ?_) rfl (by kernel_rfl) (by kernel_rfl) (by kernel_rfl) (by kernel_rfl) (by rfl) (fun _ _ _ h => h) (Or.inl ⟨by rfl, ?_⟩) (by assumption) ?_
      rotate_left
      · intro w hSw
        try dsimp only at hSw
        go_simp
        try with_reducible rfl
      try simp only [Act.put, List.getElem_toArray, List.getElem_cons_zero, List.getElem_cons_succ, List.setIfInBounds_toArray, List.set_cons_zero, List.set_cons_succ]
      refine HeldU.wpAnyU_ready (rs := [13]) (by kernel_rfl) (by simp) ?_
      refine HeldU.AllReadyU.cons rfl (fun K hK => ?_) HeldU.AllReadyU.nil
      go_simp
      refine hK.out _ _ ⟨trivial, fun h => Bool.noConfusion (show true = false from h)⟩ (fun hHeld => ?_)
      clear hK K
      try simp only [Act.put, List.getElem_toArray, List.getElem_cons_zero, List.getElem_cons_succ, List.setIfInBounds_toArray, List.set_cons_zero, List.set_cons_succ]
      refine HeldU.wpAnyU_done (by kernel_rfl) ?_ _
      refine NoPanic.normal ?_
      clear hcd hfd hxor hw1 hlk hlk0 hl1
      go_wp2_with fail
      go_roundw
      case rel =>
        refine ⟨k + 1, by omega, by go_num, ?_, hbd2.setCell hB _⟩
        have hrow := HRD.out
        rw [← HNEW.out]
        simp [World.setCell, Array.getElem?_modify, hrow]
      case measure => simp [intOf]; omega
    · have hkm : k = m := by omega
      subst hkm
      have hgo2 : ¬ (k : Int) < (k : Int) := by omega
      have hlen := sp_len l A x k
      have hcv : (convert 50 9 (.slice (some ⟨B, 0, none⟩) n cap)).run Try.prog wr = .ok (.string ⟨(sp l A x k).toArray⟩) wr := by
        have := run_convert_bytes_back (P := Try.prog) wr 50 9 5 ⟨B, 0, none⟩ cap (sp l A x k) Try.underlying50 Try.underlying5 Try.underlying9 (fun j hj => by
          have e : (⟨B, 0, none⟩ : Addr).add j = ⟨B, j, none⟩ := by unfold Addr.add; split <;> simp_all
          rw [e, cell_of_row _ _ _ _ _ _ hrow, List.getElem?_toArray, List.getElem?_append_left (by rw [List.length_map]; exact hj), List.getElem?_map, List.getElem?_eq_getElem hj]
          rfl)
        rw [hlen, HLL.out] at this
        exact this
      have HBL := Lib.hid hbel
      clear hrow hgo hbel hlen
      go_wp2_with fail
      go_ret
      exact ⟨rfl, HBL.out⟩
end Go.Proofs.Ytdkigbaodbkebaa.Nt
