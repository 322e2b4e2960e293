/-
  The walk of the document's plain Scan.
-/
import Derived.Test.YtppdemdjlhdfcaaLxRefLit2
import Derived.Test.YtppdemdjlhdfcaaLxScan2
namespace Go.Proofs.Ytppdemdjlhdfcaa.Lx
open Go.RowKit
set_option maxRecDepth 100000

theorem cut_cons (s : ByteArray) (P : Nat) (h : P < s.size) : bs (cut s P) = s[P] :: bs (cut s (P + 1)) := by
  rw [bs_cut, bs_cut]
  exact List.drop_eq_getElem_cons (by simpa using h)
theorem plc_take (s : ByteArray) (P n : Nat) (h : P + n ≤ s.size) (hf : Flat ((bs (cut s P)).take n)) (l c : Nat) : plc ((bs s).take (P + n)) l c = ((plc ((bs s).take P) l c).1, (plc ((bs s).take P) l c).2 + n) := by
  rw [List.take_add, plc_append, ← bs_cut, plc_flat _ _ _ hf]
  congr 2
  rw [List.length_take, bs_len, cut_size]; omega
theorem run_cut (s : ByteArray) (P Q : Nat) (h1 : P ≤ Q) (h2 : Q ≤ s.size) (ha : ∀ j, (h : j < s.size) → P ≤ j → j < Q → nameN s[j].toNat = true) (hb : ∀ h : Q < s.size, nameN s[Q].toNat = false) : run (bs (cut s P)) = Q - P := by
  have hl : (bs (cut s P)).length = s.size - P := by rw [bs_len, cut_size]
  have hg : ∀ (j : Nat) (hj : j < (bs (cut s P)).length), (bs (cut s P))[j] = (bs s)[P + j]'(by rw [bs_len]; omega) := fun j hj => by
    have : ∀ (l : List UInt8), l = (bs s).drop P → ∀ (h : j < l.length) (h2 : P + j < (bs s).length), l[j] = (bs s)[P + j] := fun l e h h2 => by subst e; simp
    exact this _ (bs_cut s P) hj (by rw [bs_len]; omega)
  refine tw_len _ (bs (cut s P)) (Q - P) (by omega) (fun j hj hjk => ?_) (fun hk => ?_)
  · rw [hg j hj]
    exact ha (P + j) (by omega) (by omega) (by omega)
  · rw [hg _ hk]
    have : P + (Q - P) = Q := by omega
    simp only [this]
    exact hb (by omega)

/-- Behind the blanks: what is told from here on, by the first byte. -/
theorem scan_here (s : ByteArray) (P L C : Nat) (h : P < s.size) (h35 : s[P].toNat ≠ 35) (hb : blankN s[P].toNat = false) : scanG false (bs (cut s P)) L C = scanT (bs (cut s P)) L C := by
  rw [cut_cons s P h]; exact scan_tok _ _ _ _ h35 hb
theorem rtok_here (s : ByteArray) (P l c : Nat) (h : P < s.size) : rtok (bs (cut s P)) l c =
    if letterN s[P].toNat = true then
      if 32 < nsz (bs (cut s P)) then (.zero, (l, c, 6), nsz (bs (cut s P))) else (⟨1, bs (head (cut s P) (nsz (bs (cut s P)))), l, c⟩, (0, 0, 0), nsz (bs (cut s P)))
    else if quoteN s[P].toNat = true then
      match (rlit s[P] (s.size - P) (bs (cut s (P + 1)))).1 with
      | none => (.zero, (l, c + 1 + (rlit s[P] (s.size - P) (bs (cut s (P + 1)))).2, 2), 1 + (rlit s[P] (s.size - P) (bs (cut s (P + 1)))).2)
      | some t => if t = [] then (.zero, (l, c, 2), 1 + (rlit s[P] (s.size - P) (bs (cut s (P + 1)))).2) else if 16 < t.length then (.zero, (l, c, 6), 1 + (rlit s[P] (s.size - P) (bs (cut s (P + 1)))).2) else (⟨2, t, l, c⟩, (0, 0, 0), 1 + (rlit s[P] (s.size - P) (bs (cut s (P + 1)))).2)
    else if signN s[P].toNat = true then (⟨3, bs (head (cut s P) 1), l, c⟩, (0, 0, 0), 1)
    else (.zero, (l, c, 2), 0) := by
  have h2 : 0 < (cut s P).size := by rw [cut_size]; omega
  have e : (cut s (P + 1)).size + 1 = s.size - P := by rw [cut_size]; omega
  rw [rtok_cons (cut s P) l c h2]
  simp only [cut_get s P h h2, cut_cut, e]
  rfl
theorem pre_err (a : List Tk) (f : Nat × Nat × Nat) (h : f.2.2 ≠ 0) : pre a ([], f) = ([], f) := by unfold pre; rw [if_neg h]

/-- How far the plain Scan is. -/
def RsAt (s : ByteArray) (tot : List Tk × (Nat × Nat × Nat)) (w wr : World) (v p : Value) : Prop :=
  ∃ (P cap : Nat) (A : Option Addr) (acc : List Tk), v = .slice A acc.length cap ∧ p = .int .i64 P ∧ P ≤ s.size ∧ acc.length ≤ P ∧
    tot = pre acc (scanG false (bs (cut s P)) (plc ((bs s).take P) 1 1).1 (plc ((bs s).take P) 1 1).2) ∧
    wr.ownsRow w.heap.size 89 4 (.slice A acc.length cap) acc.length (tkCells acc) ∧ RfAt wr w.heap.size 0 0 0 ∧ Below w.heap.size w wr

/-- What the plain Scan tells. -/
def RScanned (w : World) (R : List Tk × (Nat × Nat × Nat)) (e : Ending) (w' : World) : Prop :=
  ∃ A cap, e = .returned (.tuple #[.slice A R.1.length cap, fltV R.2]) ∧ w'.ownsRow w.heap.size 89 4 (.slice A R.1.length cap) R.1.length (tkCells R.1) ∧ Below w.heap.size w w'

theorem rtkinfo : (Try.prog.info? 89).map (fun i => (i.zero, i.size, i.bytes)) = some (some (.agg #[.int .i64 0, .string ⟨#[]⟩, .int .i64 0, .int .i64 0]), 4, 40) := by kernel_rfl
theorem RfAt.facts {W : World} {b : Nat} {l c e : Int} (h : RfAt W b l c e) :
    W.cell? ⟨b, 0, none⟩ = some (.int .i64 l) ∧ W.cell? ⟨b, 1, none⟩ = some (.int .i64 c) ∧ W.cell? ⟨b, 2, none⟩ = some (.int .i64 e) ∧ ∀ i, W.frozen? ⟨b, i, none⟩ = false :=
  ⟨cell_of_row _ _ 0 _ _ (0, 0) h, cell_of_row _ _ 1 _ _ (0, 0) h, cell_of_row _ _ 2 _ _ (0, 0) h, fun i => by have h' := h; unfold RfAt at h'; simp [World.frozen?, h']⟩
theorem rf_set3 {W : World} {B : Nat} (h : RfAt W B 0 0 0) (f0 f1 f2 : Int) : RfAt (((W.setCell ⟨B, 0, none⟩ (.int .i64 f0)).setCell ⟨B, 1, none⟩ (.int .i64 f1)).setCell ⟨B, 2, none⟩ (.int .i64 f2)) B f0 f1 f2 :=
  heap_set (heap_set (heap_set h 0 _) 1 _) 2 _

/-- The end with a fault. -/
theorem rs_fault {w W : World} {tot : List Tk × (Nat × Nat × Nat)} {f0 f1 f2 : Nat} (ht : tot = ([], (f0, f1, f2))) (hf : RfAt W w.heap.size 0 0 0) (hb : Below w.heap.size w W) (tmps : Array Value)
    (h2 : tmps.getD 2 undef = .slice none 0 0) (h3 : tmps.getD 3 undef = .pointer (some ⟨w.heap.size, 0, none⟩)) :
    bodyPost Try.prog Try.f13 (RScanned w tot) Exit.ret { tmps := tmps, defers := [] } (((W.setCell ⟨w.heap.size, 0, none⟩ (.int .i64 f0)).setCell ⟨w.heap.size, 1, none⟩ (.int .i64 f1)).setCell ⟨w.heap.size, 2, none⟩ (.int .i64 f2)) := by
  subst ht
  refine bodyPost_ret (results_tmp_cell (P := Try.prog) rfl _ _ w.heap.size 35 _ (0, 0) _ _ h2 h3 (rf_set3 hf f0 f1 f2) Try.underlying35 rfl rfl) rfl ⟨none, 0, rfl, World.ownsRow_nil _ _ _ _, ?_⟩
  exact ((hb.setCell (p := ⟨w.heap.size, 0, none⟩) (Nat.le_refl _) _).setCell (p := ⟨w.heap.size, 1, none⟩) (Nat.le_refl _) _).setCell (p := ⟨w.heap.size, 2, none⟩) (Nat.le_refl _) _

theorem own_below {W W' : World} {e : TypeId} {size : Nat} {v : Value} {n : Nat} {xs : List Value} {base : Nat} (h : W.ownsRow base e size v n xs) (b : Below W.heap.size W W') : W'.ownsRow base e size v n xs := by
  refine ⟨h.1, ?_⟩
  rcases h.2 with h2 | ⟨r, cp, cur, hv, hbr, hhr, hrest⟩
  · exact .inl h2
  · exact .inr ⟨r, cp, cur, hv, hbr, (b.block r (heap_lt hhr)).trans hhr, hrest⟩

/-- Behind an append. -/
theorem rs_grow {s : ByteArray} {tot : List Tk × (Nat × Nat × Nat)} {w wr w4 : World} {A : Option Addr} {cap P P' : Nat} {acc : List Tk} {v' : Value} (t : Tk) (o : Obj)
    (hb : Below w.heap.size w wr) (hf : RfAt wr w.heap.size 0 0 0) (hown : wr.ownsRow w.heap.size 89 4 (.slice A acc.length cap) acc.length (tkCells acc))
    (hown4 : w4.ownsRow w.heap.size 89 4 v' (acc.length + 1) (tkCells acc ++ [.int .i64 t.kind, .string (mk t.text), .int .i64 t.line, .int .i64 t.col])) (hg : (wr.alloc o).grownBy w4 (Value.slice A acc.length cap).ownBlock)
    (h1 : acc.length ≤ P) (h2 : P < P') (h3 : P' ≤ s.size)
    (ht : tot = pre (acc ++ [t]) (scanG false (bs (cut s P')) (plc ((bs s).take P') 1 1).1 (plc ((bs s).take P') 1 1).2)) : RsAt s tot w w4 v' (.int .i64 P') := by
  obtain ⟨A', cap', rfl⟩ := slice_of hown4
  have hbs := hb.size
  refine ⟨P', cap', A', acc ++ [t], by simp, rfl, h3, by simp; omega, ht, ?_, ?_, ?_⟩
  · rw [List.length_append, tkCells_snoc]; exact hown4
  · exact (hg.block _ (by simp; have := heap_lt hf; omega) (not_row hown hf (by decide))).trans ((heap_alloc_old wr o (heap_lt hf)).trans hf)
  · exact hb.trans ⟨hg.os, hg.tape, hg.output, by have := hg.size; simp at this; omega, fun b hb2 => (hg.block b (by simp; omega) (fun e => by have := own_block hown b e.symm; omega)).trans (heap_alloc_old wr o (by omega))⟩

/-- Is a byte among the first k signs? -/
def sgn (k : Nat) (c : UInt8) : Bool := (signsB.data.toList.take k).contains c
theorem sgn_all : ∀ n : Fin 256, sgn 13 (UInt8.ofNat n.val) = signN n.val := by decide +kernel
theorem sgn_end (c : UInt8) : sgn 13 c = signN c.toNat := by
  have := sgn_all ⟨c.toNat, c.toNat_lt⟩
  simpa using this
theorem sgn_succ (k : Nat) (c : UInt8) (h : k < 13) : sgn (k + 1) c = (sgn k c || ((signsB[k]'h).toNat : Int) == c.toNat) := by
  unfold sgn
  rw [List.take_succ_eq_append_getElem (by exact h), Bool.eq_iff_iff]
  have e : signsB.data.toList[k]'h = signsB[k]'h := rfl
  rw [e]
  simp only [List.contains_iff_mem, List.mem_append, List.mem_singleton, Bool.or_eq_true, beq_iff_eq]
  constructor
  · rintro (h1 | h1)
    · exact .inl h1
    · exact .inr (by rw [h1])
  · rintro (h1 | h1)
    · exact .inl h1
    · exact .inr (UInt8.toNat_inj.mp (by omega))

abbrev sgL : ByteArray := ⟨#[58, 124, 59, 40, 41, 91, 93, 123, 125, 42, 43, 63, 37]⟩
/-- Names so far. -/
def NmAt (s : ByteArray) (P Q : Nat) : Prop := ∀ j, (h : j < s.size) → P ≤ j → j < Q → nameN s[j].toNat = true
theorem slice_at (s : ByteArray) (P Q : Nat) (h1 : P ≤ Q) (h2 : Q ≤ s.size) (W : World) : (Instr.slice 9 (.string s) (some (.int .i64 (P : Int))) (some (.int .i64 (Q : Int))) none).run Try.prog W = .ok (.string (head (cut s P) (Q - P))) W := by
  rw [run_slice_string W 9 s .i64 .i64 P Q Try.underlying9 (by omega) (by omega) (by omega)]
  have e : s.extract (P : Int).toNat (Q : Int).toNat = head (cut s P) (Q - P) := by
    have : bs (s.extract (P : Int).toNat (Q : Int).toNat) = bs (head (cut s P) (Q - P)) := by
      rw [bs_head, bs_cut]
      show (s.extract (P : Int).toNat (Q : Int).toNat).data.toList = _
      rw [Lib.extract_data, Int.toNat_natCast, Int.toNat_natCast]
    apply ByteArray.ext
    apply Array.ext'
    exact this
  rw [e]
theorem rs_end {w wr w4 : World} {A : Option Addr} {cap : Nat} {acc : List Tk} {v' : Value} {t : Tk} {o : Obj}
    (hb : Below w.heap.size w wr) (hf : RfAt wr w.heap.size 0 0 0) (hown : wr.ownsRow w.heap.size 89 4 (.slice A acc.length cap) acc.length (tkCells acc))
    (_hown4 : w4.ownsRow w.heap.size 89 4 v' (acc.length + 1) (tkCells acc ++ [.int .i64 t.kind, .string (mk t.text), .int .i64 t.line, .int .i64 t.col])) (hg : (wr.alloc o).grownBy w4 (Value.slice A acc.length cap).ownBlock) : RfAt w4 w.heap.size 0 0 0 ∧ Below w.heap.size w w4 := by
  have hbs := hb.size
  exact ⟨(hg.block _ (by simp; have := heap_lt hf; omega) (not_row hown hf (by decide))).trans ((heap_alloc_old wr o (heap_lt hf)).trans hf),
    hb.trans ⟨hg.os, hg.tape, hg.output, by have := hg.size; simp at this; omega, fun b hb2 => (hg.block b (by simp; omega) (fun e => by have := own_block hown b e.symm; omega)).trans (heap_alloc_old wr o (by omega))⟩⟩
theorem rs_done {w W : World} {tot : List Tk × (Nat × Nat × Nat)} {acc : List Tk} {t : Tk} {A : Option Addr} {cap : Nat} (ht : tot = (acc ++ [t], (0, 0, 0))) (hf : RfAt W w.heap.size 0 0 0) (hb : Below w.heap.size w W)
    (hown : W.ownsRow w.heap.size 89 4 (.slice A (acc.length + 1) cap) (acc.length + 1) (tkCells acc ++ [.int .i64 t.kind, .string (mk t.text), .int .i64 t.line, .int .i64 t.col])) (tmps : Array Value)
    (h2 : tmps.getD 2 undef = .slice A (acc.length + 1) cap) (h3 : tmps.getD 3 undef = .pointer (some ⟨w.heap.size, 0, none⟩)) :
    bodyPost Try.prog Try.f13 (RScanned w tot) Exit.ret { tmps := tmps, defers := [] } (((W.setCell ⟨w.heap.size, 0, none⟩ (.int .i64 0)).setCell ⟨w.heap.size, 1, none⟩ (.int .i64 0)).setCell ⟨w.heap.size, 2, none⟩ (.int .i64 0)) := by
  subst ht
  have hl : (acc ++ [t]).length = acc.length + 1 := by simp
  refine bodyPost_ret (results_tmp_cell (P := Try.prog) rfl _ _ w.heap.size 35 _ (0, 0) _ _ h2 h3 (rf_set3 hf 0 0 0) Try.underlying35 rfl rfl) rfl ⟨A, cap, by simp only [hl]; rfl, ?_, ?_⟩
  · simp only [hl, tkCells_snoc]
    have hsq : Sep w.heap.size W.heap.size W (((W.setCell ⟨w.heap.size, 0, none⟩ (.int .i64 0)).setCell ⟨w.heap.size, 1, none⟩ (.int .i64 0)).setCell ⟨w.heap.size, 2, none⟩ (.int .i64 0)) :=
      Sep.setCell (p := ⟨w.heap.size, 2, none⟩) (Sep.setCell (p := ⟨w.heap.size, 1, none⟩) (Sep.setCell (p := ⟨w.heap.size, 0, none⟩) (Sep.refl _ _ W) (.inl rfl) _) (.inl rfl) _) (.inl rfl) _
    exact hsq.own hown hf (by decide)
  · exact ((hb.setCell (p := ⟨w.heap.size, 0, none⟩) (Nat.le_refl _) _).setCell (p := ⟨w.heap.size, 1, none⟩) (Nat.le_refl _) _).setCell (p := ⟨w.heap.size, 2, none⟩) (Nat.le_refl _) _

/-- A round of the plain Scan, at its head. -/
structure RsHead (s : ByteArray) (tot : List Tk × (Nat × Nat × Nat)) (w wr : World) (P cap : Nat) (A : Option Addr) (acc : List Tk) (L C : Nat) : Prop where
  acc_le : acc.length ≤ P
  pl : (L, C) = plc ((bs s).take P) 1 1
  rl : tot = pre acc (scanG false (bs (cut s P)) L C)
  own : wr.ownsRow w.heap.size 89 4 (.slice A acc.length cap) acc.length (tkCells acc)
  rf : RfAt wr w.heap.size 0 0 0
  bel : Below w.heap.size w wr

/-- Blanks. -/
theorem rs_blank {s : ByteArray} {tot : List Tk × (Nat × Nat × Nat)} {w wr : World} {P cap : Nat} {A : Option Addr} {acc : List Tk} {L C : Nat} (h : RsHead s tot w wr P cap A acc L C) (hP : P < s.size) (hb : blankN s[P].toNat = true) : RsAt s tot w wr (.slice A acc.length cap) (.int .i64 ((P + 1 : Nat) : Int)) := by
  have hpl := h.pl
  have hst := plc_snoc s P hP 1 1
  rw [← hpl] at hst
  refine ⟨P + 1, cap, A, acc, rfl, rfl, by omega, by have := h.acc_le; omega, ?_, h.own, h.rf, h.bel⟩
  rw [h.rl, cut_cons s P hP]
  by_cases h10 : s[P].toNat = 10
  · rw [if_pos h10] at hst
    rw [hst, scan_nl _ _ _ _ _ h10]
  · rw [if_neg h10] at hst
    have h35 : s[P].toNat ≠ 35 := by intro e; rw [e] at hb; simp [blankN] at hb
    rw [hst, scan_blank _ _ _ _ h10 h35 hb]

end Go.Proofs.Ytppdemdjlhdfcaa.Lx
