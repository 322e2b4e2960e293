/-
  The walk of token.
-/
import Derived.Test.YtakihbjfkpebcaaLxScan1
import Derived.Laws.Rows
import Derived.RegionTactic
import Derived.ChangeAlike
namespace Go.Proofs.Ytakihbjfkpebcaa.Lx
open Go.RowKit
set_option maxRecDepth 100000

def quotesB : ByteArray := ⟨#[39, 34]⟩
theorem quote_fin : ∀ n : Fin 256, decide (0 ≤ Lib.indexByte [39, 34] (UInt8.ofNat n.val)) = quoteN n.val := by decide +kernel
theorem quote_at (c : UInt8) : decide (0 ≤ Lib.indexByte (bs quotesB) c) = quoteN c.toNat := by
  show decide (0 ≤ Lib.indexByte [39, 34] c) = _
  have := quote_fin ⟨c.toNat, c.toNat_lt⟩
  simpa using this
def signsB : ByteArray := ⟨#[58, 124, 59, 40, 41, 91, 93, 123, 125, 42, 43, 63, 37]⟩
theorem sign_fin : ∀ n : Fin 256, decide (0 ≤ Lib.indexByte [58, 124, 59, 40, 41, 91, 93, 123, 125, 42, 43, 63, 37] (UInt8.ofNat n.val)) = signN n.val := by decide +kernel
theorem sign_at (c : UInt8) : decide (0 ≤ Lib.indexByte (bs signsB) c) = signN c.toNat := by
  show decide (0 ≤ Lib.indexByte [58, 124, 59, 40, 41, 91, 93, 123, 125, 42, 43, 63, 37] c) = _
  have := sign_fin ⟨c.toNat, c.toNat_lt⟩
  simpa using this

def mk (l : List UInt8) : ByteArray := ⟨l.toArray⟩
theorem bs_mk (l : List UInt8) : bs (mk l) = l := rfl
def tokV (t : Tk) : Value := .agg #[.int .i64 t.kind, .string (mk t.text), .int .i64 t.line, .int .i64 t.col]
def fltV (f : Nat × Nat × Nat) : Value := .agg #[.int .i64 f.1, .int .i64 f.2.1, .int .i64 f.2.2]

/-- Two results that stand in blocks. -/
theorem results_cells2 {P : Program} {fn : Func} {p q : Tmp} {ty uy : TypeId} (h : fn.results = #[.cell p ty, .cell q uy]) (tmps : Array Value) (w : World) (g k : Nat) (t u : TypeId) (cs ds : Array Value) (fr fs : Nat × Nat) (d e : TypeDesc)
    (hp : tmps.getD p undef = .pointer (some ⟨g, 0, none⟩)) (hg : w.heap[g]? = some (.cells cs t fr)) (hu : P.underlying ty = some d) (hd : (match d with | .struct _ | .array _ _ => true | _ => false) = true) (hi : (P.info? ty).map (·.size) = some cs.size)
    (hq : tmps.getD q undef = .pointer (some ⟨k, 0, none⟩)) (hk : w.heap[k]? = some (.cells ds u fs)) (hv : P.underlying uy = some e) (he : (match e with | .struct _ | .array _ _ => true | _ => false) = true) (hj : (P.info? uy).map (·.size) = some ds.size) :
    (results fn tmps).run P w = .ok (.tuple #[.agg cs, .agg ds]) w := by
  have hp' : tmps[p]?.getD undef = .pointer (some ⟨g, 0, none⟩) := by simpa using hp
  have hq' : tmps[q]?.getD undef = .pointer (some ⟨k, 0, none⟩) := by simpa using hq
  simp [results, h, hp', hq', asAddr, run_loadVar_row w g t ty cs fr d hg hu hd hi, run_loadVar_row w k u uy ds fs e hk hv he hj]

theorem set_keep (w : World) {b k : Nat} (i : Nat) (u : Value) (h : b ≠ k) : (w.setCell ⟨b, i, none⟩ u).heap[k]? = w.heap[k]? := Below.heap_setCell _ _ _ _ (by simp only; omega)
theorem Sc.below {w w' : World} {g : Nat} {t : ByteArray} {l c : Nat} (h : Sc w g t l c) (hb : Below w.heap.size w w') : Sc w' g t l c := (hb.block g (heap_lt h)).trans h
theorem zeros_below (w : World) (a b : Obj) : Below w.heap.size w ((w.alloc a).alloc b) := ((Below.refl _ _).alloc (Nat.le_refl _) a).alloc (by simp) b

/-- The row of a Token; of a Fault. -/
def TkAt (W : World) (b : Nat) (k : Int) (s : ByteArray) (l c : Int) : Prop := W.heap[b]? = some (.cells #[.int .i64 k, .string s, .int .i64 l, .int .i64 c] 110 (0, 0))
def FtAt (W : World) (b : Nat) (l c e : Int) : Prop := W.heap[b]? = some (.cells #[.int .i64 l, .int .i64 c, .int .i64 e] 67 (0, 0))
theorem TkAt.facts {W : World} {b : Nat} {k : Int} {s : ByteArray} {l c : Int} (h : TkAt W b k s l c) :
    W.cell? ⟨b, 0, none⟩ = some (.int .i64 k) ∧ W.cell? ⟨b, 1, none⟩ = some (.string s) ∧ W.cell? ⟨b, 2, none⟩ = some (.int .i64 l) ∧ W.cell? ⟨b, 3, none⟩ = some (.int .i64 c) ∧ ∀ i, W.frozen? ⟨b, i, none⟩ = false :=
  ⟨cell_of_row _ _ 0 _ _ (0, 0) h, cell_of_row _ _ 1 _ _ (0, 0) h, cell_of_row _ _ 2 _ _ (0, 0) h, cell_of_row _ _ 3 _ _ (0, 0) h, fun i => by have h' := h; unfold TkAt at h'; simp [World.frozen?, h']⟩
theorem FtAt.facts {W : World} {b : Nat} {l c e : Int} (h : FtAt W b l c e) :
    W.cell? ⟨b, 0, none⟩ = some (.int .i64 l) ∧ W.cell? ⟨b, 1, none⟩ = some (.int .i64 c) ∧ W.cell? ⟨b, 2, none⟩ = some (.int .i64 e) ∧ ∀ i, W.frozen? ⟨b, i, none⟩ = false :=
  ⟨cell_of_row _ _ 0 _ _ (0, 0) h, cell_of_row _ _ 1 _ _ (0, 0) h, cell_of_row _ _ 2 _ _ (0, 0) h, fun i => by have h' := h; unfold FtAt at h'; simp [World.frozen?, h']⟩
theorem Sc.facts {W : World} {g : Nat} {t : ByteArray} {l c : Nat} (h : Sc W g t l c) :
    W.cell? ⟨g, 0, none⟩ = some (.string t) ∧ W.cell? ⟨g, 1, none⟩ = some (.int .i64 l) ∧ W.cell? ⟨g, 2, none⟩ = some (.int .i64 c) ∧ ∀ i, W.frozen? ⟨g, i, none⟩ = false :=
  ⟨cell_of_row _ _ 0 _ _ (0, 0) h, cell_of_row _ _ 1 _ _ (0, 0) h, cell_of_row _ _ 2 _ _ (0, 0) h, fun i => by have h' := h; unfold Sc at h'; simp [World.frozen?, h']⟩

/-- Within token: the scanner, the two results, t. -/
structure TkSt (W : World) (g B bt : Nat) (X : ByteArray) (l c : Nat) (k : Int) (s : ByteArray) (l0 c0 : Int) : Prop where
  sc : Sc W g X l c
  r0 : TkAt W B 0 ⟨#[]⟩ 0 0
  r1 : FtAt W (B + 1) 0 0 0
  rt : TkAt W bt k s l0 c0

/-- What a call of token leaves. -/
def Tok (w : World) (g : Nat) (Y : ByteArray) (l c : Nat) (v f : Value) (e : Ending) (w' : World) : Prop :=
  e = .returned (.tuple #[v, f]) ∧ Sc w' g Y l c ∧ Sep g w.heap.size w w'

/-- The two results as they stand at the end. -/
structure TkOut (W : World) (w : World) (g : Nat) (Y : ByteArray) (l c : Nat) (k : Int) (s : ByteArray) (l0 c0 : Int) (f0 f1 f2 : Int) : Prop where
  sc : Sc W g Y l c
  r0 : TkAt W w.heap.size k s l0 c0
  r1 : FtAt W (w.heap.size + 1) f0 f1 f2
  sep : Sep g w.heap.size w W

theorem tk_out {w W : World} {g bt : Nat} {X : ByteArray} {l c : Nat} {k : Int} {s : ByteArray} {l0 c0 : Int} (st : TkSt W g w.heap.size bt X l c k s l0 c0) (hs : Sep g w.heap.size w W) (hg : g < w.heap.size)
    (k' : Int) (s' : ByteArray) (l' c' f0 f1 f2 : Int) :
    TkOut (((((((W.setCell ⟨w.heap.size, 0, none⟩ (.int .i64 k')).setCell ⟨w.heap.size, 1, none⟩ (.string s')).setCell ⟨w.heap.size, 2, none⟩ (.int .i64 l')).setCell ⟨w.heap.size, 3, none⟩ (.int .i64 c')).setCell ⟨w.heap.size + 1, 0, none⟩ (.int .i64 f0)).setCell ⟨w.heap.size + 1, 1, none⟩ (.int .i64 f1)).setCell ⟨w.heap.size + 1, 2, none⟩ (.int .i64 f2)) w g X l c k' s' l' c' f0 f1 f2 := by
  constructor
  · show _ = _
    exact (set_keep _ 2 _ (by omega)).trans ((set_keep _ 1 _ (by omega)).trans ((set_keep _ 0 _ (by omega)).trans ((set_keep _ 3 _ (by omega)).trans ((set_keep _ 2 _ (by omega)).trans ((set_keep _ 1 _ (by omega)).trans ((set_keep _ 0 _ (by omega)).trans st.sc))))))
  · show _ = _
    exact (set_keep _ 2 _ (by omega)).trans ((set_keep _ 1 _ (by omega)).trans ((set_keep _ 0 _ (by omega)).trans (heap_set (heap_set (heap_set (heap_set st.r0 0 _) 1 _) 2 _) 3 _)))
  · show _ = _
    exact heap_set (heap_set (heap_set ((set_keep _ 3 _ (by omega)).trans ((set_keep _ 2 _ (by omega)).trans ((set_keep _ 1 _ (by omega)).trans ((set_keep _ 0 _ (by omega)).trans st.r1)))) 0 _) 1 _) 2 _
  · exact ((((((hs.setCell (p := ⟨w.heap.size, 0, none⟩) (.inr (Nat.le_refl _)) _).setCell (p := ⟨w.heap.size, 1, none⟩) (.inr (Nat.le_refl _)) _).setCell (p := ⟨w.heap.size, 2, none⟩) (.inr (Nat.le_refl _)) _).setCell (p := ⟨w.heap.size, 3, none⟩) (.inr (Nat.le_refl _)) _).setCell (p := ⟨w.heap.size + 1, 0, none⟩) (.inr (Nat.le_succ _)) _).setCell (p := ⟨w.heap.size + 1, 1, none⟩) (.inr (Nat.le_succ _)) _).setCell (p := ⟨w.heap.size + 1, 2, none⟩) (.inr (Nat.le_succ _)) _

theorem TkOut.drew {W w : World} {g : Nat} {Y : ByteArray} {l c : Nat} {k : Int} {s : ByteArray} {l0 c0 f0 f1 f2 : Int} (o : TkOut W w g Y l c k s l0 c0 f0 f1 f2) : TkOut W.drew w g Y l c k s l0 c0 f0 f1 f2 :=
  ⟨o.sc, o.r0, o.r1, ⟨o.sep.os, o.sep.tape, o.sep.output, o.sep.size, o.sep.block⟩⟩
theorem tok_done {W w : World} {g : Nat} {Y : ByteArray} {l c : Nat} {k : Int} {s : ByteArray} {l0 c0 f0 f1 f2 : Int} (o : TkOut W w g Y l c k s l0 c0 f0 f1 f2) (tmps : Array Value)
    (h2 : tmps.getD 2 undef = .pointer (some ⟨w.heap.size, 0, none⟩)) (h3 : tmps.getD 3 undef = .pointer (some ⟨w.heap.size + 1, 0, none⟩)) :
    bodyPost Try.prog Try.f49 (Tok w g Y l c (.agg #[.int .i64 k, .string s, .int .i64 l0, .int .i64 c0]) (.agg #[.int .i64 f0, .int .i64 f1, .int .i64 f2])) Exit.ret { tmps := tmps, defers := [] } W :=
  bodyPost_ret (results_cells2 (P := Try.prog) rfl _ _ w.heap.size (w.heap.size + 1) 110 67 _ _ (0, 0) (0, 0) _ _ h2 o.r0 Try.underlying110 rfl rfl h3 o.r1 Try.underlying67 rfl rfl) rfl ⟨rfl, o.sc, o.sep⟩

theorem tk_start {w w1 : World} {g : Nat} {X : ByteArray} {l c : Nat} (hg : g < w.heap.size) (s1 : Sc w1 g X l c)
    (s2 : Sep g ((w.alloc (.cells #[.int .i64 0, .string ⟨#[]⟩, .int .i64 0, .int .i64 0] 110)).alloc (.cells #[.int .i64 0, .int .i64 0, .int .i64 0] 67)).heap.size ((w.alloc (.cells #[.int .i64 0, .string ⟨#[]⟩, .int .i64 0, .int .i64 0] 110)).alloc (.cells #[.int .i64 0, .int .i64 0, .int .i64 0] 67)) w1) (k : Int) (s : ByteArray) (l0 c0 : Int) :
    TkSt (w1.alloc (.cells #[.int .i64 k, .string s, .int .i64 l0, .int .i64 c0] 110)).drew g w.heap.size w1.heap.size X l c k s l0 c0 ∧ Sep g w.heap.size w (w1.alloc (.cells #[.int .i64 k, .string s, .int .i64 l0, .int .i64 c0] 110)).drew := by
  have hsz := s2.size
  simp at hsz
  have hb0 := s2.block w.heap.size (by simp; omega) (by omega)
  have hb1 := s2.block (w.heap.size + 1) (by simp) (by omega)
  have r0 : w1.heap[w.heap.size]? = some (.cells #[.int .i64 0, .string ⟨#[]⟩, .int .i64 0, .int .i64 0] 110 (0, 0)) := by
    rw [hb0]; exact (heap_alloc_old _ _ (by simp)).trans (heap_alloc_new w _)
  have r1 : w1.heap[w.heap.size + 1]? = some (.cells #[.int .i64 0, .int .i64 0, .int .i64 0] 67 (0, 0)) := by
    rw [hb1]
    have := heap_alloc_new (w.alloc (.cells #[.int .i64 0, .string ⟨#[]⟩, .int .i64 0, .int .i64 0] 110)) (.cells #[.int .i64 0, .int .i64 0, .int .i64 0] 67)
    simpa using this
  have keep : ∀ (b : Nat) (o o' : Obj), w1.heap[b]? = some o' → (w1.alloc o).drew.heap[b]? = some o' := fun b o o' h => by
    rw [heap_drew]; exact (heap_alloc_old w1 o (heap_lt h)).trans h
  refine ⟨⟨keep g _ _ s1, keep _ _ _ r0, keep _ _ _ r1, ?_⟩, ?_⟩
  · show _ = _
    rw [heap_drew]; exact heap_alloc_new w1 _
  · have h1 : Sep g w.heap.size w w1 := (Sep.of_below (zeros_below w _ _)).trans (s2.mono (by simp; omega))
    have h2 := h1.alloc (by omega) (.cells #[.int .i64 k, .string s, .int .i64 l0, .int .i64 c0] 110)
    exact ⟨h2.os, h2.tape, h2.output, h2.size, h2.block⟩

theorem TkSt.set0 {W : World} {g B bt : Nat} {X : ByteArray} {l c : Nat} {k : Int} {s : ByteArray} {l0 c0 : Int} (st : TkSt W g B bt X l c k s l0 c0) (hg : g < B) (hb : B + 2 ≤ bt) (k' : Int) :
    TkSt (W.setCell ⟨bt, 0, none⟩ (.int .i64 k')) g B bt X l c k' s l0 c0 :=
  ⟨(set_keep _ 0 _ (by omega)).trans st.sc, (set_keep _ 0 _ (by omega)).trans st.r0, (set_keep _ 0 _ (by omega)).trans st.r1, heap_set st.rt 0 _⟩
theorem TkSt.set1 {W : World} {g B bt : Nat} {X : ByteArray} {l c : Nat} {k : Int} {s : ByteArray} {l0 c0 : Int} (st : TkSt W g B bt X l c k s l0 c0) (hg : g < B) (hb : B + 2 ≤ bt) (s' : ByteArray) :
    TkSt (W.setCell ⟨bt, 1, none⟩ (.string s')) g B bt X l c k s' l0 c0 :=
  ⟨(set_keep _ 1 _ (by omega)).trans st.sc, (set_keep _ 1 _ (by omega)).trans st.r0, (set_keep _ 1 _ (by omega)).trans st.r1, heap_set st.rt 1 _⟩
theorem TkSt.sep {W W' : World} {g B bt : Nat} {X Y : ByteArray} {l c l' c' : Nat} {k : Int} {s : ByteArray} {l0 c0 : Int} (st : TkSt W g B bt X l c k s l0 c0) (hg : g < B) (hb : B + 2 ≤ bt) (h : Sep g W.heap.size W W') (sc : Sc W' g Y l' c') : TkSt W' g B bt Y l' c' k s l0 c0 :=
  ⟨sc, (h.block _ (heap_lt st.r0) (by omega)).trans st.r0, (h.block _ (heap_lt st.r1) (by omega)).trans st.r1, (h.block _ (heap_lt st.rt) (by omega)).trans st.rt⟩

theorem rtok_cons (X : ByteArray) (l c : Nat) (h : 0 < X.size) : rtok (bs X) l c =
    if letterN X[0].toNat = true then
      if 32 < nsz (bs X) then (.zero, (l, c, 6), nsz (bs X)) else (⟨1, bs (head X (nsz (bs X))), l, c⟩, (0, 0, 0), nsz (bs X))
    else if quoteN X[0].toNat = true then
      match (rlit X[0] ((cut X 1).size + 1) (bs (cut X 1))).1 with
      | none => (.zero, (l, c + 1 + (rlit X[0] ((cut X 1).size + 1) (bs (cut X 1))).2, 2), 1 + (rlit X[0] ((cut X 1).size + 1) (bs (cut X 1))).2)
      | some t => if t = [] then (.zero, (l, c, 2), 1 + (rlit X[0] ((cut X 1).size + 1) (bs (cut X 1))).2) else if 16 < t.length then (.zero, (l, c, 6), 1 + (rlit X[0] ((cut X 1).size + 1) (bs (cut X 1))).2) else (⟨2, t, l, c⟩, (0, 0, 0), 1 + (rlit X[0] ((cut X 1).size + 1) (bs (cut X 1))).2)
    else if signN X[0].toNat = true then (⟨3, bs (head X 1), l, c⟩, (0, 0, 0), 1)
    else (.zero, (l, c, 2), 0) := by
  have e2 : (cut X 1).size = (bs (cut X 1)).length := rfl
  rw [e2, bs_cut, bs_head, bs_head]
  have : ∀ (s : List UInt8) (h : 0 < s.length), rtok s l c =
    if letterN s[0].toNat = true then
      if 32 < nsz s then (.zero, (l, c, 6), nsz s) else (⟨1, s.take (nsz s), l, c⟩, (0, 0, 0), nsz s)
    else if quoteN s[0].toNat = true then
      match (rlit s[0] ((s.drop 1).length + 1) (s.drop 1)).1 with
      | none => (.zero, (l, c + 1 + (rlit s[0] ((s.drop 1).length + 1) (s.drop 1)).2, 2), 1 + (rlit s[0] ((s.drop 1).length + 1) (s.drop 1)).2)
      | some t => if t = [] then (.zero, (l, c, 2), 1 + (rlit s[0] ((s.drop 1).length + 1) (s.drop 1)).2) else if 16 < t.length then (.zero, (l, c, 6), 1 + (rlit s[0] ((s.drop 1).length + 1) (s.drop 1)).2) else (⟨2, t, l, c⟩, (0, 0, 0), 1 + (rlit s[0] ((s.drop 1).length + 1) (s.drop 1)).2)
    else if signN s[0].toNat = true then (⟨3, s.take 1, l, c⟩, (0, 0, 0), 1)
    else (.zero, (l, c, 2), 0) := fun s h => by
    cases s with
    | nil => exact absurd h (by simp)
    | cons b r => rfl
  exact this (bs X) h
theorem nsz_posX (X : ByteArray) (h : 0 < X.size) (hl : letterN X[0].toNat = true) : 0 < nsz (bs X) := by
  have : ∀ (s : List UInt8) (h : 0 < s.length), letterN s[0].toNat = true → 0 < nsz s := fun s h => by
    cases s with
    | nil => exact absurd h (by simp)
    | cons b r => exact fun hl => nsz_pos hl
  exact this (bs X) h hl
theorem mk_bs (X : ByteArray) : mk (bs X) = X := rfl

set_option maxHeartbeats 4000000 in
theorem token_any (g : Nat) (t X : ByteArray) (line col l c : Nat) (w : World) (h : Sc w g t line col) (hs : t.size ≤ 1048576) (hl : line < 4611686010000000000) (hc : col < 4611686010000000000) (h1 : 1 ≤ col)
    (hX : X = cut t (rskip false (bs t) line col).1) (hl1 : l = (rskip false (bs t) line col).2.1) (hc1 : c = (rskip false (bs t) line col).2.2) :
    Calls Try.prog 49 #[.pointer (some ⟨g, 0, none⟩)] w (Tok w g (cut X (rtok (bs X) l c).2.2) l (c + (rtok (bs X) l c).2.2) (tokV (rtok (bs X) l c).1) (fltV (rtok (bs X) l c).2.1)) := by
  have KS : ∀ W, Sc W g t line col → Calls Try.prog 58 #[.pointer (some ⟨g, 0, none⟩)] W (fun e w' => e = .returned (.tuple #[]) ∧ Sc w' g X l c ∧ Sep g W.heap.size W w') := fun W hW => by
    have := skip_any g t line col W hW hs (by omega) (by omega)
    rw [← hX, ← hl1, ← hc1] at this
    exact this
  have hXs : X.size ≤ 1048576 := by rw [hX, cut_size]; omega
  have hbd := rskip_bd (bs t) false line col h1
  rw [← hl1, ← hc1, bs_len] at hbd
  have hcb : c < 4611686018000000000 := by omega
  have hlb : l < 4611686018000000000 := by omega
  clear hbd
  obtain ⟨R, hR⟩ : ∃ R, R = rtok (bs X) l c := ⟨_, rfl⟩
  rw [← hR]
  have K1 := Lib.hid KS
  have H := Lib.hid h
  have HR := Lib.hid hR
  have hg := heap_lt h
  clear h hX hl1 hc1 KS hR
  go_enter Try.func49, Try.ntmps49
  go_wp2_with fail
  refine (K1.out _ (H.out.below (zeros_below w _ _))).mono ?_
  rintro e w1 ⟨rfl, s1, s2⟩
  obtain ⟨c0, c1, c2, cf⟩ := s1.facts
  have hsz := s2.size
  simp at hsz
  have hg1 : g < w1.heap.size := heap_lt s1
  have c1a : ∀ o, (w1.alloc o).cell? ⟨g, 1, none⟩ = some (.int .i64 l) := fun o => by rw [((Below.refl w1.heap.size w1).alloc (Nat.le_refl _) o).cell (p := ⟨g, 1, none⟩) hg1]; exact c1
  have c2a : ∀ o, (w1.alloc o).cell? ⟨g, 2, none⟩ = some (.int .i64 c) := fun o => by rw [((Below.refl w1.heap.size w1).alloc (Nat.le_refl _) o).cell (p := ⟨g, 2, none⟩) hg1]; exact c2
  have HT := Lib.hid (tk_start hg s1 s2 4 ⟨#[]⟩ l c)
  clear s1 s2
  go_wp2_with fail
  go_region
  generalize hW : World.drew _ = W2
  rw [hW] at HT
  obtain ⟨st, sp⟩ := HT.out
  clear c0 c1 c2 cf c1a c2a HT hW
  obtain ⟨c0, c1, c2, cf⟩ := st.sc.facts
  obtain ⟨d0, d1, d2, d3, df⟩ := st.rt.facts
  obtain ⟨a0, a1, a2, a3, af⟩ := st.r0.facts
  obtain ⟨b0, b1, b2, bf⟩ := st.r1.facts
  have hbt : w1.heap.size < W2.heap.size := heap_lt st.rt
  have ST := Lib.hid st
  have SP := Lib.hid sp
  clear st sp
  by_cases h0 : X.size = 0
  · have hxe := empty_of h0
    subst hxe
    have hr : R = (⟨4, [], l, c⟩, (0, 0, 0), 0) := HR.out
    subst hr
    go_wp2
    have O := tk_out ST.out SP.out hg 4 ⟨#[]⟩ l c 0 0 0
    rw [cut_zero]
    exact tok_done O _ rfl rfl
  · have hp : 0 < X.size := by omega
    have he := nempty hp
    have hr := HR.out
    rw [rtok_cons X l c hp] at hr
    have HX := Lib.hid hr
    have KL := Lib.hid (letter_any X[0].toNat)
    clear HR hr
    cases hlet : letterN X[0].toNat
    · have hr := HX.out
      rw [if_neg (by rw [hlet]; simp)] at hr
      clear HX
      have KQ : ∀ W : World, Calls Try.prog 63 #[.int .u8 X[0].toNat, .string quotesB] W fun e w' => e = .returned (.bool (quoteN X[0].toNat)) ∧ W = w' := fun W => by
        have := among_u8 X[0] quotesB W
        rw [quote_at] at this
        exact this
      have KG : ∀ W : World, Calls Try.prog 63 #[.int .u8 X[0].toNat, .string signsB] W fun e w' => e = .returned (.bool (signN X[0].toNat)) ∧ W = w' := fun W => by
        have := among_u8 X[0] signsB W
        rw [sign_at] at this
        exact this
      have KQ1 := Lib.hid KQ
      have KG1 := Lib.hid KG
      clear KQ KG
      cases hqu : quoteN X[0].toNat
      · rw [if_neg (by rw [hqu]; simp)] at hr
        cases hsg : signN X[0].toNat
        · rw [if_neg (by rw [hsg]; simp)] at hr
          subst hr
          go_wp2_with fail
          refine (KL.out _).mono ?_
          rintro e w3 ⟨rfl, rfl⟩
          rw [hlet]
          go_wp2_with fail
          refine (KQ1.out _).mono ?_
          rintro e w3 ⟨rfl, rfl⟩
          rw [hqu]
          go_wp2_with fail
          refine (KG1.out _).mono ?_
          rintro e w3 ⟨rfl, rfl⟩
          rw [hsg]
          go_wp2_with fail
          go_region
          go_wp2
          have O := (tk_out ST.out SP.out hg 0 ⟨#[]⟩ 0 0 l c 2).drew
          rw [cut_zero]
          exact tok_done O _ rfl rfl
        · rw [if_pos hsg] at hr
          obtain ⟨hd, hhd⟩ : ∃ hd, hd = head X 1 := ⟨_, rfl⟩
          rw [← hhd] at hr
          have KT : ∀ W, Sc W g X l c → Calls Try.prog 60 #[.pointer (some ⟨g, 0, none⟩), .int .i64 1] W fun e w' => e = .returned (.string hd) ∧ Sc w' g (cut X 1) l (c + 1) ∧ Sep g W.heap.size W w' := fun W hW => by
            rw [hhd]; exact take_any g X l c 1 W hW (by omega) (by omega)
          have KT1 := Lib.hid KT
          clear KT hhd
          subst hr
          go_wp2_with fail
          refine (KL.out _).mono ?_
          rintro e w3 ⟨rfl, rfl⟩
          rw [hlet]
          go_wp2_with fail
          refine (KQ1.out _).mono ?_
          rintro e w3 ⟨rfl, rfl⟩
          rw [hqu]
          go_wp2_with fail
          refine (KG1.out _).mono ?_
          rintro e w3 ⟨rfl, rfl⟩
          rw [hsg]
          have ST0 := Lib.hid (ST.out.set0 hg hsz 3)
          go_wp2_with fail
          refine (KT1.out _ ST0.out.sc).mono ?_
          rintro e w4 ⟨rfl, s3, s4⟩
          have hsp : Sep g w.heap.size w w4 := (SP.out.setCell (p := ⟨w1.heap.size, 0, none⟩) (.inr (by simp only; omega)) _).trans (s4.mono (by simp; omega))
          have st4 := ST0.out.sep hg hsz s4 s3
          have hbt4 : w1.heap.size < w4.heap.size := heap_lt st4.rt
          clear c0 c1 c2 cf d0 d1 d2 d3 df a0 a1 a2 a3 af b0 b1 b2 bf s3 s4 hbt
          obtain ⟨c0, c1, c2, cf⟩ := st4.sc.facts
          obtain ⟨d0, d1, d2, d3, df⟩ := st4.rt.facts
          obtain ⟨a0, a1, a2, a3, af⟩ := st4.r0.facts
          obtain ⟨b0, b1, b2, bf⟩ := st4.r1.facts
          have ST5 := Lib.hid (st4.set1 hg hsz hd)
          have SP5 := Lib.hid (hsp.setCell (p := ⟨w1.heap.size, 1, none⟩) (.inr (by simp only; omega)) (.string hd))
          clear st4 hsp
          go_wp2
          have O := tk_out ST5.out SP5.out hg 3 hd l c 0 0 0
          exact tok_done O _ rfl rfl
      · rw [if_pos hqu] at hr
        obtain ⟨q, hq⟩ : ∃ q, q = rlit X[0] ((cut X 1).size + 1) (bs (cut X 1)) := ⟨_, rfl⟩
        rw [← hq] at hr
        have hq2 : q.2 ≤ X.size := by
          have := rlit_le X[0] ((cut X 1).size + 1) (bs (cut X 1))
          rw [← hq, bs_len, cut_size] at this
          omega
        obtain ⟨tx, htx⟩ : ∃ tx, tx = mk (q.1.getD []) := ⟨_, rfl⟩
        have KI : ∀ W, Sc W g X l c → Calls Try.prog 64 #[.pointer (some ⟨g, 0, none⟩)] W fun e w' => e = .returned (.tuple #[.string tx, .bool q.1.isSome]) ∧ Sc w' g (cut X (1 + q.2)) l (c + 1 + q.2) ∧ Sep g W.heap.size W w' := fun W hW => by
          have := literal_any g X l c W hW hp hXs (by omega)
          rw [← hq, cut_cut] at this
          rw [htx]
          exact this
        have KI1 := Lib.hid KI
        have HTX := Lib.hid htx
        have HRQ := Lib.hid hr
        clear KI hq htx hr
        go_wp2_with fail
        refine (KL.out _).mono ?_
        rintro e w3 ⟨rfl, rfl⟩
        rw [hlet]
        go_wp2_with fail
        refine (KQ1.out _).mono ?_
        rintro e w3 ⟨rfl, rfl⟩
        rw [hqu]
        have ST0 := Lib.hid (ST.out.set0 hg hsz 2)
        go_wp2_with fail
        refine (KI1.out _ ST0.out.sc).mono ?_
        rintro e w4 ⟨rfl, s3, s4⟩
        have hsp : Sep g w.heap.size w w4 := (SP.out.setCell (p := ⟨w1.heap.size, 0, none⟩) (.inr (by simp only; omega)) _).trans (s4.mono (by simp; omega))
        have st4 := ST0.out.sep hg hsz s4 s3
        have hbt4 : w1.heap.size < w4.heap.size := heap_lt st4.rt
        clear c0 c1 c2 cf d0 d1 d2 d3 df a0 a1 a2 a3 af b0 b1 b2 bf s3 s4 hbt
        obtain ⟨c0, c1, c2, cf⟩ := st4.sc.facts
        obtain ⟨d0, d1, d2, d3, df⟩ := st4.rt.facts
        obtain ⟨a0, a1, a2, a3, af⟩ := st4.r0.facts
        obtain ⟨b0, b1, b2, bf⟩ := st4.r1.facts
        have ST5 := Lib.hid (st4.set1 hg hsz tx)
        have SP5 := Lib.hid (hsp.setCell (p := ⟨w1.heap.size, 1, none⟩) (.inr (by simp only; omega)) (.string tx))
        clear st4 hsp
        cases hq1 : q.1 with
        | none =>
          have hr := HRQ.out
          rw [hq1] at hr
          clear HRQ
          subst hr
          go_wp2_with fail
          go_region
          go_wp2
          have O := (tk_out ST5.out SP5.out hg 0 ⟨#[]⟩ 0 0 l (c + 1 + q.2 : Nat) 2).drew
          have e1 : c + (1 + q.2) = c + 1 + q.2 := by omega
          simp only [e1]
          exact tok_done O _ rfl rfl
        | some tt =>
          have htt : tx = mk tt := by rw [HTX.out, hq1]; rfl
          have htz : tx.size = tt.length := by rw [htt]; rfl
          have KM : ∀ W, Calls Try.prog 62 #[.string tx, .int .i64 16] W fun e w' => e = .returned (.int .i64 (if tt.length = 0 then 2 else if 16 < tt.length then 6 else 0)) ∧ W = w' := fun W => by
            have := measure_any tx 16 W
            rw [htz] at this
            exact this
          have KM1 := Lib.hid KM
          have HTT := Lib.hid htt
          clear KM htt htz
          go_wp2_with fail
          refine (KM1.out _).mono ?_
          rintro e w5 ⟨rfl, rfl⟩
          have e1 : c + 1 + q.2 = c + (1 + q.2) := by omega
          rw [e1] at ST5
          have hr := HRQ.out
          rw [hq1] at hr
          clear HRQ
          by_cases h0 : tt = []
          · simp only [if_pos h0] at hr
            rw [if_pos (by rw [h0]; rfl)]
            subst hr
            clear e1
            go_wp2_with fail
            go_region
            go_wp2
            have O := (tk_out ST5.out SP5.out hg 0 ⟨#[]⟩ 0 0 l c 2).drew
            exact tok_done O _ rfl rfl
          · have hl0 : tt.length ≠ 0 := fun h => h0 (List.eq_nil_of_length_eq_zero h)
            simp only [if_neg h0] at hr
            rw [if_neg hl0]
            by_cases h16 : 16 < tt.length
            · rw [if_pos h16] at hr
              rw [if_pos h16]
              subst hr
              clear e1
              go_wp2_with fail
              go_region
              go_wp2
              have O := (tk_out ST5.out SP5.out hg 0 ⟨#[]⟩ 0 0 l c 6).drew
              exact tok_done O _ rfl rfl
            · rw [if_neg h16] at hr
              rw [if_neg h16]
              subst hr
              clear e1
              go_wp2
              have O := tk_out ST5.out SP5.out hg 2 tx l c 0 0 0
              have hv : tokV ⟨2, tt, l, c⟩ = .agg #[.int .i64 2, .string tx, .int .i64 l, .int .i64 c] := by rw [HTT.out]; rfl
              rw [hv]
              exact tok_done O _ rfl rfl
    · have hr := HX.out
      rw [if_pos hlet] at hr
      clear HX
      obtain ⟨n, hn⟩ : ∃ n, n = nsz (bs X) := ⟨_, rfl⟩
      have hn1 : n ≤ X.size := by rw [hn]; exact nsz_le (bs X)
      have hn0 : 0 < n := by rw [hn]; exact nsz_posX X hp hlet
      have KN := nameSize_any X
      rw [← hn] at hr KN
      obtain ⟨hd, hhd⟩ : ∃ hd, hd = head X n := ⟨_, rfl⟩
      rw [← hhd] at hr
      have KT : ∀ W, Sc W g X l c → Calls Try.prog 60 #[.pointer (some ⟨g, 0, none⟩), .int .i64 n] W fun e w' => e = .returned (.string hd) ∧ Sc w' g (cut X n) l (c + n) ∧ Sep g W.heap.size W w' := fun W hW => by
        rw [hhd]; exact take_any g X l c n W hW hn1 (by omega)
      have hhs : hd.size = n := by rw [hhd, ← bs_len, bs_head, List.length_take, bs_len]; omega
      have KM : ∀ W, Calls Try.prog 62 #[.string hd, .int .i64 32] W fun e w' => e = .returned (.int .i64 (if 32 < n then 6 else 0)) ∧ W = w' := fun W => by
        have := measure_any hd 32 W
        rw [hhs, if_neg (by omega)] at this
        exact this
      have HR := Lib.hid hr
      have KN1 := Lib.hid KN
      have KT1 := Lib.hid KT
      have KM1 := Lib.hid KM
      clear hn hr KN KT KM hhd hhs
      go_wp2_with fail
      refine (KL.out _).mono ?_
      rintro e w3 ⟨rfl, rfl⟩
      rw [hlet]
      go_wp2_with fail
      refine (KN1.out _ hXs).mono ?_
      rintro e w3 ⟨rfl, rfl⟩
      have ST0 := Lib.hid (ST.out.set0 hg hsz 1)
      go_wp2_with fail
      refine (KT1.out _ ST0.out.sc).mono ?_
      rintro e w4 ⟨rfl, s3, s4⟩
      have hsp : Sep g w.heap.size w w4 := (SP.out.setCell (p := ⟨w1.heap.size, 0, none⟩) (.inr (by simp only; omega)) _).trans (s4.mono (by simp; omega))
      have st4 := ST0.out.sep hg hsz s4 s3
      have hbt4 : w1.heap.size < w4.heap.size := heap_lt st4.rt
      clear c0 c1 c2 cf d0 d1 d2 d3 df a0 a1 a2 a3 af b0 b1 b2 bf s3 s4 hbt
      obtain ⟨c0, c1, c2, cf⟩ := st4.sc.facts
      obtain ⟨d0, d1, d2, d3, df⟩ := st4.rt.facts
      obtain ⟨a0, a1, a2, a3, af⟩ := st4.r0.facts
      obtain ⟨b0, b1, b2, bf⟩ := st4.r1.facts
      have ST5 := Lib.hid (st4.set1 hg hsz hd)
      have SP5 := Lib.hid (hsp.setCell (p := ⟨w1.heap.size, 1, none⟩) (.inr (by simp only; omega)) (.string hd))
      clear st4 hsp
      go_wp2_with fail
      refine (KM1.out _).mono ?_
      rintro e w5 ⟨rfl, rfl⟩
      by_cases h32 : 32 < n
      · have hr := HR.out
        rw [if_pos h32] at hr
        rw [if_pos h32]
        subst hr
        go_wp2_with fail
        go_region
        go_wp2
        have O := (tk_out ST5.out SP5.out hg 0 ⟨#[]⟩ 0 0 l c 6).drew
        exact tok_done O _ rfl rfl
      · have hr := HR.out
        rw [if_neg h32] at hr
        rw [if_neg h32]
        subst hr
        go_wp2
        have O := tk_out ST5.out SP5.out hg 1 hd l c 0 0 0
        exact tok_done O _ rfl rfl

end Go.Proofs.Ytakihbjfkpebcaa.Lx
