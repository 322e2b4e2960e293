/-
  SyntaxBounds: of any two numbers the call returns true: as many rules, tokens and brackets as there may be are read, one more is told as a fault in the first line, and nothing is read. For every two numbers; no condition of ours.
-/
import Derived.Test.YtogddlcalhjlpaaSxLaw
import Derived.Test.YtogddlcalhjlpaaSxBig
import Derived.Test.YtogddlcalhjlpaaRows
import Derived.ProofKit
import Derived.OpenShut
import Derived.ShutString
import Derived.ChangeOld
import Derived.IntWalk
import Derived.Lib.SlBytesConst
import Derived.Lib.AppendStr
import Derived.WalkSpells
namespace Go.Proofs.Ytogddlcalhjlpaa.syntaxBounds
open Go.ChangeShapes Go.WideShapes Go.ChangeAt Go.RowKit
open Lx (bs)
set_option linter.unusedVariables false
set_option maxRecDepth 100000

theorem own : ownKnob Try.prog.godebug = none := by kernel_rfl

def okA (n : Nat) : Bool := match Sx.parseS (Sx.repA n) with
  | .ok G _ => decide (n ≤ 64) && decide (0 < G.rules.length)
  | .no l _ k => decide (64 < n) && decide (l = 1) && decide (k = 6)
theorem okA_all : (List.range 8).all (fun k => okA (60 + k)) = true := by kernel_rfl
def okC (n : Nat) : Bool := match Sx.parseS (Sx.txtC n) with
  | .ok G _ => decide (n ≤ 16) && decide (0 < G.rules.length)
  | .no l _ k => decide (16 < n) && decide (l = 1) && decide (k = 11)
theorem okC_all : (List.range 8).all (fun k => okC (12 + k)) = true := by kernel_rfl
/-- What is told of a text: that many are too many, or not. -/
def Told (n most code : Nat) (R : Sx.Res Sx.Gram) : Prop := (n ≤ most ∧ ∃ G j, R = .ok G j ∧ 0 < G.rules.length) ∨ (most < n ∧ ∃ c, R = .no 1 c code)
theorem told_a (k : Nat) (h : k < 8) : Told (60 + k) 64 6 (Sx.parseS (Sx.repA (60 + k))) := by
  have := List.all_eq_true.1 okA_all k (List.mem_range.2 h)
  unfold okA at this
  cases hR : Sx.parseS (Sx.repA (60 + k)) with
  | ok G j =>
    rw [hR] at this
    simp only [Bool.and_eq_true, decide_eq_true_eq] at this
    exact .inl ⟨this.1, G, j, rfl, this.2⟩
  | no l c e =>
    rw [hR] at this
    simp only [Bool.and_eq_true, decide_eq_true_eq] at this
    obtain ⟨⟨h1, rfl⟩, rfl⟩ := this
    exact .inr ⟨h1, c, rfl⟩
theorem told_c (k : Nat) (h : k < 8) : Told (12 + k) 16 11 (Sx.parseS (Sx.txtC (12 + k))) := by
  have := List.all_eq_true.1 okC_all k (List.mem_range.2 h)
  unfold okC at this
  cases hR : Sx.parseS (Sx.txtC (12 + k)) with
  | ok G j =>
    rw [hR] at this
    simp only [Bool.and_eq_true, decide_eq_true_eq] at this
    exact .inl ⟨this.1, G, j, rfl, this.2⟩
  | no l c e =>
    rw [hR] at this
    simp only [Bool.and_eq_true, decide_eq_true_eq] at this
    obtain ⟨⟨h1, rfl⟩, rfl⟩ := this
    exact .inr ⟨h1, c, rfl⟩
theorem told_b (k : Nat) (h : k < 16) : Told (4090 + k) 4096 6 (Sx.parseS (Sx.txtB (4087 + k))) := by
  have hs := Sx.scan_big (4087 + k) (by omega)
  rw [Sx.parseS, hs, if_neg (by simp)]
  by_cases hk : 4087 + k ≤ 4093
  · obtain ⟨G, j, h1, h2⟩ := Sx.parse_few (4087 + k) hk
    exact .inl ⟨by omega, G, j, h1, by omega⟩
  · obtain ⟨c, h1⟩ := Sx.parse_many (4087 + k) (by omega)
    exact .inr ⟨by omega, c, h1⟩
theorem and_mask (z : Int) (j : Nat) (hj : j ≤ 8) (m : Int) (hm : (BitVec.ofInt 64 m).toNat = 2 ^ j - 1) : bits .and .i64 z m = z % (2 ^ j : Nat) := by
  show IntKind.i64.wrap ((BitVec.ofInt 64 z &&& BitVec.ofInt 64 m).toNat : Int) = _
  rw [BitVec.toNat_and, hm, Nat.and_two_pow_sub_one_eq_mod, BitVec.toNat_ofInt]
  have h2 : (0 : Int) ≤ z % ((2 ^ 64 : Nat) : Int) := Int.emod_nonneg _ (by decide)
  have e : (((z % (2 ^ 64 : Nat)).toNat % 2 ^ j : Nat) : Int) = z % (2 ^ j : Nat) := by
    rw [Int.natCast_emod, Int.toNat_of_nonneg h2]
    exact Int.emod_emod_of_dvd z (by exact_mod_cast Nat.pow_dvd_pow 2 (by omega : j ≤ 64))
  have hb : (0 : Int) ≤ z % (2 ^ j : Nat) := Int.emod_nonneg _ (by have := Nat.pow_pos (n := j) (show 0 < 2 by decide); omega)
  have hb2 : z % (2 ^ j : Nat) < (2 ^ j : Nat) := Int.emod_lt_of_pos _ (by have := Nat.pow_pos (n := j) (show 0 < 2 by decide); omega)
  have h256 : (2 ^ j : Nat) ≤ 256 := Nat.pow_le_pow_right (by decide) hj
  rw [e, IntWalk.i64_in _ (by omega)]
theorem mask7 (z : Int) : ∃ k : Nat, k < 8 ∧ bits .and .i64 z 7 = (k : Int) := by
  refine ⟨(z % 8).toNat, by omega, ?_⟩
  have := and_mask z 3 (by decide) 7 (by decide)
  rw [this]
  show z % 8 = _
  omega
theorem mask15 (z : Int) : ∃ k : Nat, k < 16 ∧ bits .and .i64 z 15 = (k : Int) := by
  refine ⟨(z % 16).toNat, by omega, ?_⟩
  have := and_mask z 4 (by decide) 15 (by decide)
  rw [this]
  show z % 16 = _
  omega

/-- The append of a string's bytes to a slice that has no room: a new row. -/
theorem wpList_append_new {P : Program} {w : World} {ops : Array Oper} {rest : List Oper} {o : Oper} {a : Act} {Q : Exit → Act → World → Prop} (hgd : o.guard = none) (sl x : Operand) (t u : TypeId)
    (ho : o.op = .call { callee := .builtin .append, args := #[sl, x], argTypes := #[t, u] })
    (e : TypeId) (i : TypeInfo) (ht : P.underlying t = some (.slice e)) (hu : P.underlying u = some .string) (hi : P.info? e = some i) (hz : i.zero = some (.int .u8 0))
    (hsize : i.size = 1) (hby : i.bytes = 1) (b : Addr) (n cap : Nat) (olds : List Value) (hs : a.eval sl = .slice (some b) n cap) (hlo : olds.length = n) (holds : ∀ j v, olds[j]? = some v → w.cell? (b.add j) = some v)
    (s : ByteArray) (hx : a.eval x = .string s) (hg : cap < n + s.size) (h63 : n + s.size ≤ maxLen) (hbytes : n + s.size ≤ 140737488355328)
    (h : ∀ A' cap' w', w'.ownsRow w.heap.size e 1 (.slice A' (n + s.size) cap') (n + s.size) (olds ++ Lib.strCells s) → Below w.heap.size w w' → wpList P ops Q rest (a.put o.dst (.slice A' (n + s.size) cap')) w') : wpList P ops Q (o :: rest) a w := by
  refine wpList_plain hgd fun K hK => ?_
  have hr := Lib.run_append_grow_string (P := P) (w := w) t u o.type e i (.int .u8 0) ht hu hi hz b n cap olds (by rw [hsize]; omega) holds s hg (by unfold maxLen at h63; omega) (by rw [hby]; exact growslice_fits (by omega) (by omega))
  unfold Oper.wp execOp
  simp only [ho, resolve, invoke, builtin, Sem.run_bind, Sem.run_pure, Result.andThen_ok, List.map_toArray, List.map_cons, List.map_nil, hs, hx, hr]
  refine hK _ _ (h _ _ _ ⟨by rw [List.length_append, hlo, Lib.strCells_length, Nat.mul_one], .inr ⟨w.heap.size, _, _, rfl, Nat.le_refl _, heap_alloc_new w.drew _, grownCap_ge w (n + s.size) cap e, grownCap_le_maxLen w (n + s.size) cap e h63, ?_, ?_⟩⟩ ⟨rfl, rfl, rfl, by simp, fun k hk => heap_alloc_old w.drew _ hk⟩)
  · have hz1 : (Value.int IntKind.u8 0).cells.size = 1 := rfl
    have hge := grownCap_ge w (n + s.size) cap e
    simp only [Array.size_append, List.size_toArray, size_zeroCells, hz1, hlo, Lib.strCells_length]
    omega
  · simp only [Array.toList_append, List.append_assoc]
    have hlen : (olds ++ Lib.strCells s).length = (n + s.size) * 1 := by rw [List.length_append, hlo, Lib.strCells_length, Nat.mul_one]
    rw [← List.append_assoc, ← hlen]
    exact List.take_left
def u8s (l : List UInt8) : List Value := l.map Lx.u8v
theorem u8s_append (a b : List UInt8) : u8s (a ++ b) = u8s a ++ u8s b := List.map_append
theorem heap_size_alloc'' (w : World) (cs : Array Value) (t : TypeId) (fr : Nat × Nat) : (w.alloc (.cells cs t fr)).heap.size = w.heap.size + 1 := by simp
theorem row_mark (w1 : World) : ∀ j v, ([Value.int .u8 97, .int .u8 58] : List Value)[j]? = some v → (w1.alloc (.cells #[.int .u8 97, .int .u8 58] 5 (2, 3))).cell? ((⟨w1.heap.size, 0, none⟩ : Addr).add j) = some v := by
  intro j v h
  rw [Lx.add_row]
  have hb : (w1.alloc (.cells #[.int .u8 97, .int .u8 58] 5 (2, 3))).heap[w1.heap.size]? = some (.cells #[.int .u8 97, .int .u8 58] 5 (2, 3)) := by
    show (w1.heap.push _)[w1.heap.size]? = _
    simp
  rw [cell_of_row _ _ j _ _ (2, 3) hb]
  simpa using h
/-- The text's bytes as far as they are: at first a row that is not to be written, then one of the call's own. -/
def BufAt (w1 : World) (k : Nat) (v : Value) (W : World) : Prop :=
  Below w1.heap.size w1 W ∧ ((k = 0 ∧ v = .slice (some ⟨w1.heap.size, 0, none⟩) 2 2 ∧ W = w1.alloc (.cells #[.int .u8 97, .int .u8 58] 5 (2, 3))) ∨
    (0 < k ∧ ∃ A cap, v = .slice A (2 + 2 * k) cap ∧ W.ownsRow (w1.heap.size + 1) 5 1 (.slice A (2 + 2 * k) cap) (2 + 2 * k) (u8s ([97, 58] ++ Sx.repH k))))

set_option maxHeartbeats 8000000 in
theorem walk (x y : Int) (w : World) :
    Calls Try.prog 5 #[.int .i64 x, .int .i64 y] w fun e w' => e = .returned (.bool true) ∧ Below w.heap.size w w' := by
  have hlo := Int.lt_tmod_of_pos y (show (0 : Int) < 3 by decide)
  have hhi := Int.tmod_lt_of_pos y (show (0 : Int) < 3 by decide)
  obtain ⟨k7, hk7, h7⟩ := mask7 x
  have kc := fun (w : World) (C : Array Value) (n c : Nat) => Lib.run_convert_bytes_const (P := Try.prog) w 54 5 C n c Try.underlying54 Try.underlying5
  obtain ⟨k15, hk15, h15⟩ := mask15 x
  obtain ⟨q, hq⟩ : ∃ q, q = y.tmod 3 := ⟨_, rfl⟩
  rw [← hq] at hlo hhi
  have hq' := hq.symm
  clear hq
  rcases (by omega : q = -2 ∨ q = -1 ∨ q = 0 ∨ q = 1 ∨ q = 2) with h | h | h | h | h
  · subst h
    clear hlo hhi
    go_enter Try.func5, Try.ntmps5
    go_wp2_with fail
    refine (Sx.speaks_true _).mono ?_
    rintro e w1 ⟨rfl, b1⟩
    go_wp2_with fail
    obtain ⟨i0, hi0, hz0, hz1, hz2⟩ := info_parts Lx.u8info
    have HB1 := Lib.hid b1
    clear b1 h7 hk7
    go_wp2
    have hbuf : BufAt w1 0 (.slice (some ⟨w1.heap.size, 0, none⟩) 2 2) (w1.alloc (.cells #[.int .u8 97, .int .u8 58] 5 (2, 3))) := ⟨(Below.refl _ _).alloc (Nat.le_refl _) _, .inl ⟨rfl, rfl, rfl⟩⟩
    have HBU := Lib.hid hbuf
    clear hbuf kc
    go_loopw [9, 10] (fun v i wr => ∃ k : Nat, k ≤ 4087 + k15 ∧ i = .int .i64 k ∧ BufAt w1 k v wr) (fun _ i _ => 4087 + k15 - (intOf i).toNat)
    case atStart => exact ⟨0, by omega, rfl, HBU.out⟩
    case round =>
      obtain ⟨k, hk, rfl, hbel, hbf⟩ := hrel
      have HBL := Lib.hid hbel
      have hw1s := hbel.size
      by_cases hlt : k < 4087 + k15
      · have hlt2 : (k : Int) < 4090 + (k15 : Int) - 3 := by omega
        rcases hbf with ⟨rfl, rfl, rfl⟩ | ⟨hk0, A, cap, rfl, hown⟩
        · clear HBU
          go_wp2_with ((at_builtin; refine wpList_append_new rfl (.tmp 67) (.const (.string ⟨#[32, 98]⟩)) 54 9 rfl 5 i0 Try.underlying54 Try.underlying9 hi0 hz0 hz1 hz2 ⟨w1.heap.size, 0, none⟩ 2 2 [.int .u8 97, .int .u8 58] rfl rfl (row_mark w1) ⟨#[32, 98]⟩ rfl (by decide) (by decide) (by decide) ?_))
          intro A' cap' w4 hown4 hb4
          have hnew : BufAt w1 1 (.slice A' (2 + 2 * 1) cap') w4 := by
            refine ⟨HBL.out.trans (hb4.mono (by simp)), .inr ⟨by decide, A', cap', rfl, ?_⟩⟩
            skip
            exact hown4
          have HNW := Lib.hid hnew
          clear hnew hown4 hb4
          go_wp2
          go_roundw
          case rel => first | exact ⟨1, by omega, rfl, HNW.out⟩ | ((repeat apply Exists.intro); refine ⟨⟨1, by omega, ?_, HNW.out⟩, rfl⟩; rfl)
          case measure => simp [intOf] <;> omega
        · have HO := Lib.hid hown
          have hbase : w1.heap.size + 1 ≤ wr.heap.size := by
            rcases hown.2 with ⟨h1, h2⟩ | ⟨g, cp, cur, h1, h2, h3, _⟩
            · omega
            · have := Lx.heap_lt h3; omega
          clear HBU hown
          go_wp2_with ((at_builtin; refine Lib.wpList_append_own_string _ rfl (.tmp 67) (.const (.string ⟨#[32, 98]⟩)) 54 9 rfl (w1.heap.size + 1) 5 i0 Try.underlying54 Try.underlying9 hi0 hz0 hz1 hz2 _ (2 + 2 * k) (u8s ([97, 58] ++ Sx.repH k)) rfl HO.out ⟨#[32, 98]⟩ rfl (by unfold maxLen; show 2 + 2 * k + 2 ≤ _; omega) (by show 2 + 2 * k + 2 ≤ _; omega) hbase ?_))
          intro v' w4 hown4 hgr _
          obtain ⟨A', cap', rfl⟩ := Lx.slice_of hown4
          have hnew : BufAt w1 (k + 1) (.slice A' (2 + 2 * k + (⟨#[32, 98]⟩ : ByteArray).size) cap') w4 := by
            refine ⟨HBL.out.trans ⟨hgr.os, hgr.tape, hgr.output, hgr.size, fun q hq => hgr.block q (by omega) (fun e => ?_)⟩, .inr ⟨by omega, A', cap', rfl, ?_⟩⟩
            · have := Lx.own_block HO.out q e.symm
              omega
            · rw [Sx.repH_snoc, ← List.append_assoc, u8s_append]
              exact hown4
          have HNW := Lib.hid hnew
          clear hnew hown4 hgr
          go_wp2
          go_roundw
          case rel => exact ⟨k + 1, by omega, by go_num, HNW.out⟩
          case measure => simp [intOf]; omega
      · have hlt2 : ¬ (k : Int) < 4090 + (k15 : Int) - 3 := by omega
        obtain rfl : k = 4087 + k15 := by omega
        rcases hbf with ⟨h0, _⟩ | ⟨hk0, A, cap, rfl, hown⟩
        · omega
        · obtain ⟨L, hL⟩ : ∃ L, L = [97, 58] ++ Sx.repH (4087 + k15) := ⟨_, rfl⟩
          have hLl : L.length = 2 + 2 * (4087 + k15) := by rw [hL, List.length_append, Sx.repH_len] <;> rfl
          rw [← hL, ← hLl] at hown
          rw [← hLl]
          have hcv := Lx.own_string wr (w1.heap.size + 1) A cap L hown
          obtain ⟨t1, ht1⟩ : ∃ t1 : ByteArray, t1 = ⟨L.toArray⟩ := ⟨_, rfl⟩
          rw [← ht1] at hcv
          have hs1 : t1.size = 2 + 2 * (4087 + k15) := by rw [← hLl, ht1] <;> rfl
          have hb1 : bs t1 = L := by rw [ht1] <;> rfl
          have HS1 := Lib.hid hs1
          have ho : ¬ 9223372036854775807 < t1.size + 1 := by omega
          obtain ⟨t, htt⟩ : ∃ t, t = t1 ++ ⟨#[59]⟩ := ⟨_, rfl⟩
          have HBT := Lib.hid (show bs t = Sx.txtB (4087 + k15) by rw [htt, Lx.bs_append', hb1, hL, Sx.txtB, Sx.repB_is]; simp [bs])
          have HSZ := Lib.hid (show t.size = 3 + 2 * (4087 + k15) by rw [htt, ByteArray.size_append, HS1.out]; simp [ByteArray.size]; omega)
          have HTT := Lib.hid htt
          have HB1' := Lib.hid (HB1.out.trans (HBL.out.mono HB1.out.size))
          clear HB1
          have HB1 := HB1'
          clear HB1' htt hs1 hb1 ht1 hL hLl hown HBU
          have KP := fun w => Sx.parse_text t w (by rw [HSZ.out]; omega)
          rw [HBT.out] at KP
          rw [HTT.out] at KP
          rcases told_b k15 hk15 with ⟨hle, G, j, hR, hG0⟩ | ⟨hgt, c, hR⟩
          · rw [hR] at KP
            have hm : ¬ (4096 : Int) < (4090 + k15 : Nat) := by omega
            have hl0 : (0 : Int) < (G.rules.length : Int) := by omega
            have HK := Lib.hid KP
            clear KP hR
            go_wp2_with fail
            refine (HK.out _).mono ?_
            rintro e w2 ⟨x1, y1, rfl, b2, ⟨v, rfl, hr⟩, rfl⟩
            obtain ⟨Av, cv, rfl⟩ := hr.form
            have HB := Lib.hid (HB1.out.trans (b2.mono HB1.out.size))
            clear hr b2
            go_wp2
            go_ret
            exact ⟨rfl, (HB.out.alloc HB.out.size _).alloc (by have := HB.out.size; simp; omega) _⟩
          · rw [hR] at KP
            have hm : (4096 : Int) < (4090 + k15 : Nat) := by omega
            have HK := Lib.hid KP
            clear KP hR
            go_wp2_with fail
            refine (HK.out _).mono ?_
            rintro e w2 ⟨x1, y1, rfl, b2, rfl, rfl⟩
            have HB := Lib.hid (HB1.out.trans (b2.mono HB1.out.size))
            clear b2
            go_wp2
            go_ret
            exact ⟨rfl, (HB.out.alloc HB.out.size _).alloc (by have := HB.out.size; simp; omega) _⟩
  · subst h
    clear hlo hhi
    go_enter Try.func5, Try.ntmps5
    go_wp2_with fail
    refine (Sx.speaks_true _).mono ?_
    rintro e w1 ⟨rfl, b1⟩
    go_wp2_with fail
    have HB1 := Lib.hid b1
    clear b1
    go_loop [5, 11] (fun v i => ∃ (k : Nat) (t : ByteArray), k ≤ 12 + k7 ∧ i = .int .i64 k ∧ v = .string t ∧ bs t = [97, 58] ++ Sx.repC 40 k) (fun _ i => 12 + k7 - (intOf i).toNat)
    case atStart => exact ⟨0, ⟨#[97, 58]⟩, by omega, rfl, rfl, rfl⟩
    case round =>
      obtain ⟨k, t, hk, rfl, rfl, hbt⟩ := hrel
      have HBT := Lib.hid hbt
      have hsz : t.size = 2 + k := by rw [← Lx.bs_len, hbt, List.length_append, Sx.repC_len]; rfl
      have HSZ := Lib.hid hsz
      have ho : ¬ 9223372036854775807 < t.size + 1 := by omega
      clear hbt hsz
      by_cases hlt : k < 12 + k7
      · go_wp2
        go_round
        case rel => exact ⟨k + 1, _, by omega, by go_num, rfl, by rw [Lx.bs_append', HBT.out, Sx.repC_snoc, List.append_assoc]⟩
        case measure => simp [intOf]; omega
      · obtain rfl : k = 12 + k7 := by omega
        go_wp2
        go_loop [5, 12] (fun v i => ∃ (k : Nat) (t : ByteArray), k ≤ 12 + k7 ∧ i = .int .i64 k ∧ v = .string t ∧ bs t = [97, 58] ++ Sx.repC 40 (12 + k7) ++ [98] ++ Sx.repC 41 k) (fun _ i => 12 + k7 - (intOf i).toNat)
        case atStart => exact ⟨0, _, by omega, rfl, rfl, by rw [Lx.bs_append', HBT.out, Sx.repC, List.append_nil]⟩
        case round =>
          obtain ⟨k, t2, hk2, rfl, rfl, hbt2⟩ := hrel
          have HBT2 := Lib.hid hbt2
          have hsz2 : t2.size = 15 + k7 + k := by
            rw [← Lx.bs_len, hbt2, List.length_append, List.length_append, List.length_append, Sx.repC_len, Sx.repC_len]
            simp
            omega
          have HSZ2 := Lib.hid hsz2
          have ho2 : ¬ 9223372036854775807 < t2.size + 1 := by omega
          clear hbt2 hsz2
          by_cases hlt : k < 12 + k7
          · go_wp2
            go_round
            case rel => exact ⟨k + 1, _, by omega, by go_num, rfl, by rw [Lx.bs_append', HBT2.out, Sx.repC_snoc, List.append_assoc]⟩
            case measure => simp [intOf]; omega
          · obtain rfl : k = 12 + k7 := by omega
            clear HBT HSZ ho
            obtain ⟨t, htt⟩ : ∃ t, t = t2 ++ ⟨#[59]⟩ := ⟨_, rfl⟩
            have HBT := Lib.hid (show bs t = Sx.txtC (12 + k7) by rw [htt, Lx.bs_append', HBT2.out, Sx.txtC]; simp [bs])
            have HSZ := Lib.hid (show t.size = 28 + 2 * k7 by rw [htt, ByteArray.size_append, HSZ2.out]; simp [ByteArray.size]; omega)
            have HTT := Lib.hid htt
            clear htt
            have KP := fun w => Sx.parse_text t w (by rw [HSZ.out]; omega)
            rw [HBT.out] at KP
            rw [HTT.out] at KP
            rcases told_c k7 hk7 with ⟨hle, G, j, hR, hG0⟩ | ⟨hgt, c, hR⟩
            · rw [hR] at KP
              have hm : ¬ (16 : Int) < (12 + k7 : Nat) := by omega
              have hl0 : (0 : Int) < (G.rules.length : Int) := by omega
              have HK := Lib.hid KP
              clear KP hR
              go_wp2_with fail
              refine (HK.out _).mono ?_
              rintro e w2 ⟨x1, y1, rfl, b2, ⟨v, rfl, hr⟩, rfl⟩
              obtain ⟨Av, cv, rfl⟩ := hr.form
              have HB := Lib.hid (HB1.out.trans (b2.mono HB1.out.size))
              clear hr b2
              go_wp2
              go_ret
              exact ⟨rfl, (HB.out.alloc HB.out.size _).alloc (by have := HB.out.size; simp; omega) _⟩
            · rw [hR] at KP
              have hm : (16 : Int) < (12 + k7 : Nat) := by omega
              have HK := Lib.hid KP
              clear KP hR
              go_wp2_with fail
              refine (HK.out _).mono ?_
              rintro e w2 ⟨x1, y1, rfl, b2, rfl, rfl⟩
              have HB := Lib.hid (HB1.out.trans (b2.mono HB1.out.size))
              clear b2
              go_wp2
              go_ret
              exact ⟨rfl, (HB.out.alloc HB.out.size _).alloc (by have := HB.out.size; simp; omega) _⟩
  · subst h
    clear hlo hhi
    go_enter Try.func5, Try.ntmps5
    go_wp2_with fail
    refine (Sx.speaks_true _).mono ?_
    rintro e w1 ⟨rfl, b1⟩
    go_wp2_with fail
    have HB1 := Lib.hid b1
    clear b1
    go_loop [5, 8] (fun v i => ∃ (k : Nat) (t : ByteArray), k ≤ 60 + k7 ∧ i = .int .i64 k ∧ v = .string t ∧ bs t = Sx.repA k) (fun _ i => 60 + k7 - (intOf i).toNat)
    case atStart => exact ⟨0, ⟨#[]⟩, by omega, rfl, rfl, rfl⟩
    case round =>
      obtain ⟨k, t, hk, rfl, rfl, hbt⟩ := hrel
      have HBT := Lib.hid hbt
      have hsz : t.size = 3 * k := by rw [← Lx.bs_len, hbt, Sx.repA_len]
      have HSZ := Lib.hid hsz
      have ho : ¬ 9223372036854775807 < t.size + 3 := by omega
      clear hbt hsz
      by_cases hlt : k < 60 + k7
      · go_wp2
        go_round
        case rel => exact ⟨k + 1, _, by omega, by go_num, rfl, by rw [Lx.bs_append', HBT.out, Sx.repA_snoc]⟩
        case measure => simp [intOf]; omega
      · obtain rfl : k = 60 + k7 := by omega
        have KP := fun w => Sx.parse_text t w (by rw [HSZ.out]; omega)
        rw [HBT.out] at KP
        rcases told_a k7 hk7 with ⟨hle, G, j, hR, hG0⟩ | ⟨hgt, c, hR⟩
        · rw [hR] at KP
          have hm : ¬ (64 : Int) < (60 + k7 : Nat) := by omega
          have hl0 : (0 : Int) < (G.rules.length : Int) := by omega
          have HK := Lib.hid KP
          clear KP hR
          go_wp2_with fail
          refine (HK.out _).mono ?_
          rintro e w2 ⟨x1, y1, rfl, b2, ⟨v, rfl, hr⟩, rfl⟩
          obtain ⟨Av, cv, rfl⟩ := hr.form
          have HB := Lib.hid (HB1.out.trans (b2.mono HB1.out.size))
          clear hr b2
          go_wp2
          go_ret
          exact ⟨rfl, (HB.out.alloc HB.out.size _).alloc (by have := HB.out.size; simp; omega) _⟩
        · rw [hR] at KP
          have hm : (64 : Int) < (60 + k7 : Nat) := by omega
          have HK := Lib.hid KP
          clear KP hR
          go_wp2_with fail
          refine (HK.out _).mono ?_
          rintro e w2 ⟨x1, y1, rfl, b2, rfl, rfl⟩
          have HB := Lib.hid (HB1.out.trans (b2.mono HB1.out.size))
          clear b2
          go_wp2
          go_ret
          exact ⟨rfl, (HB.out.alloc HB.out.size _).alloc (by have := HB.out.size; simp; omega) _⟩
  · subst h
    clear hlo hhi
    go_enter Try.func5, Try.ntmps5
    go_wp2_with fail
    refine (Sx.speaks_true _).mono ?_
    rintro e w1 ⟨rfl, b1⟩
    go_wp2_with fail
    obtain ⟨i0, hi0, hz0, hz1, hz2⟩ := info_parts Lx.u8info
    have HB1 := Lib.hid b1
    clear b1 h7 hk7
    go_wp2
    have hbuf : BufAt w1 0 (.slice (some ⟨w1.heap.size, 0, none⟩) 2 2) (w1.alloc (.cells #[.int .u8 97, .int .u8 58] 5 (2, 3))) := ⟨(Below.refl _ _).alloc (Nat.le_refl _) _, .inl ⟨rfl, rfl, rfl⟩⟩
    have HBU := Lib.hid hbuf
    clear hbuf kc
    go_loopw [9, 10] (fun v i wr => ∃ k : Nat, k ≤ 4087 + k15 ∧ i = .int .i64 k ∧ BufAt w1 k v wr) (fun _ i _ => 4087 + k15 - (intOf i).toNat)
    case atStart => exact ⟨0, by omega, rfl, HBU.out⟩
    case round =>
      obtain ⟨k, hk, rfl, hbel, hbf⟩ := hrel
      have HBL := Lib.hid hbel
      have hw1s := hbel.size
      by_cases hlt : k < 4087 + k15
      · have hlt2 : (k : Int) < 4090 + (k15 : Int) - 3 := by omega
        rcases hbf with ⟨rfl, rfl, rfl⟩ | ⟨hk0, A, cap, rfl, hown⟩
        · clear HBU
          go_wp2_with ((at_builtin; refine wpList_append_new rfl (.tmp 67) (.const (.string ⟨#[32, 98]⟩)) 54 9 rfl 5 i0 Try.underlying54 Try.underlying9 hi0 hz0 hz1 hz2 ⟨w1.heap.size, 0, none⟩ 2 2 [.int .u8 97, .int .u8 58] rfl rfl (row_mark w1) ⟨#[32, 98]⟩ rfl (by decide) (by decide) (by decide) ?_))
          intro A' cap' w4 hown4 hb4
          have hnew : BufAt w1 1 (.slice A' (2 + 2 * 1) cap') w4 := by
            refine ⟨HBL.out.trans (hb4.mono (by simp)), .inr ⟨by decide, A', cap', rfl, ?_⟩⟩
            skip
            exact hown4
          have HNW := Lib.hid hnew
          clear hnew hown4 hb4
          go_wp2
          go_roundw
          case rel => first | exact ⟨1, by omega, rfl, HNW.out⟩ | ((repeat apply Exists.intro); refine ⟨⟨1, by omega, ?_, HNW.out⟩, rfl⟩; rfl)
          case measure => simp [intOf] <;> omega
        · have HO := Lib.hid hown
          have hbase : w1.heap.size + 1 ≤ wr.heap.size := by
            rcases hown.2 with ⟨h1, h2⟩ | ⟨g, cp, cur, h1, h2, h3, _⟩
            · omega
            · have := Lx.heap_lt h3; omega
          clear HBU hown
          go_wp2_with ((at_builtin; refine Lib.wpList_append_own_string _ rfl (.tmp 67) (.const (.string ⟨#[32, 98]⟩)) 54 9 rfl (w1.heap.size + 1) 5 i0 Try.underlying54 Try.underlying9 hi0 hz0 hz1 hz2 _ (2 + 2 * k) (u8s ([97, 58] ++ Sx.repH k)) rfl HO.out ⟨#[32, 98]⟩ rfl (by unfold maxLen; show 2 + 2 * k + 2 ≤ _; omega) (by show 2 + 2 * k + 2 ≤ _; omega) hbase ?_))
          intro v' w4 hown4 hgr _
          obtain ⟨A', cap', rfl⟩ := Lx.slice_of hown4
          have hnew : BufAt w1 (k + 1) (.slice A' (2 + 2 * k + (⟨#[32, 98]⟩ : ByteArray).size) cap') w4 := by
            refine ⟨HBL.out.trans ⟨hgr.os, hgr.tape, hgr.output, hgr.size, fun q hq => hgr.block q (by omega) (fun e => ?_)⟩, .inr ⟨by omega, A', cap', rfl, ?_⟩⟩
            · have := Lx.own_block HO.out q e.symm
              omega
            · rw [Sx.repH_snoc, ← List.append_assoc, u8s_append]
              exact hown4
          have HNW := Lib.hid hnew
          clear hnew hown4 hgr
          go_wp2
          go_roundw
          case rel => exact ⟨k + 1, by omega, by go_num, HNW.out⟩
          case measure => simp [intOf]; omega
      · have hlt2 : ¬ (k : Int) < 4090 + (k15 : Int) - 3 := by omega
        obtain rfl : k = 4087 + k15 := by omega
        rcases hbf with ⟨h0, _⟩ | ⟨hk0, A, cap, rfl, hown⟩
        · omega
        · obtain ⟨L, hL⟩ : ∃ L, L = [97, 58] ++ Sx.repH (4087 + k15) := ⟨_, rfl⟩
          have hLl : L.length = 2 + 2 * (4087 + k15) := by rw [hL, List.length_append, Sx.repH_len] <;> rfl
          rw [← hL, ← hLl] at hown
          rw [← hLl]
          have hcv := Lx.own_string wr (w1.heap.size + 1) A cap L hown
          obtain ⟨t1, ht1⟩ : ∃ t1 : ByteArray, t1 = ⟨L.toArray⟩ := ⟨_, rfl⟩
          rw [← ht1] at hcv
          have hs1 : t1.size = 2 + 2 * (4087 + k15) := by rw [← hLl, ht1] <;> rfl
          have hb1 : bs t1 = L := by rw [ht1] <;> rfl
          have HS1 := Lib.hid hs1
          have ho : ¬ 9223372036854775807 < t1.size + 1 := by omega
          obtain ⟨t, htt⟩ : ∃ t, t = t1 ++ ⟨#[59]⟩ := ⟨_, rfl⟩
          have HBT := Lib.hid (show bs t = Sx.txtB (4087 + k15) by rw [htt, Lx.bs_append', hb1, hL, Sx.txtB, Sx.repB_is]; simp [bs])
          have HSZ := Lib.hid (show t.size = 3 + 2 * (4087 + k15) by rw [htt, ByteArray.size_append, HS1.out]; simp [ByteArray.size]; omega)
          have HTT := Lib.hid htt
          have HB1' := Lib.hid (HB1.out.trans (HBL.out.mono HB1.out.size))
          clear HB1
          have HB1 := HB1'
          clear HB1' htt hs1 hb1 ht1 hL hLl hown HBU
          have KP := fun w => Sx.parse_text t w (by rw [HSZ.out]; omega)
          rw [HBT.out] at KP
          rw [HTT.out] at KP
          rcases told_b k15 hk15 with ⟨hle, G, j, hR, hG0⟩ | ⟨hgt, c, hR⟩
          · rw [hR] at KP
            have hm : ¬ (4096 : Int) < (4090 + k15 : Nat) := by omega
            have hl0 : (0 : Int) < (G.rules.length : Int) := by omega
            have HK := Lib.hid KP
            clear KP hR
            go_wp2_with fail
            refine (HK.out _).mono ?_
            rintro e w2 ⟨x1, y1, rfl, b2, ⟨v, rfl, hr⟩, rfl⟩
            obtain ⟨Av, cv, rfl⟩ := hr.form
            have HB := Lib.hid (HB1.out.trans (b2.mono HB1.out.size))
            clear hr b2
            go_wp2
            go_ret
            exact ⟨rfl, (HB.out.alloc HB.out.size _).alloc (by have := HB.out.size; simp; omega) _⟩
          · rw [hR] at KP
            have hm : (4096 : Int) < (4090 + k15 : Nat) := by omega
            have HK := Lib.hid KP
            clear KP hR
            go_wp2_with fail
            refine (HK.out _).mono ?_
            rintro e w2 ⟨x1, y1, rfl, b2, rfl, rfl⟩
            have HB := Lib.hid (HB1.out.trans (b2.mono HB1.out.size))
            clear b2
            go_wp2
            go_ret
            exact ⟨rfl, (HB.out.alloc HB.out.size _).alloc (by have := HB.out.size; simp; omega) _⟩
  · subst h
    clear hlo hhi
    go_enter Try.func5, Try.ntmps5
    go_wp2_with fail
    refine (Sx.speaks_true _).mono ?_
    rintro e w1 ⟨rfl, b1⟩
    go_wp2_with fail
    have HB1 := Lib.hid b1
    clear b1
    go_loop [5, 11] (fun v i => ∃ (k : Nat) (t : ByteArray), k ≤ 12 + k7 ∧ i = .int .i64 k ∧ v = .string t ∧ bs t = [97, 58] ++ Sx.repC 40 k) (fun _ i => 12 + k7 - (intOf i).toNat)
    case atStart => exact ⟨0, ⟨#[97, 58]⟩, by omega, rfl, rfl, rfl⟩
    case round =>
      obtain ⟨k, t, hk, rfl, rfl, hbt⟩ := hrel
      have HBT := Lib.hid hbt
      have hsz : t.size = 2 + k := by rw [← Lx.bs_len, hbt, List.length_append, Sx.repC_len]; rfl
      have HSZ := Lib.hid hsz
      have ho : ¬ 9223372036854775807 < t.size + 1 := by omega
      clear hbt hsz
      by_cases hlt : k < 12 + k7
      · go_wp2
        go_round
        case rel => exact ⟨k + 1, _, by omega, by go_num, rfl, by rw [Lx.bs_append', HBT.out, Sx.repC_snoc, List.append_assoc]⟩
        case measure => simp [intOf]; omega
      · obtain rfl : k = 12 + k7 := by omega
        go_wp2
        go_loop [5, 12] (fun v i => ∃ (k : Nat) (t : ByteArray), k ≤ 12 + k7 ∧ i = .int .i64 k ∧ v = .string t ∧ bs t = [97, 58] ++ Sx.repC 40 (12 + k7) ++ [98] ++ Sx.repC 41 k) (fun _ i => 12 + k7 - (intOf i).toNat)
        case atStart => exact ⟨0, _, by omega, rfl, rfl, by rw [Lx.bs_append', HBT.out, Sx.repC, List.append_nil]⟩
        case round =>
          obtain ⟨k, t2, hk2, rfl, rfl, hbt2⟩ := hrel
          have HBT2 := Lib.hid hbt2
          have hsz2 : t2.size = 15 + k7 + k := by
            rw [← Lx.bs_len, hbt2, List.length_append, List.length_append, List.length_append, Sx.repC_len, Sx.repC_len]
            simp
            omega
          have HSZ2 := Lib.hid hsz2
          have ho2 : ¬ 9223372036854775807 < t2.size + 1 := by omega
          clear hbt2 hsz2
          by_cases hlt : k < 12 + k7
          · go_wp2
            go_round
            case rel => exact ⟨k + 1, _, by omega, by go_num, rfl, by rw [Lx.bs_append', HBT2.out, Sx.repC_snoc, List.append_assoc]⟩
            case measure => simp [intOf]; omega
          · obtain rfl : k = 12 + k7 := by omega
            clear HBT HSZ ho
            obtain ⟨t, htt⟩ : ∃ t, t = t2 ++ ⟨#[59]⟩ := ⟨_, rfl⟩
            have HBT := Lib.hid (show bs t = Sx.txtC (12 + k7) by rw [htt, Lx.bs_append', HBT2.out, Sx.txtC]; simp [bs])
            have HSZ := Lib.hid (show t.size = 28 + 2 * k7 by rw [htt, ByteArray.size_append, HSZ2.out]; simp [ByteArray.size]; omega)
            have HTT := Lib.hid htt
            clear htt
            have KP := fun w => Sx.parse_text t w (by rw [HSZ.out]; omega)
            rw [HBT.out] at KP
            rw [HTT.out] at KP
            rcases told_c k7 hk7 with ⟨hle, G, j, hR, hG0⟩ | ⟨hgt, c, hR⟩
            · rw [hR] at KP
              have hm : ¬ (16 : Int) < (12 + k7 : Nat) := by omega
              have hl0 : (0 : Int) < (G.rules.length : Int) := by omega
              have HK := Lib.hid KP
              clear KP hR
              go_wp2_with fail
              refine (HK.out _).mono ?_
              rintro e w2 ⟨x1, y1, rfl, b2, ⟨v, rfl, hr⟩, rfl⟩
              obtain ⟨Av, cv, rfl⟩ := hr.form
              have HB := Lib.hid (HB1.out.trans (b2.mono HB1.out.size))
              clear hr b2
              go_wp2
              go_ret
              exact ⟨rfl, (HB.out.alloc HB.out.size _).alloc (by have := HB.out.size; simp; omega) _⟩
            · rw [hR] at KP
              have hm : (16 : Int) < (12 + k7 : Nat) := by omega
              have HK := Lib.hid KP
              clear KP hR
              go_wp2_with fail
              refine (HK.out _).mono ?_
              rintro e w2 ⟨x1, y1, rfl, b2, rfl, rfl⟩
              have HB := Lib.hid (HB1.out.trans (b2.mono HB1.out.size))
              clear b2
              go_wp2
              go_ret
              exact ⟨rfl, (HB.out.alloc HB.out.size _).alloc (by have := HB.out.size; simp; omega) _⟩

set_option maxRecDepth 100000 in
theorem lifted (os : Os) (started : os.Started) (H : Type) (enc : TypeId × Value → H) :
    ReturnsInHanded {} Try.checked os 5 .any (Rows.syntaxBoundsSpec.pre6 enc Try.prog Try.f5 Rows.syntaxBoundsRow.domain false) (Rows.syntaxBoundsSpec.post enc Try.prog Try.f5 false true false false) := by
  refine returnsInHanded_of_change (C := Try.checked) own started (by kernel_rfl) Try.func5
    (ChangeSpec.witness6 (enc := enc) (C := Try.checked) false ⟨#[], #[.int .i64 0, .int .i64 0], []⟩ 8 (by kernel_rfl) (by kernel_rfl) (by kernel_rfl) (by kernel_rfl)) ?_
  intro W base args ds gs before hval0 hW hcnd _
  have hval : ∀ (j : Nat) t v, Try.f5.params[j]? = some t → args[j]? = some v → Value.okWide Try.prog W .any base t v := hval0
  have hW' := hW
  obtain ⟨p, q, hA0, hV, rfl, hfz, hnd⟩ := hW
  have hA : DataW.TrodAll enc Try.prog W 0 (fun _ => true) true Try.f5.params.toList args.toList ds p := hA0
  rw [Try.params5] at hA hval
  obtain ⟨v0, vs0, d0, ds0, p0, q0, hargs, rfl, rfl, h0, r0⟩ := trodAll_cons hA
  obtain ⟨v1, vs1, d1, ds1, p1, q1, rfl, rfl, rfl, h1, r1⟩ := trodAll_cons r0
  obtain ⟨rfl, rfl, rfl⟩ := trodAll_nil r1
  obtain rfl : args = #[v0, v1] := by cases args; simp_all
  obtain ⟨rfl, rfl⟩ := trodVars_none hV
  obtain ⟨a0, rfl, rfl, rfl, w0⟩ := open_int Try.underlying3 (hval 0 3 v0 rfl rfl) h0
  obtain ⟨a1, rfl, rfl, rfl, w1⟩ := open_int Try.underlying3 (hval 1 3 v1 rfl rfl) h1
  clear hA0 hval0
  refine (walk a0 a1 W).mono fun e W' ⟨he, bel⟩ => ?_
  subst he
  exact ⟨_, rfl, _, _, _, [], _, [], hW', trodAll_mk1 (shut_bool Try.underlying4 _), (trodAll_cons_mk (shut_int Try.underlying3 w0) (trodAll_cons_mk (shut_int Try.underlying3 w1) trodAll_mk0)), rfl, bel.frame _, fun h => by cases h⟩

theorem over : Rows.SyntaxBoundsSaid :=
  OpenClaim.holds_of_wide 5 Try.f5 rfl rfl rfl rfl rfl rfl rfl ⟨rfl, rfl, rfl, rfl, rfl⟩ rfl rfl rfl rfl rfl (by kernel_rfl) Try.func5 (by kernel_rfl)
    (of_decide_eq_true (by kernel_rfl)) (by unfold Func.isWrapper; first | (rw [if_pos (by decide +kernel)]; kernel_rfl) | (rw [if_neg (by decide +kernel)]; exact ⟨rfl, rfl⟩))
    (fun os started H enc _ => lifted os started H enc)

theorem proved : Rows.SyntaxBoundsSaid := over
#print axioms proved
end Go.Proofs.Ytogddlcalhjlpaa.syntaxBounds
