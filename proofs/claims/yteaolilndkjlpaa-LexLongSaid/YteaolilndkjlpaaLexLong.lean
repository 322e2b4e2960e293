/-
  LexLong: a text of blanks that is as long as a text may be is the end alone, at its place; one byte more is refused, with nothing. For every number; no condition of ours.
-/
import Derived.Test.YteaolilndkjlpaaLxSpeaks
import Derived.Test.YteaolilndkjlpaaRows
import Derived.ProofKit
import Derived.OpenShut
import Derived.ShutString
import Derived.ChangeOld
import Derived.OwnWalk
namespace Go.Proofs.Yteaolilndkjlpaa.lexLong
open Go.ChangeShapes Go.WideShapes Go.ChangeAt Go.RowKit
open Go.ChangeMaps (open_string shut_string)
open Lx (bs)
set_option linter.unusedVariables false

theorem own : ownKnob Try.prog.godebug = none := by kernel_rfl

theorem and15 (z : Int) : bits .and .i64 z 15 = z % 16 := by
  show IntKind.i64.wrap ((BitVec.ofInt 64 z &&& BitVec.ofInt 64 15).toNat : Int) = _
  have h15 : (BitVec.ofInt 64 15).toNat = 2 ^ 4 - 1 := by decide
  rw [BitVec.toNat_and, h15, Nat.and_two_pow_sub_one_eq_mod, BitVec.toNat_ofInt]
  rw [IntWalk.i64_in _ (by omega)]
  omega

/-- So many blanks. -/
def bl (n : Nat) : ByteArray := ⟨(List.replicate n (32 : UInt8)).toArray⟩
theorem bl_size (n : Nat) : (bl n).size = n := by show (List.replicate n (32 : UInt8)).toArray.size = n; simp
theorem blanks_scan : ∀ (n l c : Nat), Lx.scanG false (List.replicate n 32) l c = ([⟨4, [], l, c + n⟩], (0, 0, 0))
  | 0, l, c => Lx.scan_end _ _ _
  | n + 1, l, c => by
    rw [List.replicate_succ, Lx.scan_blank _ _ _ _ (by decide) (by decide) (by decide), blanks_scan n l (c + 1)]
    congr 3; omega

/-- n bytes, of which k are blanks. -/
def fil (n k : Nat) : Array Value := (List.replicate k (Value.int .u8 32) ++ List.replicate (n - k) (Value.int .u8 0)).toArray
theorem fil_get (n k : Nat) (h : k < n) : (fil n k)[k]? = some (.int .u8 0) := by
  simp only [fil, List.getElem?_toArray]
  obtain ⟨m, hm⟩ : ∃ m, n - k = m + 1 := ⟨n - k - 1, by omega⟩
  rw [List.getElem?_append_right (by simp), List.length_replicate, Nat.sub_self, hm]
  rfl
theorem fil_set (n k : Nat) (h : k < n) : (fil n k).setIfInBounds k (.int .u8 32) = fil n (k + 1) := by
  apply Array.ext'
  obtain ⟨m, hm⟩ : ∃ m, n - k = m + 1 := ⟨n - k - 1, by omega⟩
  have hm2 : n - (k + 1) = m := by omega
  simp only [fil, hm, hm2, Array.toList_setIfInBounds, List.replicate_succ]
  rw [List.set_append_right _ _ (by simp)]
  simp only [List.length_replicate, Nat.sub_self, List.set_cons_zero]
  rw [← List.singleton_append, ← List.append_assoc, ← List.replicate_succ', List.replicate_succ]
theorem fil_full (n j : Nat) (h : j < n) : (fil n n)[j]? = some (.int .u8 32) := by
  simp [fil, h]

theorem info8 : (Try.prog.info? 5).map (fun i => (i.zero, i.size, i.bytes)) = some (some (.int .u8 0), 1, 1) := by kernel_rfl
theorem made_fil (n : Nat) : madeCells (Value.int .u8 0).cells n = fil n 0 := by
  apply Array.ext
  · rw [size_madeCells]; simp [fil]
  · intro i h1 h2
    simp [madeCells, fil, Value.cells, Nat.mod_one]
theorem make_run (n : Nat) (hn : n ≤ 1048585) (W : World) : (Instr.makeSlice 37 (.int .i64 (n : Int)) (.int .i64 (n : Int))).run Try.prog W = .ok (.slice (some ⟨W.heap.size, 0, none⟩) n n) (W.alloc (.cells (fil n 0) 5)) := by
  obtain ⟨i0, hi, hz0, hz1, hz2⟩ := info_parts info8
  have := run_make W 37 5 i0 (.int .u8 0) Try.underlying37 hi hz0 .i64 .i64 (n : Int) (n : Int) (by omega) (Int.le_refl _) (by rw [hz2]; omega) (by omega)
  rw [this, hz1]
  simp [made_fil]

/-- The bytes, as far as they are blanks. -/
def Fil (W : World) (r n k : Nat) : Prop := W.heap[r]? = some (.cells (fil n k) 5 (0, 0))
theorem back_run (W : World) (r n : Nat) (h : Fil W r n n) : (convert 37 9 (.slice (some ⟨r, 0, none⟩) n n)).run Try.prog W = .ok (.string (bl n)) W := by
  have := run_convert_bytes_back (P := Try.prog) W 37 9 5 ⟨r, 0, none⟩ n (List.replicate n 32) Try.underlying37 Try.underlying5 Try.underlying9 (fun j hj => by
    rw [Lx.add_row, Lx.cell_of_row' _ h, fil_full n j (by simpa using hj)]
    simp)
  rw [List.length_replicate] at this
  exact this

set_option maxHeartbeats 2000000 in
theorem walk (z : Int) (w : World) :
    Calls Try.prog 8 #[.int .i64 z] w fun e w' => e = .returned (.bool true) ∧ Below w.heap.size w w' := by
  obtain ⟨n, hn⟩ : ∃ n : Nat, 65530 + z % 16 = (n : Int) := ⟨(65530 + z % 16).toNat, by omega⟩
  have hn1 : 65530 ≤ n := by omega
  have hn2 : n ≤ 65545 := by omega
  have ha := and15 z
  have hmk := fun W => make_run n (by omega) W
  have KS := Lib.hid (fun W => Lx.scan_any (bl n) W (by rw [bl_size]; omega))
  go_enter Try.func8, Try.ntmps8
  go_wp2_with fail
  refine (Lx.speaks_true _).mono ?_
  rintro e w1 ⟨rfl, b1⟩
  go_wp2_with fail
  have hr : Fil (w1.alloc (.cells (fil n 0) 5)) w1.heap.size n 0 := heap_alloc_new w1 _
  have hb0 := b1.alloc b1.size (.cells (fil n 0) 5)
  have h1 := b1.size
  have HR := Lib.hid hr
  have HB := Lib.hid hb0
  clear hr hb0 b1 hmk ha
  go_loopw [4] (fun i wr => ∃ k : Nat, k ≤ n ∧ i = .int .i64 k ∧ Fil wr w1.heap.size n k ∧ Below w.heap.size w wr) (fun i _ => n - (intOf i).toNat)
  case atStart => exact ⟨0, by omega, rfl, HR.out, HB.out⟩
  case round =>
    obtain ⟨k, hk, rfl, hf, hb⟩ := hrel
    by_cases hkn : k < n
    · have c0 : wr.cell? ⟨w1.heap.size, k, none⟩ = some (.int .u8 0) := (Lx.cell_of_row' _ hf).trans (fil_get n k hkn)
      have cf : ∀ i, wr.frozen? ⟨w1.heap.size, i, none⟩ = false := fun i => by have h' := hf; unfold Fil at h'; simp [World.frozen?, h']
      have ca : (⟨w1.heap.size, 0, none⟩ : Addr).add k = ⟨w1.heap.size, k, none⟩ := Lx.add_row _ _
      have hf2 : Fil (wr.setCell ⟨w1.heap.size, k, none⟩ (.int .u8 32)) w1.heap.size n (k + 1) := by
        have := Lx.heap_set hf k (.int .u8 32)
        rw [fil_set n k hkn] at this
        exact this
      have HF := Lib.hid hf2
      have HB2 := Lib.hid (hb.setCell (p := ⟨w1.heap.size, k, none⟩) h1 (.int .u8 32))
      clear hf hf2 hb HR HB
      go_wp2
      go_roundw
      case rel => exact ⟨k + 1, by omega, by go_num, HF.out, HB2.out⟩
      case measure => simp [intOf]; omega
    · obtain rfl : k = n := by omega
      have hcv := back_run wr w1.heap.size k hf
      have HB2 := Lib.hid hb
      obtain ⟨t, ht⟩ : ∃ t, t = bl k := ⟨_, rfl⟩
      rw [← ht] at hcv KS
      have HT := Lib.hid ht
      have hbs : bs (bl k) = List.replicate k 32 := rfl
      by_cases hle : k ≤ 65536
      · have hsc : Lx.scanS (bs (bl k)) = ([⟨4, [], 1, 1 + k⟩], (0, 0, 0)) := by rw [Lx.scanS, hbs, if_neg (by simp; omega), blanks_scan]
        rw [← ht] at hsc
        rw [hsc] at KS
        clear hf hb HR HB ht hsc hbs
        go_wp2_with fail
        refine (KS.out _).mono ?_
        rintro e w2 ⟨A, cap, rfl, hown, hb⟩
        simp only [Lx.fltV]
        obtain ⟨r, rfl, hr, hr2, hcap, hc⟩ := Lx.row_at hown (by show 0 < 1; omega)
        have c3 : w2.cell? ⟨r, 3, none⟩ = some (.int .i64 ((1 + k : Nat) : Int)) := hc 3 _ rfl
        have hB := HB2.out.trans (hb.mono HB2.out.size)
        have e1 : ((1 + k : Nat) : Int) = (k : Int) + 1 := by omega
        rw [e1] at c3
        have HB3 := Lib.hid hB
        clear hc hown hb hB e1 hcv
        simp only [List.length_cons, List.length_nil] at *
        go_wp2
        go_ret
        exact ⟨rfl, HB3.out.alloc HB3.out.size _⟩
      · have hsc : Lx.scanS (bs (bl k)) = ([], (0, 0, 6)) := by rw [Lx.scanS, hbs, if_pos (by simp; omega)]
        rw [← ht] at hsc
        rw [hsc] at KS
        clear hf hb HR HB ht hsc hbs
        go_wp2_with fail
        refine (KS.out _).mono ?_
        rintro e w2 ⟨A, cap, rfl, hown, hb⟩
        simp only [Lx.fltV]
        have hB := HB2.out.trans (hb.mono HB2.out.size)
        have HB3 := Lib.hid hB
        clear hown hb hB hcv
        simp only [List.length_nil] at *
        go_wp2
        go_ret
        exact ⟨rfl, HB3.out.alloc HB3.out.size _⟩

set_option maxRecDepth 100000 in
theorem lifted (os : Os) (started : os.Started) (H : Type) (enc : TypeId × Value → H) :
    ReturnsInHanded {} Try.checked os 8 .any (Rows.lexLongSpec.pre6 enc Try.prog Try.f8 Rows.lexLongRow.domain false) (Rows.lexLongSpec.post enc Try.prog Try.f8 false true false false) := by
  refine returnsInHanded_of_change (C := Try.checked) own started (by kernel_rfl) Try.func8
    (ChangeSpec.witness6 (enc := enc) (C := Try.checked) false ⟨#[], #[.int .i64 0], []⟩ 8 (by kernel_rfl) (by kernel_rfl) (by kernel_rfl) (by kernel_rfl)) ?_
  intro W base args ds gs before hval0 hW hcnd _
  have hval : ∀ (j : Nat) t v, Try.f8.params[j]? = some t → args[j]? = some v → Value.okWide Try.prog W .any base t v := hval0
  have hW' := hW
  obtain ⟨p, q, hA0, hV, rfl, hfz, hnd⟩ := hW
  have hA : DataW.TrodAll enc Try.prog W 0 (fun _ => true) true Try.f8.params.toList args.toList ds p := hA0
  rw [Try.params8] at hA hval
  obtain ⟨v0, vs0, d0, ds0, p0, q0, hargs, rfl, rfl, h0, r0⟩ := trodAll_cons hA
  obtain ⟨rfl, rfl, rfl⟩ := trodAll_nil r0
  obtain rfl : args = #[v0] := by cases args; simp_all
  obtain ⟨rfl, rfl⟩ := trodVars_none hV
  obtain ⟨a0, rfl, rfl, rfl, w0⟩ := open_int Try.underlying3 (hval 0 3 v0 rfl rfl) h0
  clear hA0 hval0
  refine (walk a0 W).mono fun e W' ⟨he, bel⟩ => ?_
  subst he
  exact ⟨_, rfl, _, _, _, [], _, [], hW', trodAll_mk1 (shut_bool Try.underlying4 _), (trodAll_cons_mk (shut_int Try.underlying3 w0) trodAll_mk0), rfl, bel.frame _, fun h => by cases h⟩

theorem over : Rows.LexLongSaid :=
  OpenClaim.holds_of_wide 8 Try.f8 rfl rfl rfl rfl rfl rfl rfl ⟨rfl, rfl, rfl, rfl, rfl⟩ rfl rfl rfl rfl rfl (by kernel_rfl) Try.func8 (by kernel_rfl)
    (of_decide_eq_true (by kernel_rfl)) (by unfold Func.isWrapper; first | (rw [if_pos (by decide +kernel)]; kernel_rfl) | (rw [if_neg (by decide +kernel)]; exact ⟨rfl, rfl⟩))
    (fun os started H enc _ => lifted os started H enc)

theorem proved : Rows.LexLongSaid := over
#print axioms proved

end Go.Proofs.Yteaolilndkjlpaa.lexLong
