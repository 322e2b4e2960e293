/-
  FrameLong: the longest body there may be has a frame, which is opened as it; a longer one has none. For every number; the one listed variable, the table of the sum, is tied to the program's text by the card.
-/
import Derived.Test.YtnlgegfmabbgmaaDoorFrSpeaks
import Derived.Test.YtnlgegfmabbgmaaDoorCards
import Derived.Test.YtnlgegfmabbgmaaDoorTie
import Derived.SevenTiedAt
import Derived.OwnWalk
namespace Go.Proofs.YtnlgegfmabbgmaaDoor.frameLong
open Go.ChangeShapes Go.WideShapes Go.ChangeAt Go.RowKit
open Go.ChangeMaps (open_string shut_string)
open Oct (bs)
set_option linter.unusedVariables false

theorem and15 (z : Int) : bits .and .i64 z 15 = z % 16 := by
  show IntKind.i64.wrap ((BitVec.ofInt 64 z &&& BitVec.ofInt 64 15).toNat : Int) = _
  have h15 : (BitVec.ofInt 64 15).toNat = 2 ^ 4 - 1 := by decide
  rw [BitVec.toNat_and, h15, Nat.and_two_pow_sub_one_eq_mod, BitVec.toNat_ofInt]
  rw [IntWalk.i64_in _ (by omega)]
  omega

/-- So many bytes 0. -/
def zs (n : Nat) : ByteArray := ⟨(List.replicate n (0 : UInt8)).toArray⟩
theorem zs_size (n : Nat) : (zs n).size = n := by show (List.replicate n (0 : UInt8)).toArray.size = n; simp

theorem info8 : (Tryd.prog.info? 5).map (fun i => (i.zero, i.size, i.bytes)) = some (some (.int .u8 0), 1, 1) := by kernel_rfl

/-- The cells of n bytes that were made. -/
def made (n : Nat) : Array Value := madeCells (Value.int .u8 0).cells n
theorem made_get (n j : Nat) (h : j < n) : (made n)[j]? = some (.int .u8 0) := by
  have hl : (made n).size = n := size_madeCells _ _
  rw [Array.getElem?_eq_getElem (by omega)]
  simp [made, madeCells, Value.cells, Nat.mod_one]

theorem make_run (n : Nat) (hn : n ≤ 1048585) (W : World) : (Instr.makeSlice 32 (.int .i64 (n : Int)) (.int .i64 (n : Int))).run Tryd.prog W = .ok (.slice (some ⟨W.heap.size, 0, none⟩) n n) (W.alloc (.cells (made n) 5)) := by
  obtain ⟨i0, hi, hz0, hz1, hz2⟩ := info_parts info8
  have := run_make W 32 5 i0 (.int .u8 0) Tryd.underlying32 hi hz0 .i64 .i64 (n : Int) (n : Int) (by omega) (Int.le_refl _) (by rw [hz2]; omega) (by omega)
  rw [this, hz1]
  simp [made]
theorem back_run (n : Nat) (W : World) : (convert 32 9 (.slice (some ⟨W.heap.size, 0, none⟩) n n)).run Tryd.prog (W.alloc (.cells (made n) 5)) = .ok (.string (zs n)) (W.alloc (.cells (made n) 5)) := by
  have := run_convert_bytes_back (P := Tryd.prog) (W.alloc (.cells (made n) 5)) 32 9 5 ⟨W.heap.size, 0, none⟩ n (List.replicate n 0) Tryd.underlying32 Tryd.underlying5 Tryd.underlying9 (fun j hj => by
    have e : (⟨W.heap.size, 0, none⟩ : Addr).add j = ⟨W.heap.size, j, none⟩ := by unfold Addr.add; split <;> simp_all
    rw [e, cell_of_row _ _ _ _ _ _ (heap_alloc_new W _), made_get n j (by simpa using hj)]
    simp)
  rw [List.length_replicate] at this
  exact this

set_option maxHeartbeats 1000000 in
theorem walk_yes (z : Int) (n : Nat) (w : World) (hst : Crc.Steps w) (h0 : 0 < w.heap.size) (hn : 1048570 + z % 16 = (n : Int)) (hn1 : 1048570 ≤ n) (hn2 : n ≤ 1048576) :
    Calls Tryd.prog 6 #[.int .i64 z] w fun e w' => e = .returned (.bool true) ∧ Below w.heap.size w w' := by
  have KS := Lib.hid hst
  have ha := and15 z
  have hmk := fun W => make_run n (by omega) W
  have hbk := fun W => back_run n W
  have hzl : (bs (zs n)).length = n := by rw [Oct.bs_length, zs_size]
  have hbl : (bs (zs n)).length ≤ 1048576 := by rw [hzl]; exact hn2
  obtain ⟨f, hf⟩ : ∃ f : ByteArray, f = ⟨(Crc.wr (bs (zs n))).toArray⟩ := ⟨_, rfl⟩
  have hp : (Oct.pb (n : Int)).length = 4 := by
    rw [Oct.pb, if_neg (by omega), List.length_cons, Oct.be_length, Int.natAbs_natCast, Oct.wid_eq n 2 (by omega) (by omega) (by omega)]
  have hfs : f.size = n + 8 := by rw [hf, Crc.size_mk, Crc.wr_len _ hbl, hzl, hp]; omega
  have H1 : ∀ W : World, Crc.Steps W → 0 < W.heap.size → Calls Tryd.prog 9 #[.string (zs n)] W fun e w' => e = .returned (.string f) ∧ Below W.heap.size W w' := fun W x y => by rw [hf]; exact Crc.wrap_any _ W x y
  have H2 : ∀ W : World, Crc.Steps W → Calls Tryd.prog 10 #[.string f] W fun e w' => e = .returned (.tuple #[.string (zs n), .int .i64 0]) ∧ Below W.heap.size W w' := fun W x => by
    have h := Crc.open_any f W (by omega) x
    rw [hf, Crc.bs_mk, Crc.op_wr _ hbl, Crc.two, Crc.mk_bs] at h
    rw [hf]
    exact h
  obtain ⟨t, ht⟩ : ∃ t, t = zs n := ⟨_, rfl⟩
  have t1 : (t.toList == t.toList) = true := by simp
  have t2 : ((f.size : Int) == (n : Int) + 8) = true := by rw [beq_iff_eq]; omega
  have K1 := Lib.hid H1
  have K2 := Lib.hid H2
  rw [← ht] at K1 K2 hbk
  clear H1 H2 hf hbl hzl hp hst ht hfs
  go_enter Tryd.func6, Tryd.ntmps6
  go_wp2_with fail
  refine (Crc.speaks_true _ KS.out h0).mono ?_
  rintro e w1 ⟨rfl, b1⟩
  go_wp2_with fail
  have b2 := b1.alloc b1.size (.cells (made n) 5)
  have h1 := Nat.lt_of_lt_of_le h0 b2.size
  refine (K1.out _ (KS.out.of b2 h0) h1).mono ?_
  rintro e w3 ⟨rfl, b3'⟩
  have b3 := b2.trans (b3'.mono b2.size)
  clear b3'
  go_wp2_with fail
  refine (K2.out _ (KS.out.of b3 h0)).mono ?_
  rintro e w4 ⟨rfl, b4'⟩
  have b4 := b3.trans (b4'.mono b3.size)
  clear b4'
  go_wp2
  go_ret
  exact ⟨rfl, b4⟩

set_option maxHeartbeats 1000000 in
theorem walk_no (z : Int) (n : Nat) (w : World) (hst : Crc.Steps w) (h0 : 0 < w.heap.size) (hn : 1048570 + z % 16 = (n : Int)) (hn1 : 1048576 < n) (hn2 : n ≤ 1048585) :
    Calls Tryd.prog 6 #[.int .i64 z] w fun e w' => e = .returned (.bool true) ∧ Below w.heap.size w w' := by
  have KS := Lib.hid hst
  have ha := and15 z
  have hmk := fun W => make_run n (by omega) W
  have hbk := fun W => back_run n W
  have hzl : (bs (zs n)).length = n := by rw [Oct.bs_length, zs_size]
  have H1 : ∀ W : World, Crc.Steps W → 0 < W.heap.size → Calls Tryd.prog 9 #[.string (zs n)] W fun e w' => e = .returned (.string ⟨#[]⟩) ∧ Below W.heap.size W w' := fun W x y => by
    have h := Crc.wrap_any (zs n) W x y
    rw [Crc.wr, if_pos (by rw [hzl]; exact hn1)] at h
    exact h
  obtain ⟨t, ht⟩ : ∃ t, t = zs n := ⟨_, rfl⟩
  have K1 := Lib.hid H1
  rw [← ht] at K1 hbk
  clear H1 hzl hst ht
  go_enter Tryd.func6, Tryd.ntmps6
  go_wp2_with fail
  refine (Crc.speaks_true _ KS.out h0).mono ?_
  rintro e w1 ⟨rfl, b1⟩
  go_wp2_with fail
  have b2 := b1.alloc b1.size (.cells (made n) 5)
  have h1 := Nat.lt_of_lt_of_le h0 b2.size
  refine (K1.out _ (KS.out.of b2 h0) h1).mono ?_
  rintro e w3 ⟨rfl, b3'⟩
  have b3 := b2.trans (b3'.mono b2.size)
  clear b3'
  go_wp2
  go_ret
  exact ⟨rfl, b3⟩

theorem walk (z : Int) (w : World) (hst : Crc.Steps w) (h0 : 0 < w.heap.size) :
    Calls Tryd.prog 6 #[.int .i64 z] w fun e w' => e = .returned (.bool true) ∧ Below w.heap.size w w' := by
  obtain ⟨n, hn⟩ : ∃ n : Nat, 1048570 + z % 16 = (n : Int) := ⟨(1048570 + z % 16).toNat, by omega⟩
  by_cases h : n ≤ 1048576
  · exact walk_yes z n w hst h0 hn (by omega) h
  · exact walk_no z n w hst h0 hn (by omega) (by omega)

set_option maxRecDepth 100000 in
theorem lifted (os : Os) (started : os.Started) (H : Type) (enc : TypeId × Value → H) :
    ReturnsInHanded {} Tryd.checked os 6 .any (fun w args => (Rows.frameLongSpec.pre enc Tryd.prog Tryd.f6 [] false w args ∧ laidMetH Tryd.prog Crc.laidL w) ∧ sizedMet enc Tryd.prog Tryd.f6 (OpenSpec.ofChange Rows.frameLongSpec) false w args)
      (Rows.frameLongSpec.post enc Tryd.prog Tryd.f6 false true false false) := by
  refine returnsInHanded_of_change_and (C := Tryd.checked) (X := fun w _ => laidMetH Tryd.prog Crc.laidL w) (fun _ _ _ hh h => h.of_heap hh) Crc.own started (by kernel_rfl) Tryd.func6
    (ChangeSpec.witness_shaped (enc := enc) (C := Tryd.checked) (os := os) (X := fun w _ => laidMetH Tryd.prog Crc.laidL w) false (World.doorLaid Tryd.prog 400 os) #[.int .i64 0] 8 rfl (World.shaped_of_RefB (by kernel_rfl) (by kernel_rfl)) (by kernel_rfl) (by kernel_rfl) (by kernel_rfl) (Crc.door_met os _)) ?_
  intro W base args ds gs before hval0 hW _ _ hL _
  have hval : ∀ (j : Nat) t v, Tryd.f6.params[j]? = some t → args[j]? = some v → Value.okWide Tryd.prog W .any base t v := hval0
  have hW' := hW
  obtain ⟨p, q, hA0, hV, rfl, hfz, hnd⟩ := hW
  have hA : DataW.TrodAll enc Tryd.prog W 0 (fun _ => true) true Tryd.f6.params.toList args.toList ds p := hA0
  rw [Tryd.params6] at hA hval
  obtain ⟨v0, vs0, d0, ds0, p0, q0, hargs, rfl, rfl, h0, r0⟩ := trodAll_cons hA
  obtain ⟨rfl, rfl, rfl⟩ := trodAll_nil r0
  obtain rfl : args = #[v0] := by cases args; simp_all
  obtain ⟨rfl, rfl⟩ := trodVars_none hV
  obtain ⟨a0, rfl, rfl, rfl, w0⟩ := open_int Tryd.underlying3 (hval 0 3 v0 rfl rfl) h0
  obtain ⟨hst, hsz⟩ := Crc.of_laid hL
  clear hA0 hval0
  refine (walk a0 W hst hsz).mono fun e W' ⟨he, bel⟩ => ?_
  subst he
  exact ⟨_, rfl, _, _, _, [], _, [], hW', trodAll_mk1 (shut_bool Tryd.underlying4 _), (trodAll_cons_mk (shut_int Tryd.underlying3 w0) trodAll_mk0), rfl, bel.frame _, fun h => by cases h⟩

theorem over : Rows.FrameLongSaid :=
  OpenClaim.holds_of_wide 6 Tryd.f6 rfl rfl rfl rfl rfl rfl rfl ⟨rfl, rfl, rfl, rfl, rfl⟩ rfl rfl rfl rfl rfl (by kernel_rfl) Tryd.func6 (by kernel_rfl)
    (of_decide_eq_true (by kernel_rfl)) (by unfold Func.isWrapper; first | (rw [if_pos (by decide +kernel)]; kernel_rfl) | (rw [if_neg (by decide +kernel)]; exact ⟨rfl, rfl⟩))
    (fun os started H enc _ => lifted os started H enc)

theorem proved : Rows.FrameLongCardSaid :=
  Claim7.holds_tied_plain_at .later [] Rows.frameLongCard.laidKinds true Rows.frameLongCard.stood.harness false
    over (fun _ h => by cases h) (by kernel_rfl) (fun _ h => by cases h) frameLong_row_tie rfl ⟨rfl, rfl⟩ (by kernel_rfl) rfl
    (fun f fn hf hfn => by
      obtain rfl : f = 6 := Option.some.inj ((show Tryd.prog.funcNamed "primer/primerlaw03.FrameLong" = some 6 by kernel_rfl).symm.trans hf) |>.symm
      obtain rfl : fn = Tryd.f6 := (Option.some.inj (Tryd.func6.symm.trans hfn)).symm
      exact ⟨by kernel_rfl, fun j t ht => by
        rw [Tryd.params6] at ht
        have hm : t ∈ [3] := by simpa using Array.mem_of_getElem? ht
        have hall : ([3].all fun u => !Tryd.prog.wantsStandIn u) = true := by kernel_rfl
        exact (show Tryd.prog.wantsStandIn t = false by simpa using List.all_eq_true.1 hall t hm)⟩)
    (by kernel_rfl)
#print axioms proved
end Go.Proofs.YtnlgegfmabbgmaaDoor.frameLong
