/-
  The walks of an Out's lists.
-/
import Derived.Test.YtjemofhppljcbaaOctIn2
namespace Go.Proofs.Ytjemofhppljcbaa.Oct
open Go.RowKit

/-- What a walk knows of a list of numbers, or of texts, that it reads: its cells. -/
def Nums (w : World) (a : Option Addr) (len : Nat) (zs : List Int) : Prop :=
  zs.length = len ∧ (0 < len → ∃ b off, a = some ⟨b, off, none⟩ ∧ b < w.heap.size ∧ ∀ i, i < len → w.cell? ⟨b, off + i, none⟩ = some (.int .i64 (zs.getD i 0)))
def Strs (w : World) (a : Option Addr) (len : Nat) (ss : List ByteArray) : Prop :=
  ss.length = len ∧ (0 < len → ∃ b off, a = some ⟨b, off, none⟩ ∧ b < w.heap.size ∧ ∀ i, i < len → w.cell? ⟨b, off + i, none⟩ = some (.string (ss.getD i ByteArray.empty)))
theorem Nums.below {w w' : World} {a : Option Addr} {len : Nat} {zs : List Int} (h : Nums w a len zs) (hb : Below w.heap.size w w') : Nums w' a len zs :=
  ⟨h.1, fun hl => by
    obtain ⟨b, off, ha, hlt, hc⟩ := h.2 hl
    exact ⟨b, off, ha, Nat.lt_of_lt_of_le hlt hb.size, fun i hi => (hb.cell (p := ⟨b, off + i, none⟩) hlt).trans (hc i hi)⟩⟩

set_option maxHeartbeats 1000000 in
theorem ints_nil (a : Option Addr) (len cap : Nat) (zs : List Int) (w : World) (h : Nums w a len zs) :
    Calls Try.prog 36 #[.pointer none, .slice a len cap] w fun e w' => e = .returned (.tuple #[]) ∧ Below w.heap.size w w' := by
  have H := Lib.hid h
  have hm : len ≤ 65536 ∨ 65536 < len := by omega
  clear h
  have HL := Lib.hid (length_nil (len : Int) w)
  rcases hm with hm | hm
  · have hd : decide ((len : Int) ≤ 65536) = true := by simp; omega
    rw [hd] at HL
    clear hd
    go_enter Try.func36, Try.ntmps36
    go_wp2_with fail
    refine HL.out.mono ?_
    rintro e w1 ⟨rfl, b1⟩
    have B1 := Lib.hid b1
    clear b1
    go_wp2_with fail
    go_loopw [13, 5] (fun i _ wr => ∃ k : Nat, k ≤ len ∧ i = .int .i64 k ∧ Below w.heap.size w wr) (fun i _ _ => len - (intOf i).toNat)
    case atStart => exact ⟨0, by omega, rfl, B1.out⟩
    case round =>
      obtain ⟨k, hk, rfl, hbel⟩ := hrel
      have HB := Lib.hid hbel
      clear hbel
      by_cases hlt : (k : Int) < len
      · obtain ⟨b, off, rfl, hb, hcell⟩ := H.out.2 (by omega)
        have hck : wr.cell? ⟨b, off + k, none⟩ = some (.int .i64 (zs.getD k 0)) := (HB.out.cell (p := ⟨b, off + k, none⟩) hb).trans (hcell k (by omega))
        obtain ⟨z, hz⟩ : ∃ z, z = zs.getD k 0 := ⟨_, rfl⟩
        rw [← hz] at hck
        clear hz hcell
        go_wp2_with fail
        refine (int_nil _ _).mono ?_
        rintro e w2 ⟨rfl, b2⟩
        have B2 := Lib.hid (HB.out.trans (b2.mono HB.out.size))
        clear b2
        go_wp2
        refine ⟨⟨k + 1, by omega, by go_num, B2.out⟩, by simp [intOf]; omega⟩
      · go_wp2
        go_end0
        exact ⟨rfl, HB.out⟩
  · have hd : decide ((len : Int) ≤ 65536) = false := by simp; omega
    rw [hd] at HL
    clear hd
    go_enter Try.func36, Try.ntmps36
    go_wp2_with fail
    refine HL.out.mono ?_
    rintro e w1 ⟨rfl, b1⟩
    go_wp2
    refine bodyPost_ret (results_none rfl _ _ _) rfl ?_
    exact ⟨rfl, b1⟩

set_option maxHeartbeats 1000000 in
theorem texts_nil (a : Option Addr) (len cap : Nat) (ss : List ByteArray) (w : World) (h : Strs w a len ss) :
    Calls Try.prog 39 #[.pointer none, .slice a len cap] w fun e w' => e = .returned (.tuple #[]) ∧ Below w.heap.size w w' := by
  have H := Lib.hid h
  have hm : len ≤ 65536 ∨ 65536 < len := by omega
  clear h
  have HL := Lib.hid (length_nil (len : Int) w)
  rcases hm with hm | hm
  · have hd : decide ((len : Int) ≤ 65536) = true := by simp; omega
    rw [hd] at HL
    clear hd
    go_enter Try.func39, Try.ntmps39
    go_wp2_with fail
    refine HL.out.mono ?_
    rintro e w1 ⟨rfl, b1⟩
    have B1 := Lib.hid b1
    clear b1
    go_wp2_with fail
    go_loopw [13, 5] (fun i _ wr => ∃ k : Nat, k ≤ len ∧ i = .int .i64 k ∧ Below w.heap.size w wr) (fun i _ _ => len - (intOf i).toNat)
    case atStart => exact ⟨0, by omega, rfl, B1.out⟩
    case round =>
      obtain ⟨k, hk, rfl, hbel⟩ := hrel
      have HB := Lib.hid hbel
      clear hbel
      by_cases hlt : (k : Int) < len
      · obtain ⟨b, off, rfl, hb, hcell⟩ := H.out.2 (by omega)
        have hck : wr.cell? ⟨b, off + k, none⟩ = some (.string (ss.getD k ByteArray.empty)) := (HB.out.cell (p := ⟨b, off + k, none⟩) hb).trans (hcell k (by omega))
        obtain ⟨z, hz⟩ : ∃ z, z = ss.getD k ByteArray.empty := ⟨_, rfl⟩
        rw [← hz] at hck
        clear hz hcell
        go_wp2_with fail
        refine (text_nil _ _).mono ?_
        rintro e w2 ⟨rfl, b2⟩
        have B2 := Lib.hid (HB.out.trans (b2.mono HB.out.size))
        clear b2
        go_wp2
        refine ⟨⟨k + 1, by omega, by go_num, B2.out⟩, by simp [intOf]; omega⟩
      · go_wp2
        go_end0
        exact ⟨rfl, HB.out⟩
  · have hd : decide ((len : Int) ≤ 65536) = false := by simp; omega
    rw [hd] at HL
    clear hd
    go_enter Try.func39, Try.ntmps39
    go_wp2_with fail
    refine HL.out.mono ?_
    rintro e w1 ⟨rfl, b1⟩
    go_wp2
    refine bodyPost_ret (results_none rfl _ _ _) rfl ?_
    exact ⟨rfl, b1⟩

/-- The bytes of the first k numbers of a list. -/
def eNums (zs : List Int) : Nat → Option (List UInt8)
  | 0 => some []
  | k + 1 => app (eNums zs k) (eInt (zs.getD k 0))
theorem len_eNums (zs : List Int) (k : Nat) : len (eNums zs k) ≤ 8 * k := by
  induction k with
  | zero => simp [eNums, len]
  | succ k ih =>
    have := len_app (eNums zs k) (eInt (zs.getD k 0))
    have := len_eInt (zs.getD k 0)
    simp only [eNums]
    omega
def eInts (zs : List Int) : Option (List UInt8) := if 65536 < zs.length then none else app (eLen zs.length) (eNums zs zs.length)
theorem app_nil (a : Option (List UInt8)) : app a (some []) = a := by cases a <;> simp [app]

set_option maxHeartbeats 1000000 in
theorem ints_any (g c : Nat) (st : Option (List UInt8)) (a : Option Addr) (len cap : Nat) (zs : List Int) (w : World) (hs : OutSt w g c st) (h : Nums w a len zs) (hb : Oct.len st + 1000000 ≤ 140737488355328)
    (hgb : 0 < len → ∀ b off, a = some ⟨b, off, none⟩ → b ≠ g ∧ b < c) :
    Calls Try.prog 36 #[.pointer (some ⟨g, 0, none⟩), .slice a len cap] w (Left w g c (app st (eInts zs))) := by
  have H := Lib.hid h
  have hzl := h.1
  have hm : len ≤ 65536 ∨ 65536 < len := by omega
  clear h
  have HL := Lib.hid (length_any g c st (len : Int) w hs (by omega))
  have HGB := Lib.hid hgb
  clear hs hgb
  rcases hm with hm | hm
  · have hd : decide ((len : Int) ≤ 65536) = true := by simp; omega
    rw [hd] at HL
    have hfin : app st (eInts zs) = app (app st (eLen len)) (eNums zs len) := by rw [eInts, if_neg (by omega), hzl, app_assoc]
    rw [hfin]
    have hl0 := len_app st (eLen len)
    have hl1 := len_eLen (len : Int)
    generalize app st (eLen len) = s0 at *
    have HLN : Hid (∀ k, k ≤ len → Oct.len (app s0 (eNums zs k)) + 8 ≤ 140737488355328) := fun k hk => by
      have := len_app s0 (eNums zs k)
      have := len_eNums zs k
      omega
    have HZL := Lib.hid hzl
    clear hd hfin hl0 hl1 hb hzl
    go_enter Try.func36, Try.ntmps36
    go_wp2_with fail
    refine HL.out.mono ?_
    rintro e w1 ⟨rfl, k1, k2⟩
    have K1 := Lib.hid k1
    have K2 := Lib.hid k2
    clear k1 k2
    go_wp2_with fail
    go_loopw [13, 5] (fun i _ wr => ∃ k : Nat, k ≤ len ∧ i = .int .i64 k ∧ OutSt wr g c (app s0 (eNums zs k)) ∧ OSep g c w wr) (fun i _ _ => len - (intOf i).toNat)
    case atStart => exact ⟨0, by omega, rfl, by rw [eNums, app_nil]; exact K1.out, K2.out⟩
    case round =>
      obtain ⟨k, hk, rfl, hout, hsep⟩ := hrel
      have HO := Lib.hid hout
      have HS := Lib.hid hsep
      clear hout hsep
      by_cases hlt : (k : Int) < len
      · obtain ⟨b, off, rfl, hb, hcell⟩ := H.out.2 (by omega)
        have hbg := HGB.out (by omega) b off rfl
        have hck : wr.cell? ⟨b, off + k, none⟩ = some (.int .i64 (zs.getD k 0)) := (World.cell?_of_block (w := w) (a := ⟨b, off + k, none⟩) (HS.out.sep.block b hbg.2 hbg.1)).trans (hcell k (by omega))
        obtain ⟨z, hz⟩ : ∃ z, z = zs.getD k 0 := ⟨_, rfl⟩
        rw [← hz] at hck
        have HZ := Lib.hid hz
        clear hz hcell hbg
        go_wp2_with fail
        refine (int_any g c _ z _ HO.out (HLN.out k (by omega))).mono ?_
        rintro e w2 ⟨rfl, k3, k4⟩
        rw [app_assoc, show app (eNums zs k) (eInt z) = eNums zs (k + 1) from by rw [HZ.out]; rfl] at k3
        have K3 := Lib.hid k3
        have K4 := Lib.hid (HS.out.trans k4)
        clear k3 k4
        go_wp2
        refine ⟨⟨k + 1, by omega, by go_num, K3.out, K4.out⟩, by simp [intOf]; omega⟩
      · have hke : k = len := by omega
        subst hke
        go_wp2
        go_end0
        exact ⟨rfl, HO.out, HS.out⟩
  · have hd : decide ((len : Int) ≤ 65536) = false := by simp; omega
    rw [hd] at HL
    have hfin : app st (eInts zs) = app st (eLen len) := by rw [eInts, if_pos (by omega), eLen, if_pos (by omega)]
    rw [hfin]
    clear hd hfin hb hzl
    go_enter Try.func36, Try.ntmps36
    go_wp2_with fail
    refine HL.out.mono ?_
    rintro e w1 ⟨rfl, k1, k2⟩
    go_wp2
    refine bodyPost_ret (results_none rfl _ _ _) rfl ?_
    exact ⟨rfl, k1, k2⟩

end Go.Proofs.Ytjemofhppljcbaa.Oct
