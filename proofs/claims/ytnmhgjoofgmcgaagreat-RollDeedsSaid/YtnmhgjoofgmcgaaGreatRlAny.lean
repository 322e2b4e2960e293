/-
  Layer 18: slices.ContainsFunc over classes, and over members.
-/
import Derived.Test.YtnmhgjoofgmcgaaGreatRlA
import Derived.Shelf.SlicesQ.IndexFunc
namespace Go.Proofs.YtnmhgjoofgmcgaaGreat.Rl
open Go.RowKit
set_option maxRecDepth 100000
set_option linter.unusedSimpArgs false
set_option linter.unusedVariables false
theorem any_fin (n : Nat) (p : Nat → Bool) : ((List.finRange n).take n).any (fun i => p i.1) = (List.range n).any p := by
  rw [List.take_of_length_le (by simp), Bool.eq_iff_iff, List.any_eq_true, List.any_eq_true]
  constructor
  · rintro ⟨i, _, h⟩
    exact ⟨i.1, List.mem_range.2 i.2, h⟩
  · rintro ⟨i, hi, h⟩
    exact ⟨⟨i, List.mem_range.1 hi⟩, List.mem_finRange _, h⟩
def layQC_ren : Go.Shelf.Ren := ⟨fun | 6 => 89 | 8 => 50 | n => n, fun | 0 => 0 | 3 => 3 | 4 => 4 | 22 => 25 | 23 => 53 | 25 => 89 | n => n, fun | n => n⟩
theorem layQC : SlLaysH0.n8 Tryz.prog layQC_ren := {
  mixed := by kernel_rfl
  f6 := ⟨Tryz.f89.name, by decide, Tryz.func89.trans (congrArg some (by kernel_rfl))⟩
  f8 := ⟨Tryz.f50.name, by decide, Tryz.func50.trans (congrArg some (by kernel_rfl))⟩
  t0 := Tryz.underlying0
  a0 := Tryz.isAgg0
  z0 := Tryz.sizeOf0
  v0 := Tryz.zeroValue0
  t3 := Tryz.underlying3
  a3 := Tryz.isAgg3
  z3 := Tryz.sizeOf3
  v3 := Tryz.zeroValue3
  t4 := Tryz.underlying4
  a4 := Tryz.isAgg4
  z4 := Tryz.sizeOf4
  v4 := Tryz.zeroValue4
  t22 := Tryz.underlying25
  a22 := Tryz.isAgg25
  z22 := Tryz.sizeOf25
  v22 := Tryz.zeroValue25
  t25 := Tryz.underlying89
  a25 := Tryz.isAgg89
  z25 := Tryz.sizeOf89
  v25 := Tryz.zeroValue89 }
set_option maxHeartbeats 4000000 in
theorem containsC (raws : List CRaw) (P : Nat → Prop) (W : World) (v : Value) (h : RowAt encC P W raws v) (hn : raws.length ≤ 4096) (p : Nat → Bool) (g : FuncId) (lb : Array Value) (eg : ∀ args w, (callFunc g args).run Tryz.prog w = .ok (.enter g args) w)
    (hp : ∀ (w : World) (i : Nat) (hi : i < raws.length), Below W.heap.size W w → Calls Tryz.prog g (#[.agg (encC raws[i]).toArray] ++ lb) w fun e w' => e = .returned (.bool (p i)) ∧ Below w.heap.size w w') :
    Calls Tryz.prog 50 #[v, .func (.func g) #[] lb] W fun e w' => e = .returned (.bool ((List.range raws.length).any p)) ∧ Below W.heap.size W w' := by
  obtain ⟨A, cap, b, rfl, hcap, h0, hA, hc⟩ := h
  obtain ⟨n, hnn⟩ : ∃ n, n = raws.length := ⟨_, rfl⟩
  rcases Nat.eq_zero_or_pos n with h9 | h9
  · subst h9
    rw [← hnn]
    clear hA hc h0 hp hcap hnn
    have HI : Calls Tryz.prog 89 #[.slice A (0 : Nat) cap, .func (.func g) #[] lb] W fun e w' => e = .returned (.int .i64 (-1)) ∧ w' = W := by
      go_enter Tryz.func89, Tryz.ntmps89
      go_upto_block 0 with fail
      go_wp2_with fail
      go_loopw [8] (fun i wr => i = .int .i64 0 ∧ wr = W) (fun _ _ => 0)
      case atStart => exact ⟨rfl, rfl⟩
      case round =>
        obtain ⟨rfl, rfl⟩ := hrel
        go_wp2_with fail
        go_ret
        exact ⟨rfl, rfl⟩
    go_enter Tryz.func50, Tryz.ntmps50
    go_wp2_with fail
    refine HI.mono ?_
    rintro e w' ⟨rfl, rfl⟩
    go_wp2_with fail
    go_ret
    exact ⟨rfl, Below.refl _ _⟩
  · obtain ⟨e, hb, _⟩ := hA (by omega)
    subst e
    letI : Inhabited (Fin raws.length) := ⟨⟨0, by omega⟩⟩
    have := AnyQ.slices_ContainsFunc layQC 3 Tryz.isAgg53 Tryz.sizeOf53 (fun i : Fin raws.length => encC raws[i.1]) (fun _ => rfl) (fun i => p i.1) g lb eg b 0 raws.length cap (List.finRange raws.length) W (fun w x hw => (hp w x.1 x.2 hw).mono fun e w' hh => ⟨hh.1, hw.trans (hh.2.mono hw.size)⟩) (by simp) (by omega) hb (fun j hj i u hu => by
      have hj2 : j < raws.length := by simpa using hj
      have h5 : (List.finRange raws.length)[j]! = ⟨j, hj2⟩ := by
        rw [getElem!_pos _ j hj]
        simp
      rw [h5] at hu
      rw [show 0 + j * 3 + i = j * 3 + i by omega]
      exact hc j hj2 i u hu)
    rw [any_fin] at this
    exact this
def layQM_ren : Go.Shelf.Ren := ⟨fun | 6 => 104 | 8 => 78 | n => n, fun | 0 => 0 | 3 => 3 | 4 => 4 | 22 => 24 | 23 => 45 | 25 => 109 | n => n, fun | n => n⟩
theorem layQM : SlLaysH0.n8 Tryz.prog layQM_ren := {
  mixed := by kernel_rfl
  f6 := ⟨Tryz.f104.name, by decide, Tryz.func104.trans (congrArg some (by kernel_rfl))⟩
  f8 := ⟨Tryz.f78.name, by decide, Tryz.func78.trans (congrArg some (by kernel_rfl))⟩
  t0 := Tryz.underlying0
  a0 := Tryz.isAgg0
  z0 := Tryz.sizeOf0
  v0 := Tryz.zeroValue0
  t3 := Tryz.underlying3
  a3 := Tryz.isAgg3
  z3 := Tryz.sizeOf3
  v3 := Tryz.zeroValue3
  t4 := Tryz.underlying4
  a4 := Tryz.isAgg4
  z4 := Tryz.sizeOf4
  v4 := Tryz.zeroValue4
  t22 := Tryz.underlying24
  a22 := Tryz.isAgg24
  z22 := Tryz.sizeOf24
  v22 := Tryz.zeroValue24
  t25 := Tryz.underlying109
  a25 := Tryz.isAgg109
  z25 := Tryz.sizeOf109
  v25 := Tryz.zeroValue109 }
set_option maxHeartbeats 4000000 in
theorem containsM (raws : List Mem) (P : Nat → Prop) (W : World) (v : Value) (h : RowAt encM P W raws v) (hn : raws.length ≤ 4096) (p : Nat → Bool) (g : FuncId) (lb : Array Value) (eg : ∀ args w, (callFunc g args).run Tryz.prog w = .ok (.enter g args) w)
    (hp : ∀ (w : World) (i : Nat) (hi : i < raws.length), Below W.heap.size W w → Calls Tryz.prog g (#[.agg (encM raws[i]).toArray] ++ lb) w fun e w' => e = .returned (.bool (p i)) ∧ Below w.heap.size w w') :
    Calls Tryz.prog 78 #[v, .func (.func g) #[] lb] W fun e w' => e = .returned (.bool ((List.range raws.length).any p)) ∧ Below W.heap.size W w' := by
  obtain ⟨A, cap, b, rfl, hcap, h0, hA, hc⟩ := h
  obtain ⟨n, hnn⟩ : ∃ n, n = raws.length := ⟨_, rfl⟩
  rcases Nat.eq_zero_or_pos n with h9 | h9
  · subst h9
    rw [← hnn]
    clear hA hc h0 hp hcap hnn
    have HI : Calls Tryz.prog 104 #[.slice A (0 : Nat) cap, .func (.func g) #[] lb] W fun e w' => e = .returned (.int .i64 (-1)) ∧ w' = W := by
      go_enter Tryz.func104, Tryz.ntmps104
      go_upto_block 0 with fail
      go_wp2_with fail
      go_loopw [8] (fun i wr => i = .int .i64 0 ∧ wr = W) (fun _ _ => 0)
      case atStart => exact ⟨rfl, rfl⟩
      case round =>
        obtain ⟨rfl, rfl⟩ := hrel
        go_wp2_with fail
        go_ret
        exact ⟨rfl, rfl⟩
    go_enter Tryz.func78, Tryz.ntmps78
    go_wp2_with fail
    refine HI.mono ?_
    rintro e w' ⟨rfl, rfl⟩
    go_wp2_with fail
    go_ret
    exact ⟨rfl, Below.refl _ _⟩
  · obtain ⟨e, hb, _⟩ := hA (by omega)
    subst e
    letI : Inhabited (Fin raws.length) := ⟨⟨0, by omega⟩⟩
    have := AnyQ.slices_ContainsFunc layQM 3 Tryz.isAgg45 Tryz.sizeOf45 (fun i : Fin raws.length => encM raws[i.1]) (fun _ => rfl) (fun i => p i.1) g lb eg b 0 raws.length cap (List.finRange raws.length) W (fun w x hw => (hp w x.1 x.2 hw).mono fun e w' hh => ⟨hh.1, hw.trans (hh.2.mono hw.size)⟩) (by simp) (by omega) hb (fun j hj i u hu => by
      have hj2 : j < raws.length := by simpa using hj
      have h5 : (List.finRange raws.length)[j]! = ⟨j, hj2⟩ := by
        rw [getElem!_pos _ j hj]
        simp
      rw [h5] at hu
      rw [show 0 + j * 3 + i = j * 3 + i by omega]
      exact hc j hj2 i u hu)
    rw [any_fin] at this
    exact this
end Go.Proofs.YtnmhgjoofgmcgaaGreat.Rl
