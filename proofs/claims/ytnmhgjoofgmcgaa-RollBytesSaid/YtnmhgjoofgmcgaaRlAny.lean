/-
  Layer 18: slices.ContainsFunc over classes, and over members.
-/
import Derived.Test.YtnmhgjoofgmcgaaRlA
import Derived.Shelf.SlicesQ.IndexFunc
namespace Go.Proofs.Ytnmhgjoofgmcgaa.Rl
open Go.RowKit
set_option maxRecDepth 100000
set_option linter.unusedSimpArgs false
set_option linter.unusedVariables false
theorem any_fin (n : Nat) (p : Nat → Bool) : ((List.finRange n).take n).any (fun i => p i.1) = (List.range n).any p := by
  rw [List.take_of_length_le (by simp), Bool.eq_iff_iff, List.any_eq_true, List.any_eq_true]
  constructor
  · rintro ⟨i, _, h⟩
    exact ⟨i.1, List.mem_range.2 i.2, h⟩
  · rintro ⟨i, hi, h⟩
    exact ⟨⟨i, List.mem_range.1 hi⟩, List.mem_finRange _, h⟩
def layQC_ren : Go.Shelf.Ren := ⟨fun | 6 => 93 | 8 => 48 | n => n, fun | 0 => 0 | 3 => 3 | 4 => 4 | 22 => 24 | 23 => 54 | 25 => 93 | n => n, fun | n => n⟩
theorem layQC : SlLaysH0.n8 Try.prog layQC_ren := {
  mixed := by kernel_rfl
  f6 := ⟨Try.f93.name, by decide, Try.func93.trans (congrArg some (by kernel_rfl))⟩
  f8 := ⟨Try.f48.name, by decide, Try.func48.trans (congrArg some (by kernel_rfl))⟩
  t0 := Try.underlying0
  a0 := Try.isAgg0
  z0 := Try.sizeOf0
  v0 := Try.zeroValue0
  t3 := Try.underlying3
  a3 := Try.isAgg3
  z3 := Try.sizeOf3
  v3 := Try.zeroValue3
  t4 := Try.underlying4
  a4 := Try.isAgg4
  z4 := Try.sizeOf4
  v4 := Try.zeroValue4
  t22 := Try.underlying24
  a22 := Try.isAgg24
  z22 := Try.sizeOf24
  v22 := Try.zeroValue24
  t25 := Try.underlying93
  a25 := Try.isAgg93
  z25 := Try.sizeOf93
  v25 := Try.zeroValue93 }
set_option maxHeartbeats 4000000 in
theorem containsC (raws : List CRaw) (P : Nat → Prop) (W : World) (v : Value) (h : RowAt encC P W raws v) (hn : raws.length ≤ 4096) (p : Nat → Bool) (g : FuncId) (lb : Array Value) (eg : ∀ args w, (callFunc g args).run Try.prog w = .ok (.enter g args) w)
    (hp : ∀ (w : World) (i : Nat) (hi : i < raws.length), Below W.heap.size W w → Calls Try.prog g (#[.agg (encC raws[i]).toArray] ++ lb) w fun e w' => e = .returned (.bool (p i)) ∧ Below w.heap.size w w') :
    Calls Try.prog 48 #[v, .func (.func g) #[] lb] W fun e w' => e = .returned (.bool ((List.range raws.length).any p)) ∧ Below W.heap.size W w' := by
  obtain ⟨A, cap, b, rfl, hcap, h0, hA, hc⟩ := h
  obtain ⟨n, hnn⟩ : ∃ n, n = raws.length := ⟨_, rfl⟩
  rcases Nat.eq_zero_or_pos n with h9 | h9
  · subst h9
    rw [← hnn]
    clear hA hc h0 hp hcap hnn
    have HI : Calls Try.prog 93 #[.slice A (0 : Nat) cap, .func (.func g) #[] lb] W fun e w' => e = .returned (.int .i64 (-1)) ∧ w' = W := by
      go_enter Try.func93, Try.ntmps93
      go_upto_block 0 with fail
      go_wp2_with fail
      go_loopw [8] (fun i wr => i = .int .i64 0 ∧ wr = W) (fun _ _ => 0)
      case atStart => exact ⟨rfl, rfl⟩
      case round =>
        obtain ⟨rfl, rfl⟩ := hrel
        go_wp2_with fail
        go_ret
        exact ⟨rfl, rfl⟩
    go_enter Try.func48, Try.ntmps48
    go_wp2_with fail
    refine HI.mono ?_
    rintro e w' ⟨rfl, rfl⟩
    go_wp2_with fail
    go_ret
    exact ⟨rfl, Below.refl _ _⟩
  · obtain ⟨e, hb, _⟩ := hA (by omega)
    subst e
    letI : Inhabited (Fin raws.length) := ⟨⟨0, by omega⟩⟩
    have := AnyQ.slices_ContainsFunc layQC 3 Try.isAgg54 Try.sizeOf54 (fun i : Fin raws.length => encC raws[i.1]) (fun _ => rfl) (fun i => p i.1) g lb eg b 0 raws.length cap (List.finRange raws.length) W (fun w x hw => (hp w x.1 x.2 hw).mono fun e w' hh => ⟨hh.1, hw.trans (hh.2.mono hw.size)⟩) (by simp) (by omega) hb (fun j hj i u hu => by
      have hj2 : j < raws.length := by simpa using hj
      have h5 : (List.finRange raws.length)[j]! = ⟨j, hj2⟩ := by
        rw [getElem!_pos _ j hj]
        simp
      rw [h5] at hu
      rw [show 0 + j * 3 + i = j * 3 + i by omega]
      exact hc j hj2 i u hu)
    rw [any_fin] at this
    exact this
def layQM_ren : Go.Shelf.Ren := ⟨fun | 6 => 96 | 8 => 59 | n => n, fun | 0 => 0 | 3 => 3 | 4 => 4 | 22 => 23 | 23 => 49 | 25 => 104 | n => n, fun | n => n⟩
theorem layQM : SlLaysH0.n8 Try.prog layQM_ren := {
  mixed := by kernel_rfl
  f6 := ⟨Try.f96.name, by decide, Try.func96.trans (congrArg some (by kernel_rfl))⟩
  f8 := ⟨Try.f59.name, by decide, Try.func59.trans (congrArg some (by kernel_rfl))⟩
  t0 := Try.underlying0
  a0 := Try.isAgg0
  z0 := Try.sizeOf0
  v0 := Try.zeroValue0
  t3 := Try.underlying3
  a3 := Try.isAgg3
  z3 := Try.sizeOf3
  v3 := Try.zeroValue3
  t4 := Try.underlying4
  a4 := Try.isAgg4
  z4 := Try.sizeOf4
  v4 := Try.zeroValue4
  t22 := Try.underlying23
  a22 := Try.isAgg23
  z22 := Try.sizeOf23
  v22 := Try.zeroValue23
  t25 := Try.underlying104
  a25 := Try.isAgg104
  z25 := Try.sizeOf104
  v25 := Try.zeroValue104 }
set_option maxHeartbeats 4000000 in
theorem containsM (raws : List Mem) (P : Nat → Prop) (W : World) (v : Value) (h : RowAt encM P W raws v) (hn : raws.length ≤ 4096) (p : Nat → Bool) (g : FuncId) (lb : Array Value) (eg : ∀ args w, (callFunc g args).run Try.prog w = .ok (.enter g args) w)
    (hp : ∀ (w : World) (i : Nat) (hi : i < raws.length), Below W.heap.size W w → Calls Try.prog g (#[.agg (encM raws[i]).toArray] ++ lb) w fun e w' => e = .returned (.bool (p i)) ∧ Below w.heap.size w w') :
    Calls Try.prog 59 #[v, .func (.func g) #[] lb] W fun e w' => e = .returned (.bool ((List.range raws.length).any p)) ∧ Below W.heap.size W w' := by
  obtain ⟨A, cap, b, rfl, hcap, h0, hA, hc⟩ := h
  obtain ⟨n, hnn⟩ : ∃ n, n = raws.length := ⟨_, rfl⟩
  rcases Nat.eq_zero_or_pos n with h9 | h9
  · subst h9
    rw [← hnn]
    clear hA hc h0 hp hcap hnn
    have HI : Calls Try.prog 96 #[.slice A (0 : Nat) cap, .func (.func g) #[] lb] W fun e w' => e = .returned (.int .i64 (-1)) ∧ w' = W := by
      go_enter Try.func96, Try.ntmps96
      go_upto_block 0 with fail
      go_wp2_with fail
      go_loopw [8] (fun i wr => i = .int .i64 0 ∧ wr = W) (fun _ _ => 0)
      case atStart => exact ⟨rfl, rfl⟩
      case round =>
        obtain ⟨rfl, rfl⟩ := hrel
        go_wp2_with fail
        go_ret
        exact ⟨rfl, rfl⟩
    go_enter Try.func59, Try.ntmps59
    go_wp2_with fail
    refine HI.mono ?_
    rintro e w' ⟨rfl, rfl⟩
    go_wp2_with fail
    go_ret
    exact ⟨rfl, Below.refl _ _⟩
  · obtain ⟨e, hb, _⟩ := hA (by omega)
    subst e
    letI : Inhabited (Fin raws.length) := ⟨⟨0, by omega⟩⟩
    have := AnyQ.slices_ContainsFunc layQM 3 Try.isAgg49 Try.sizeOf49 (fun i : Fin raws.length => encM raws[i.1]) (fun _ => rfl) (fun i => p i.1) g lb eg b 0 raws.length cap (List.finRange raws.length) W (fun w x hw => (hp w x.1 x.2 hw).mono fun e w' hh => ⟨hh.1, hw.trans (hh.2.mono hw.size)⟩) (by simp) (by omega) hb (fun j hj i u hu => by
      have hj2 : j < raws.length := by simpa using hj
      have h5 : (List.finRange raws.length)[j]! = ⟨j, hj2⟩ := by
        rw [getElem!_pos _ j hj]
        simp
      rw [h5] at hu
      rw [show 0 + j * 3 + i = j * 3 + i by omega]
      exact hc j hj2 i u hu)
    rw [any_fin] at this
    exact this
end Go.Proofs.Ytnmhgjoofgmcgaa.Rl
