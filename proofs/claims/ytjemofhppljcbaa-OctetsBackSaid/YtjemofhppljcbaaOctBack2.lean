/-
  An item is what is read next.
-/
import Derived.Test.YtjemofhppljcbaaOctBack
import Derived.Test.YtjemofhppljcbaaOctRefIn3
namespace Go.Proofs.Ytjemofhppljcbaa.Oct
open Go.RowKit

/-- What back leaves: true; the reader stands behind the item. -/
def Back (w : World) (g : Nat) (R : List UInt8) (e : Ending) (w' : World) : Prop := e = .returned (.bool true) ∧ At 79 w' g (.ok R) ∧ Sep g w.heap.size w w'

theorem sep_behind {g : Nat} {w w1 w2 : World} (hb : Below w.heap.size w w1) (hs : Sep g w1.heap.size w1 w2) : Sep g w.heap.size w w2 :=
  (Sep.of_below hb).trans ⟨hs.os, hs.tape, hs.output, hs.size, fun i hi hg => hs.block i (Nat.lt_of_lt_of_le hi hb.size) hg⟩
theorem Nums.apart {w w' : World} {g : Nat} {a : Option Addr} {len : Nat} {zs : List Int} (h : Nums w a len zs) (hs : Sep g w.heap.size w w') (hi : 0 < len → ∀ b off, a = some ⟨b, off, none⟩ → b ≠ g) : Nums w' a len zs :=
  ⟨h.1, fun hl => by
    obtain ⟨b, off, ha, hlt, hc⟩ := h.2 hl
    exact ⟨b, off, ha, Nat.lt_of_lt_of_le hlt hs.size, fun i hi2 => (World.cell?_of_block (w := w) (a := ⟨b, off + i, none⟩) (hs.block b hlt (hi hl b off ha))).trans (hc i hi2)⟩⟩
theorem Strs.apart {w w' : World} {g : Nat} {a : Option Addr} {len : Nat} {zs : List ByteArray} (h : Strs w a len zs) (hs : Sep g w.heap.size w w') (hi : 0 < len → ∀ b off, a = some ⟨b, off, none⟩ → b ≠ g) : Strs w' a len zs :=
  ⟨h.1, fun hl => by
    obtain ⟨b, off, ha, hlt, hc⟩ := h.2 hl
    exact ⟨b, off, ha, Nat.lt_of_lt_of_le hlt hs.size, fun i hi2 => (World.cell?_of_block (w := w) (a := ⟨b, off + i, none⟩) (hs.block b hlt (hi hl b off ha))).trans (hc i hi2)⟩⟩

set_option maxRecDepth 100000 in
set_option maxHeartbeats 2000000 in
theorem back_any (g : Nat) (k n : Int) (b : Bool) (t : ByteArray) (ia sa : Option Addr) (il ic sl sc : Nat) (zs : List Int) (ss : List ByteArray) (e R : List UInt8) (w : World) (ha : At 79 w g (.ok (e ++ R))) (hn : Nums w ia il zs) (hs : Strs w sa sl ss) (he : eItem k n b t zs ss = some e) (hnl : ¬ isLarge t il ss)
    (hi : 0 < il → ∀ b off, ia = some ⟨b, off, none⟩ → b ≠ g) (hi2 : 0 < sl → ∀ b off, sa = some ⟨b, off, none⟩ → b ≠ g) :
    Calls Try.prog 19 #[.pointer (some ⟨g, 0, none⟩), .agg #[.int .i64 k, .int .i64 n, .bool b, .string t, .slice ia il ic, .slice sa sl sc]] w (Back w g R) := by
  have hgw := ha.lt
  have HA := Lib.hid ha
  have HN := Lib.hid hn
  have HS := Lib.hid hs
  have HI := Lib.hid hi
  have HI2 := Lib.hid hi2
  have hl1 := hn.1
  have hl2 := hs.1
  have hlarge : il ≤ 200 ∧ ss.length ≤ 200 := ⟨by
      rcases Nat.lt_or_ge 200 il with h | h
      · exact absurd (.inr (.inl h)) hnl
      · exact h, by
      rcases Nat.lt_or_ge 200 ss.length with h | h
      · exact absurd (.inr (.inr (.inl h))) hnl
      · exact h⟩
  obtain ⟨hil, hsl⟩ := hlarge
  have HL1 := Lib.hid hl1
  have HL2 := Lib.hid hl2
  clear ha hn hs hi hi2 hnl
  obtain ⟨b1, b2⟩ := kindOf_bd k
  unfold eItem at he
  have hk : kindOf k = 0 ∨ kindOf k = 1 ∨ kindOf k = 2 ∨ kindOf k = 3 ∨ kindOf k = 4 := by omega
  have HK : Hid (∀ W : World, Calls Try.prog 16 #[.agg #[.int .i64 k, .int .i64 n, .bool b, .string t, .slice ia il ic, .slice sa sl sc]] W fun e w' => e = .returned (.int .i64 (kindOf k)) ∧ Below W.heap.size W w') := fun W => kind_any k n b t _ _ W
  generalize kindOf k = kd at *
  clear b1 b2
  rcases hk with rfl | rfl | rfl | rfl | rfl
  · rw [if_pos rfl] at he
    obtain ⟨hr, hp⟩ := eInt_some he
    have hrd : rInt (.ok (e ++ R)) = (n, .ok R) := by rw [hp]; exact rInt_of n R hr
    clear hr hp
    have HRD := Lib.hid hrd
    clear he hrd
    go_enter Try.func19, Try.ntmps19
    go_wp2_with fail
    refine (HK.out _).mono ?_
    rintro e1 w1 ⟨rfl, k1⟩
    have hbox : w1.heap[w.heap.size]? = some (.cells #[.int .i64 k, .int .i64 n, .bool b, .string t, .slice ia il ic, .slice sa sl sc] 39 (0, 0)) := (k1.block _ (by simp)).trans (heap_alloc_new w _)
    have B1 := Lib.hid (((Below.refl w.heap.size w).alloc (Nat.le_refl _) (.cells #[.int .i64 k, .int .i64 n, .bool b, .string t, .slice ia il ic, .slice sa sl sc] 39)).trans (k1.mono (by simp)))
    have c1 : w1.cell? ⟨w.heap.size, 1, none⟩ = some (.int .i64 n) := cell_of_row _ _ 1 _ _ _ hbox
    have HBX := Lib.hid hbox
    clear k1 hbox
    go_wp2_with fail
    have HA1 := Lib.hid ((HA.out.below B1.out).block (w' := w1.drew) rfl)
    go_region_held3 (fun W' => W'.cell? ⟨w.heap.size, 1, none⟩ = some (.int .i64 n)) (first | go_keep | assumption)
      (first
        | (go_at_call 22; refine (int_in_any g _ _ HA1.out).mono ?_; rw [HRD.out]; rintro e2 w2 ⟨rfl, k2, k3⟩; have c1' : w2.cell? ⟨w.heap.size, 1, none⟩ = some (.int .i64 n) := (World.cell?_of_block (w := w1) (a := ⟨w.heap.size, 1, none⟩) (k3.block w.heap.size (heap_lt HBX.out) (by omega))).trans c1; have K2 := Lib.hid k2; have K3 := Lib.hid k3; clear k2 k3))
    go_wp2
    go_ret
    exact ⟨rfl, K2.out, sep_behind (w1 := w1.drew) B1.out.drew K3.out⟩
  · rw [if_neg (by decide), if_pos rfl] at he
    have hrd : rBool (.ok (e ++ R)) = (b, .ok R) := by
      unfold eBool at he
      injection he with he
      subst he
      exact rBool_of b R
    have HRD := Lib.hid hrd
    clear he hrd
    have hbb : (b == b) = true := by simp
    go_enter Try.func19, Try.ntmps19
    go_wp2_with fail
    refine (HK.out _).mono ?_
    rintro e1 w1 ⟨rfl, k1⟩
    have hbox : w1.heap[w.heap.size]? = some (.cells #[.int .i64 k, .int .i64 n, .bool b, .string t, .slice ia il ic, .slice sa sl sc] 39 (0, 0)) := (k1.block _ (by simp)).trans (heap_alloc_new w _)
    have B1 := Lib.hid (((Below.refl w.heap.size w).alloc (Nat.le_refl _) (.cells #[.int .i64 k, .int .i64 n, .bool b, .string t, .slice ia il ic, .slice sa sl sc] 39)).trans (k1.mono (by simp)))
    have c1 : w1.cell? ⟨w.heap.size, 2, none⟩ = some (.bool b) := cell_of_row _ _ 2 _ _ _ hbox
    have HBX := Lib.hid hbox
    clear k1 hbox
    go_wp2_with fail
    have HA1 := Lib.hid ((HA.out.below B1.out).block (w' := w1.drew) rfl)
    go_region_held3 (fun W' => W'.cell? ⟨w.heap.size, 2, none⟩ = some (.bool b)) (first | go_keep | assumption)
      (first
        | (go_at_call 24; refine (bool_in_any g _ _ HA1.out).mono ?_; rw [HRD.out]; rintro e2 w2 ⟨rfl, k2, k3⟩; have c1' : w2.cell? ⟨w.heap.size, 2, none⟩ = some (.bool b) := (World.cell?_of_block (w := w1) (a := ⟨w.heap.size, 2, none⟩) (k3.block w.heap.size (heap_lt HBX.out) (by omega))).trans c1; have K2 := Lib.hid k2; have K3 := Lib.hid k3; clear k2 k3))
    go_wp2
    go_ret
    exact ⟨rfl, K2.out, sep_behind (w1 := w1.drew) B1.out.drew K3.out⟩
  · rw [if_neg (by decide), if_neg (by decide), if_pos rfl] at he
    have hrd : rText (.ok (e ++ R)) = (bs t, .ok R) := rText_of (bs t) e R he
    have HRD := Lib.hid hrd
    clear he hrd
    have hss : (t.toList == t.toList) = true := by simp
    go_enter Try.func19, Try.ntmps19
    go_wp2_with fail
    refine (HK.out _).mono ?_
    rintro e1 w1 ⟨rfl, k1⟩
    have hbox : w1.heap[w.heap.size]? = some (.cells #[.int .i64 k, .int .i64 n, .bool b, .string t, .slice ia il ic, .slice sa sl sc] 39 (0, 0)) := (k1.block _ (by simp)).trans (heap_alloc_new w _)
    have B1 := Lib.hid (((Below.refl w.heap.size w).alloc (Nat.le_refl _) (.cells #[.int .i64 k, .int .i64 n, .bool b, .string t, .slice ia il ic, .slice sa sl sc] 39)).trans (k1.mono (by simp)))
    have c1 : w1.cell? ⟨w.heap.size, 3, none⟩ = some (.string t) := cell_of_row _ _ 3 _ _ _ hbox
    have HBX := Lib.hid hbox
    clear k1 hbox
    go_wp2_with fail
    have HA1 := Lib.hid ((HA.out.below B1.out).block (w' := w1.drew) rfl)
    go_region_held3 (fun W' => W'.cell? ⟨w.heap.size, 3, none⟩ = some (.string t)) (first | go_keep | assumption)
      (first
        | (go_at_call 26; refine (text_in_any g _ _ HA1.out).mono ?_; rw [HRD.out]; rintro e2 w2 ⟨rfl, k2, k3⟩; have c1' : w2.cell? ⟨w.heap.size, 3, none⟩ = some (.string t) := (World.cell?_of_block (w := w1) (a := ⟨w.heap.size, 3, none⟩) (k3.block w.heap.size (heap_lt HBX.out) (by omega))).trans c1; have K2 := Lib.hid k2; have K3 := Lib.hid k3; clear k2 k3))
    go_wp2
    go_ret
    exact ⟨rfl, K2.out, sep_behind (w1 := w1.drew) B1.out.drew K3.out⟩
  · rw [if_neg (by decide), if_neg (by decide), if_neg (by decide), if_pos rfl] at he
    have hrd : rInts 200 (.ok (e ++ R)) = (zs, .ok R) := rInts_of zs e R he 200 (by omega)
    have HRD := Lib.hid hrd
    clear he hrd
    have GI : Hid (∀ W, At 79 W g (.ok (e ++ R)) → Calls Try.prog 29 #[.pointer (some ⟨g, 0, none⟩), .int .i64 200] W fun e w' => ∃ A cap, e = .returned (.slice A il cap) ∧ w'.ownsRow W.heap.size 3 1 (.slice A il cap) il (zs.map (Value.int .i64)) ∧ At 79 w' g (.ok R) ∧ Sep g W.heap.size W w') := fun W hW => by
      have h9 := ints_in_any g 200 _ W hW
      rw [HRD.out] at h9
      obtain ⟨hh⟩ : Nonempty True := ⟨trivial⟩
      refine h9.mono fun e9 w9 ⟨A, cap, q1, q2, q3, q4⟩ => ⟨A, cap, ?_, ?_, q3, q4⟩
      · rw [q1]; rw [HL1.out]
      · rw [HL1.out] at q2; exact q2
    go_enter Try.func19, Try.ntmps19
    go_wp2_with fail
    refine (HK.out _).mono ?_
    rintro e1 w1 ⟨rfl, k1⟩
    have hbox : w1.heap[w.heap.size]? = some (.cells #[.int .i64 k, .int .i64 n, .bool b, .string t, .slice ia il ic, .slice sa sl sc] 39 (0, 0)) := (k1.block _ (by simp)).trans (heap_alloc_new w _)
    have B1 := Lib.hid (((Below.refl w.heap.size w).alloc (Nat.le_refl _) (.cells #[.int .i64 k, .int .i64 n, .bool b, .string t, .slice ia il ic, .slice sa sl sc] 39)).trans (k1.mono (by simp)))
    have c1 : w1.cell? ⟨w.heap.size, 4, none⟩ = some (.slice ia il ic) := cell_of_row _ _ 4 _ _ _ hbox
    have HBX := Lib.hid hbox
    clear k1 hbox
    go_wp2_with fail
    refine (GI.out _ (HA.out.below B1.out)).mono ?_
    rintro e2 w2 ⟨A, capA, rfl, q2, q3, q4⟩
    have c2 : w2.cell? ⟨w.heap.size, 4, none⟩ = some (.slice ia il ic) := (World.cell?_of_block (w := w1) (a := ⟨w.heap.size, 4, none⟩) (q4.block w.heap.size (heap_lt HBX.out) (by omega))).trans c1
    have HM := Lib.hid (own_nums q2 HL1.out)
    have HX := Lib.hid ((HN.out.below B1.out).apart q4 HI.out)
    have K2 := Lib.hid q3
    have K3 := Lib.hid q4
    clear q2 q3 q4
    go_wp2_with fail
    go_loopw [6] (fun i wq => ∃ j : Nat, j ≤ il ∧ i = .int .i64 j ∧ ∃ nn, wq = w2.drewN nn) (fun i _ => il - (intOf i).toNat)
    case atStart => exact ⟨0, by omega, rfl, 0, rfl⟩
    case round =>
      obtain ⟨j, hj, rfl, nn, rfl⟩ := hrel
      by_cases hlt : (j : Int) < il
      · obtain ⟨p, po, rfl, hp, hpc⟩ := HM.out.2 (by omega)
        obtain ⟨p', po', rfl, hp', hpc'⟩ := HX.out.2 (by omega)
        have d1 := hpc j (by omega)
        have d2 := hpc' j (by omega)
        obtain ⟨z, hz⟩ : ∃ z, z = zs.getD j 0 := ⟨_, rfl⟩
        rw [← hz] at d1 d2
        clear hz hpc hpc'
        go_wp2
        go_quiet (fail)
        go_wp2
        refine ⟨⟨j + 1, by omega, by go_num, ?_⟩, by simp [intOf]; omega⟩
        exact ⟨_, rfl⟩
      · have hjl : j = il := by omega
        subst hjl
        go_wp2
        go_ret
        refine ⟨rfl, K2.out.block rfl, ?_⟩
        exact (sep_behind B1.out K3.out).trans ⟨rfl, rfl, rfl, Nat.le_refl _, fun _ _ _ => rfl⟩
  · rw [if_neg (by decide), if_neg (by decide), if_neg (by decide), if_neg (by decide)] at he
    have hrd : rTexts 200 (.ok (e ++ R)) = (ss.map bs, .ok R) := rTexts_of ss e R he 200 (by omega)
    have HRD := Lib.hid hrd
    clear he hrd
    have GI : Hid (∀ W, At 79 W g (.ok (e ++ R)) → Calls Try.prog 31 #[.pointer (some ⟨g, 0, none⟩), .int .i64 200] W fun e w' => ∃ A cap, e = .returned (.slice A sl cap) ∧ w'.ownsRow W.heap.size 9 1 (.slice A sl cap) sl ((ss.map bs).map strV) ∧ At 79 w' g (.ok R) ∧ Sep g W.heap.size W w') := fun W hW => by
      have h9 := texts_in_any g 200 _ W hW
      rw [HRD.out] at h9
      obtain ⟨hh⟩ : Nonempty True := ⟨trivial⟩
      refine h9.mono fun e9 w9 ⟨A, cap, q1, q2, q3, q4⟩ => ⟨A, cap, ?_, ?_, q3, q4⟩
      · rw [q1]; simp only [List.length_map]; rw [HL2.out]
      · simp only [List.length_map] at q2; rw [HL2.out] at q2; exact q2
    go_enter Try.func19, Try.ntmps19
    go_wp2_with fail
    refine (HK.out _).mono ?_
    rintro e1 w1 ⟨rfl, k1⟩
    have hbox : w1.heap[w.heap.size]? = some (.cells #[.int .i64 k, .int .i64 n, .bool b, .string t, .slice ia il ic, .slice sa sl sc] 39 (0, 0)) := (k1.block _ (by simp)).trans (heap_alloc_new w _)
    have B1 := Lib.hid (((Below.refl w.heap.size w).alloc (Nat.le_refl _) (.cells #[.int .i64 k, .int .i64 n, .bool b, .string t, .slice ia il ic, .slice sa sl sc] 39)).trans (k1.mono (by simp)))
    have c1 : w1.cell? ⟨w.heap.size, 5, none⟩ = some (.slice sa sl sc) := cell_of_row _ _ 5 _ _ _ hbox
    have HBX := Lib.hid hbox
    clear k1 hbox
    go_wp2_with fail
    refine (GI.out _ (HA.out.below B1.out)).mono ?_
    rintro e2 w2 ⟨A, capA, rfl, q2, q3, q4⟩
    have c2 : w2.cell? ⟨w.heap.size, 5, none⟩ = some (.slice sa sl sc) := (World.cell?_of_block (w := w1) (a := ⟨w.heap.size, 5, none⟩) (q4.block w.heap.size (heap_lt HBX.out) (by omega))).trans c1
    have HM := Lib.hid (own_strs q2 (by rw [List.length_map]; exact HL2.out))
    have HX := Lib.hid ((HS.out.below B1.out).apart q4 HI2.out)
    have K2 := Lib.hid q3
    have K3 := Lib.hid q4
    clear q2 q3 q4
    go_wp2_with fail
    go_loopw [8] (fun i wq => ∃ j : Nat, j ≤ sl ∧ i = .int .i64 j ∧ ∃ nn, wq = w2.drewN nn) (fun i _ => sl - (intOf i).toNat)
    case atStart => exact ⟨0, by omega, rfl, 0, rfl⟩
    case round =>
      obtain ⟨j, hj, rfl, nn, rfl⟩ := hrel
      by_cases hlt : (j : Int) < sl
      · obtain ⟨p, po, rfl, hp, hpc⟩ := HM.out.2 (by omega)
        obtain ⟨p', po', rfl, hp', hpc'⟩ := HX.out.2 (by omega)
        have d1 := hpc j (by omega)
        have d2 := hpc' j (by omega)
        obtain ⟨z, hz⟩ : ∃ z, z = ss.getD j ByteArray.empty := ⟨_, rfl⟩
        have hmm : ((ss.map bs).map fun l => (⟨l.toArray⟩ : ByteArray)) = ss := by
          rw [List.map_map]
          exact List.map_id'' (fun s => by rfl) ss
        rw [hmm] at d1
        rw [← hz] at d1 d2
        have hss : (z.toList == z.toList) = true := by simp
        clear hmm
        clear hz hpc hpc'
        go_wp2
        go_quiet (fail)
        go_wp2
        refine ⟨⟨j + 1, by omega, by go_num, ?_⟩, by simp [intOf]; omega⟩
        exact ⟨_, rfl⟩
      · have hjl : j = sl := by omega
        subst hjl
        go_wp2
        go_ret
        refine ⟨rfl, K2.out.block rfl, ?_⟩
        exact (sep_behind B1.out K3.out).trans ⟨rfl, rfl, rfl, Nat.le_refl _, fun _ _ _ => rfl⟩

end Go.Proofs.Ytjemofhppljcbaa.Oct
