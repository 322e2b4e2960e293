/-
  Layer 23: the document's body: its walk.
-/
import Derived.Test.YtfeelmblnkpfdaaDoorMsDb
import Derived.Test.YtfeelmblnkpfdaaDoorMsDa
import Derived.Test.YtfeelmblnkpfdaaDoorMsDg
import Derived.Test.YtfeelmblnkpfdaaDoorLexT
import Derived.Test.YtfeelmblnkpfdaaDoorLooseD
import Derived.Deep.CutRange
namespace Go.Proofs.YtfeelmblnkpfdaaDoor.Ms
open Oct (pb bs rng)
open Go.RowKit
set_option maxRecDepth 100000
set_option linter.unusedSimpArgs false
set_option linter.unusedVariables false

theorem le_cat {a b t : List UInt8} {n : Nat} (h : a ++ b = t) (ht : t.length ≤ n) : a.length ≤ n := by rw [← h, List.length_append] at ht; omega
set_option maxHeartbeats 64000000 in
theorem rbody_any (m : Msg) (r : Int) (hgd : goodM m r = true) (v : Value) (w : World) (hv : MsgAt w m v) : Calls Tryd.prog 35 #[v] w (fun e w' => e = .returned (.string (mkB (bodyM m))) ∧ Below w.heap.size w w') := by
  have hg := good_of hgd
  obtain ⟨a, cap, b, cap2, rfl, hi, he⟩ := hv
  have hfs := fields_size m
  obtain ⟨f, hf⟩ : ∃ f, f = fieldsM m := ⟨_, rfl⟩
  rw [← hf] at hfs
  obtain ⟨AG, hAG⟩ : ∃ v, v = Value.agg (cellsM m a cap b cap2) := ⟨_, rfl⟩
  have HFF := Lib.hid (fun (w : World) => show Calls Tryd.prog 16 #[AG] w (fun e w' => e = .returned (.string f) ∧ Below w.heap.size w w') by rw [hAG, hf]; exact fields_any m a cap b cap2 w hg.k1 hg.k12)
  have htl := body_len hg
  have hbe := body_eq m r hg
  obtain ⟨TT, hTT⟩ : ∃ t, t = bodyM m := ⟨_, rfl⟩
  have hp : preD m ++ ((bs f).map fun c => encC m (c.toNat : Int)).flatten = TT := by rw [hTT, ← hbe, hf]; rfl
  rw [← hTT] at htl ⊢
  have he1 : m.kind = 2 → 0 < m.ents.length := fun h => by
    have := hg.size
    unfold sizeM at this
    rw [if_pos h] at this
    omega
  have hen := hg.en
  have hej := Lib.hid hg.ej
  have h1 := Nat.le_trans hg.kn (show 7 ≤ 1000 by decide)
  have ht8 := hg.text
  have hs8 := hg.state
  have hf101 : ∀ k (h : k < (bs f).length), ((bs f)[k].toNat : Int) = 101 → m.kind = 2 := fun k h hc => by
    have hh : hasL (bs f) 101 = true := by unfold hasL; rw [List.any_eq_true]; exact ⟨_, List.getElem_mem h, by simpa using hc⟩
    rw [hf] at hh
    unfold fieldsM at hh
    split at hh
    · exact absurd hh (by decide)
    · rename_i hno
      have := hg.k1
      have := hg.k12
      have hk : m.kind = 1 ∨ m.kind = 2 ∨ m.kind = 3 ∨ m.kind = 4 ∨ m.kind = 5 ∨ m.kind = 6 ∨ m.kind = 7 ∨ m.kind = 8 ∨ m.kind = 9 ∨ m.kind = 10 ∨ m.kind = 11 ∨ m.kind = 12 := by omega
      rcases hk with h | h | h | h | h | h | h | h | h | h | h | h <;> rw [h] at hh ⊢ <;> first | rfl | exact absurd hh (by decide)
  obtain ⟨n, hn⟩ : ∃ n, n = m.known.length := ⟨_, rfl⟩
  obtain ⟨nn, hnn⟩ : ∃ n, n = m.ents.length := ⟨_, rfl⟩
  obtain ⟨E, hE⟩ : ∃ E, E = encC m := ⟨_, rfl⟩
  rw [← hE] at hp
  rw [← hn] at hi h1
  rw [← hnn] at he hen he1
  unfold cellsM at hAG
  rw [← hn, ← hnn] at hAG
  unfold cellsM
  rw [← hn, ← hnn]
  have hk1 := hg.k1
  clear hgd hg hbe hTT hf
  obtain ⟨kind, frm, born, known, view, last, op, commit, client, number, nonce, text, full, base, state, ents⟩ := m
  dsimp only at *
  obtain ⟨PR, hPR⟩ : ∃ p, p = preD ⟨kind, frm, born, known, view, last, op, commit, client, number, nonce, text, full, base, state, ents⟩ := ⟨_, rfl⟩
  rw [← hPR] at hp
  unfold preD at hPR
  dsimp only at hPR
  have HPR := Lib.hid hPR
  have HE9 := Lib.hid hE
  have HPT := Lib.hid hp
  have HTL := Lib.hid htl
  obtain ⟨V, hV⟩ : ∃ V, V = w.alloc (.cells #[.int .i64 kind, .int .i64 frm, .int .i64 born, .slice a n cap, .int .i64 view, .int .i64 last, .int .i64 op, .int .i64 commit, .int .i64 client, .int .i64 number, .int .i64 nonce, .string text, .bool full, .int .i64 base, .string state, .slice b nn cap2] 34) := ⟨_, rfl⟩
  have hb : Below w.heap.size w V := by rw [hV]; exact (Below.refl _ w).alloc (Nat.le_refl _) _
  have hx : V.heap[w.heap.size]? = some (.cells #[.int .i64 kind, .int .i64 frm, .int .i64 born, .slice a n cap, .int .i64 view, .int .i64 last, .int .i64 op, .int .i64 commit, .int .i64 client, .int .i64 number, .int .i64 nonce, .string text, .bool full, .int .i64 base, .string state, .slice b nn cap2] 34 (0, 0)) := by rw [hV]; exact heap_alloc_new w _
  obtain ⟨p, hp⟩ : ∃ p, p = w.heap.size := ⟨_, rfl⟩
  rw [← hp] at hx
  have HLD := Lib.hid (fun (w' : World) (h : w'.heap[p]? = some (.cells #[.int .i64 kind, .int .i64 frm, .int .i64 born, .slice a n cap, .int .i64 view, .int .i64 last, .int .i64 op, .int .i64 commit, .int .i64 client, .int .i64 number, .int .i64 nonce, .string text, .bool full, .int .i64 base, .string state, .slice b nn cap2] 34 (0, 0))) => show (loadVar 34 ⟨p, 0, none⟩).run Tryd.prog w' = .ok AG w' by
    rw [hAG]; exact run_loadVar_row w' _ _ 34 _ _ _ h Tryd.underlying34 rfl (by kernel_rfl))
  have HX := Lib.hid hx
  have HV := Lib.hid hV
  have HB := Lib.hid hb
  have HP := Lib.hid hp
  have HI := Lib.hid (hi.under hb)
  have HE := Lib.hid (he.under hb)
  have HN := Lib.hid hn
  have HNN := Lib.hid hnn
  have HCX := Lib.hid (fun (w' : World) (bw : Below V.heap.size V w') => show w'.cell? ⟨p, 0, none⟩ = some (.int .i64 kind) ∧ w'.cell? ⟨p, 1, none⟩ = some (.int .i64 frm) ∧ w'.cell? ⟨p, 2, none⟩ = some (.int .i64 born) ∧ w'.cell? ⟨p, 3, none⟩ = some (.slice a n cap) ∧ w'.cell? ⟨p, 4, none⟩ = some (.int .i64 view) ∧ w'.cell? ⟨p, 5, none⟩ = some (.int .i64 last) ∧ w'.cell? ⟨p, 6, none⟩ = some (.int .i64 op) ∧ w'.cell? ⟨p, 7, none⟩ = some (.int .i64 commit) ∧ w'.cell? ⟨p, 8, none⟩ = some (.int .i64 client) ∧ w'.cell? ⟨p, 9, none⟩ = some (.int .i64 number) ∧ w'.cell? ⟨p, 10, none⟩ = some (.int .i64 nonce) ∧ w'.cell? ⟨p, 11, none⟩ = some (.string text) ∧ w'.cell? ⟨p, 12, none⟩ = some (.bool full) ∧ w'.cell? ⟨p, 13, none⟩ = some (.int .i64 base) ∧ w'.cell? ⟨p, 14, none⟩ = some (.string state) ∧ w'.cell? ⟨p, 15, none⟩ = some (.slice b nn cap2) from by
    have h := (bw.block _ (Gn.heap_lt hx)).trans hx
    exact ⟨cell_of_row _ _ 0 _ _ (0, 0) h, cell_of_row _ _ 1 _ _ (0, 0) h, cell_of_row _ _ 2 _ _ (0, 0) h, cell_of_row _ _ 3 _ _ (0, 0) h, cell_of_row _ _ 4 _ _ (0, 0) h, cell_of_row _ _ 5 _ _ (0, 0) h, cell_of_row _ _ 6 _ _ (0, 0) h, cell_of_row _ _ 7 _ _ (0, 0) h, cell_of_row _ _ 8 _ _ (0, 0) h, cell_of_row _ _ 9 _ _ (0, 0) h, cell_of_row _ _ 10 _ _ (0, 0) h, cell_of_row _ _ 11 _ _ (0, 0) h, cell_of_row _ _ 12 _ _ (0, 0) h, cell_of_row _ _ 13 _ _ (0, 0) h, cell_of_row _ _ 14 _ _ (0, 0) h, cell_of_row _ _ 15 _ _ (0, 0) h⟩)
  have HBR := Lib.hid (Below.refl V.heap.size V)
  have HE1 := Lib.hid he1
  have HF1 := Lib.hid hf101
  have HEJ := hej
  have HFS := Lib.hid hfs
  clear hAG hi he hn hnn hV hb hx hp hE hPR htl he1 hf101 hej hfs
  obtain ⟨S0, hS0⟩ : ∃ s, s = mkB (pb kind) := ⟨_, rfl⟩
  have HS0 := Lib.hid hS0
  have HP0 := Lib.hid (fun (w : World) => show Calls Tryd.prog 47 #[.int .i64 kind] w (fun e w' => e = .returned (.string S0) ∧ Below w.heap.size w w') by rw [hS0]; exact rput_mk _ w)
  clear hS0
  go_enter Tryd.func35, Tryd.ntmps35
  go_upto_region 1 with fail
  rw [← HV.out, ← HP.out]
  clear HV
  obtain ⟨x0, -, -, -, -, -, -, -, -, -, -, -, -, -, -, -⟩ := HCX.out _ HBR.out
  go_wp2_with fail
  refine (HP0.out _).mono ?_
  rintro e w1 ⟨rfl, b⟩
  have HBR := Lib.hid (HBR.out.trans (b.mono HBR.out.size))
  clear b x0
  obtain ⟨PS, hPS⟩ : ∃ s, s = mkB PR := ⟨_, rfl⟩
  have HPS := Lib.hid hPS
  clear hPS
  have HB1W := Lib.hid (Below.refl w1.heap.size w1)
  obtain ⟨x0, -, -, -, -, -, -, -, -, -, -, -, -, -, -, -⟩ := HCX.out _ HBR.out
  go_upto_if 13 with fail
  go_cut [3] from 11 to 37 (fun sv wx => sv = .string PS ∧ Below w1.heap.size w1 wx)
  case first =>
    by_cases k1 : 1 < kind
    · rw [decide_eq_true k1]
      obtain ⟨sf, hsf⟩ : ∃ s, s = mkB (pb frm) := ⟨_, rfl⟩
      obtain ⟨sb, hsb⟩ : ∃ s, s = mkB (pb born) := ⟨_, rfl⟩
      obtain ⟨sfb, hsfb⟩ : ∃ s, s = mkB (pb frm ++ pb born) := ⟨_, rfl⟩
      obtain ⟨S1, hS1⟩ : ∃ s, s = mkB (pb kind ++ (pb frm ++ pb born)) := ⟨_, rfl⟩
      have cc1 : sf ++ sb = sfb := by rw [hsf, hsb, hsfb, mkB_cat]
      have cc2 : S0 ++ sfb = S1 := by rw [HS0.out, hsfb, hS1, mkB_cat]
      have l0 : S0.size ≤ 8 := by rw [HS0.out, mkB_size]; exact Oct.pb_len _
      have l1 : sf.size ≤ 8 := by rw [hsf, mkB_size]; exact Oct.pb_len _
      have l2 : sb.size ≤ 8 := by rw [hsb, mkB_size]; exact Oct.pb_len _
      have l3 : sfb.size ≤ 16 := by
        have h0 := Oct.pb_len frm
        have h1 := Oct.pb_len born
        rw [hsfb, mkB_size, List.length_append]; omega
      have zz1 : ¬ 9223372036854775807 < sf.size + sb.size := by omega
      have zz2 : ¬ 9223372036854775807 < S0.size + sfb.size := by omega
      have HPF := Lib.hid (fun (w : World) => show Calls Tryd.prog 47 #[.int .i64 frm] w (fun e w' => e = .returned (.string sf) ∧ Below w.heap.size w w') by rw [hsf]; exact rput_mk _ w)
      have HPB := Lib.hid (fun (w : World) => show Calls Tryd.prog 47 #[.int .i64 born] w (fun e w' => e = .returned (.string sb) ∧ Below w.heap.size w w') by rw [hsb]; exact rput_mk _ w)
      have HS1 := Lib.hid hS1
      have k1' := k1
      clear hsf hsb hsfb hS1 l0 l1 l2 l3
      go_upto_region 3 with fail
      have HCY := Lib.hid (fun (w' : World) (bw : Below w1.heap.size w1 w') => HCX.out w' (HBR.out.trans (bw.mono HBR.out.size)))
      refine LooseD.region_loose (fun w9 => Below w1.heap.size w1 w9) _ _ (by kernel_rfl) (by kernel_rfl)
        (LooseD.waits (D := [[], [], [], [], [], [], [], [], [], []]) (by kernel_rfl))
        (LooseD.stays (ts := [none, none, none, some (.is (.string sf)), none, none, some (.is (.string sb)), none, none, none]) (fun w w' h b => h.trans (b.mono h.size)) (.none (.none (.none (.is (.none (.none (.is (.none (.none (.none .nil)))))))))))
        (Gn.below_drew (Below.refl _ _)) ?_
      refine LooseD.reads (.string S0) rfl rfl ?_ ?_
      · intro w9 hw
        clear hw
        go_simp
      try simp only [Act.put, List.setIfInBounds_toArray, List.set_cons_zero, List.set_cons_succ]
      refine LooseD.reads (.pointer (some ⟨p, 1, none⟩)) rfl rfl ?_ ?_
      · intro w9 hw
        clear hw
        go_simp
      try simp only [Act.put, List.setIfInBounds_toArray, List.set_cons_zero, List.set_cons_succ]
      refine LooseD.reads (.int .i64 frm) rfl rfl ?_ ?_
      · intro w9 hw
        obtain ⟨-, g1, -, -, -, -, -, -, -, -, -, -, -, -, -, -⟩ := HCY.out w9 hw
        clear hw
        go_simp
      try simp only [Act.put, List.setIfInBounds_toArray, List.set_cons_zero, List.set_cons_succ]
      refine LooseD.gives (.string sf) 47 #[.int .i64 frm] rfl rfl ?_ (fun w9 hw hH => HPF.out w9) ?_
      · intro w9 hw
        clear hw
        go_simp
      try simp only [Act.put, List.setIfInBounds_toArray, List.set_cons_zero, List.set_cons_succ]
      refine LooseD.reads (.pointer (some ⟨p, 2, none⟩)) rfl rfl ?_ ?_
      · intro w9 hw
        clear hw
        go_simp
      try simp only [Act.put, List.setIfInBounds_toArray, List.set_cons_zero, List.set_cons_succ]
      refine LooseD.reads (.int .i64 born) rfl rfl ?_ ?_
      · intro w9 hw
        obtain ⟨-, -, g2, -, -, -, -, -, -, -, -, -, -, -, -, -⟩ := HCY.out w9 hw
        clear hw
        go_simp
      try simp only [Act.put, List.setIfInBounds_toArray, List.set_cons_zero, List.set_cons_succ]
      refine LooseD.gives (.string sb) 47 #[.int .i64 born] rfl rfl ?_ (fun w9 hw hH => HPB.out w9) ?_
      · intro w9 hw
        clear hw
        go_simp
      try simp only [Act.put, List.setIfInBounds_toArray, List.set_cons_zero, List.set_cons_succ]
      refine LooseD.reads (.string sfb) rfl rfl ?_ ?_
      · intro w9 hw
        clear hw
        go_simp
      try simp only [Act.put, List.setIfInBounds_toArray, List.set_cons_zero, List.set_cons_succ]
      refine LooseD.reads (.string S1) rfl rfl ?_ ?_
      · intro w9 hw
        clear hw
        go_simp
      try simp only [Act.put, List.setIfInBounds_toArray, List.set_cons_zero, List.set_cons_succ]
      refine LooseD.reads (.string S1) rfl rfl ?_ ?_
      · intro w9 hw
        clear hw
        go_simp
      try simp only [Act.put, List.setIfInBounds_toArray, List.set_cons_zero, List.set_cons_succ]
      refine LooseD.done ?_
      intro w2 hw2 _
      have HB2 := Lib.hid hw2
      clear hw2 cc1 cc2 zz1 zz2 HPF HPB HCY
      obtain ⟨-, -, -, x3, -, -, -, -, -, -, -, -, -, -, -, -⟩ := HCX.out _ (HBR.out.trans (HB2.out.mono HBR.out.size))
      go_wp2_with fail
      clear x3
      go_loopw [3, 4] (fun sv i wr => ∃ (k : Nat) (S : ByteArray), sv = .string S ∧ i = .int .i64 k ∧ k ≤ n ∧ Below w1.heap.size w1 wr ∧ S = mkB ((pb kind ++ (pb frm ++ pb born)) ++ ((known.take k).map pb).flatten)) (fun _ i _ => n - (intOf i).toNat)
      case atStart => exact ⟨0, S1, rfl, rfl, Nat.zero_le _, HB2.out, by rw [HS1.out]; simp⟩
      case round =>
        obtain ⟨k, S, rfl, rfl, hk, hb, hS⟩ := hrel
        have HBW := Lib.hid hb
        have HSS := Lib.hid hS
        have HBR2 := Lib.hid (HBR.out.trans (hb.mono HBR.out.size))
        clear hb hS
        obtain ⟨-, -, -, x3, -, -, -, -, -, -, -, -, -, -, -, -⟩ := HCX.out _ HBR2.out
        by_cases hlt : k < n
        · have hlt2 : (k : Int) < (n : Int) := by omega
          obtain ⟨b9, o9, rfl, hb9, cc⟩ := (HI.out.under HBR2.out).get k hlt
          have HKL := Lib.hid (show k < known.length by rw [← HN.out]; exact hlt)
          obtain ⟨x, hx⟩ : ∃ x, x = known[k]'HKL.out := ⟨_, rfl⟩
          rw [← hx] at cc
          obtain ⟨sx, hsx⟩ : ∃ s, s = mkB (pb x) := ⟨_, rfl⟩
          obtain ⟨S2, hS2⟩ : ∃ s, s = mkB ((pb kind ++ (pb frm ++ pb born)) ++ ((known.take (k + 1)).map pb).flatten) := ⟨_, rfl⟩
          have hcat : S ++ sx = S2 := by
            rw [HSS.out, hsx, hS2, mkB_cat, List.take_succ_eq_append_getElem HKL.out, List.map_append, List.flatten_append, ← hx, List.append_assoc]
            simp
          have hz : ¬ 9223372036854775807 < S.size + sx.size := by
            have h0 := Oct.pb_len kind
            have h1 := Oct.pb_len frm
            have h2 := Oct.pb_len born
            have h3 := Oct.pb_len x
            have h4 : ((known.take k).map pb).flatten.length ≤ 8 * k := by
              have key : ∀ (l : List Int), (l.map pb).flatten.length ≤ 8 * l.length := by
                intro l
                induction l with
                | nil => simp
                | cons y l ih => rw [List.map_cons, List.flatten_cons, List.length_append, List.length_cons]; have := Oct.pb_len y; omega
              have := key (known.take k)
              rw [List.length_take] at this
              omega
            rw [HSS.out, hsx, mkB_size, mkB_size]
            simp only [List.length_append]
            omega
          have HPX := Lib.hid (fun (w : World) => show Calls Tryd.prog 47 #[.int .i64 x] w (fun e w' => e = .returned (.string sx) ∧ Below w.heap.size w w') by rw [hsx]; exact rput_mk _ w)
          have HS2 := Lib.hid hS2
          clear hx hsx hS2
          go_wp2_with fail
          refine (HPX.out _).mono ?_
          rintro e w6 ⟨rfl, b6⟩
          have HB6 := Lib.hid (HBW.out.trans (b6.mono HBW.out.size))
          clear b6 HPX x3 cc
          go_wp2_with fail
          go_roundw
          case rel => exact ⟨k + 1, S2, rfl, by go_num, by omega, HB6.out, HS2.out⟩
          case measure => simp [intOf]; omega
        · have hke : n = k := by omega
          subst hke
          have HX1 := Lib.hid (show PS = S by
            rw [HPS.out, HPR.out, if_pos k1', HSS.out, List.take_of_length_le (by rw [← HN.out]; exact Nat.le_refl _)])
          go_wp2_with fail
          go_meet
          case rel => exact ⟨by rw [HX1.out], HBW.out⟩
    · have HX1 := Lib.hid (show PS = S0 by rw [HPS.out, HS0.out, HPR.out, if_neg k1])
      go_wp2_with fail
      go_meet
      case rel => exact ⟨by rw [HX1.out], Below.refl _ _⟩
  case rest =>
    obtain ⟨rfl, hwb⟩ := hcut
    obtain ⟨w2, hw2⟩ : ∃ y, y = wc := ⟨_, rfl⟩
    rw [← hw2] at hwb ⊢
    have HBR := Lib.hid (HBR.out.trans (hwb.mono HBR.out.size))
    clear hw2 hwb x0 HB1W
    have hl := HLD.out _ (show w2.heap[p]? = _ from (HBR.out.block _ (Gn.heap_lt HX.out)).trans HX.out)
    go_wp2_with (first | (refine LexT.wpList_val _ (by rfl) (exec_load _ _ 34 _ _ _ _ rfl rfl hl) ?_) | fail)
    refine (HFF.out _).mono ?_
    rintro e w3 ⟨rfl, b⟩
    have HBR := Lib.hid (HBR.out.trans (b.mono HBR.out.size))
    clear b hl
    go_wp2_with fail
    go_loopw [3, 6] (fun sv i wr => ∃ (k : Nat) (cur : List UInt8) (S : ByteArray), sv = .string S ∧ i = .int .i64 k ∧ k ≤ f.size ∧ Below V.heap.size V wr ∧ S = mkB cur ∧ cur ++ (((bs f).drop k).map fun c => E (c.toNat : Int)).flatten = TT) (fun _ i _ => f.size - (intOf i).toNat)
    case atStart => exact ⟨0, PR, PS, rfl, rfl, Nat.zero_le _, HBR.out, HPS.out, by rw [List.drop_zero]; exact HPT.out⟩
    case round =>
      obtain ⟨k, cur, S, rfl, rfl, hk, hb, hS, hT⟩ := hrel
      have HBR := Lib.hid hb
      have HS := Lib.hid hS
      clear hb hS
      by_cases hlt : k < f.size
      · have hlt2 : (k : Int) < (f.size : Int) := by omega
        have HKF := Lib.hid (show k < (bs f).length from hlt)
        have hfs := HFS.out
        have hcl := (f[k]'hlt).toNat_lt
        obtain ⟨PC, hPC⟩ : ∃ l, l = E ((f[k]'hlt).toNat : Int) := ⟨_, rfl⟩
        have hT2 : (cur ++ PC) ++ (((bs f).drop (k + 1)).map fun c => E (c.toNat : Int)).flatten = TT := by
          rw [← hT, List.drop_eq_getElem_cons HKF.out, List.map_cons, List.flatten_cons, List.append_assoc, hPC]; rfl
        obtain ⟨X, hX⟩ : ∃ s, s = mkB PC := ⟨_, rfl⟩
        obtain ⟨S2, hS2⟩ : ∃ s, s = mkB (cur ++ PC) := ⟨_, rfl⟩
        have hcat : S ++ X = S2 := by rw [HS.out, hX, hS2, mkB_cat]
        have hpl : PC.length ≤ 1048576 := by
          have := le_cat hT2 HTL.out
          rw [List.length_append] at this; omega
        have hz : ¬ 9223372036854775807 < S.size + X.size := by
          have h0 := le_cat hT HTL.out
          rw [HS.out, hX, mkB_size, mkB_size]; omega
        have hsl : S.size ≤ 1048576 := by rw [HS.out, mkB_size]; exact le_cat hT HTL.out
        have HS2 := Lib.hid hS2
        have HT2 := Lib.hid hT2
        have HXQ := Lib.hid hX
        have HPL := Lib.hid hpl
        have HPC := Lib.hid (show PC = encC ⟨kind, frm, born, known, view, last, op, commit, client, number, nonce, text, full, base, state, ents⟩ ((f[k]'hlt).toNat : Int) by rw [hPC, HE9.out])
        clear hT hT2 hS2 hX hPC hpl
        by_cases h0 : ((f[k]'hlt).toNat : Int) = 118
        · have HV := Lib.hid (show PC = pb view by rw [HPC.out]; unfold encC; dsimp only; rw [if_pos h0])
          have HPX := Lib.hid (fun (w : World) => show Calls Tryd.prog 47 #[.int .i64 view] w (fun e w' => e = .returned (.string X) ∧ Below w.heap.size w w') by rw [HXQ.out, HV.out]; exact rput_mk _ w)
          clear HV
          obtain ⟨-, -, -, -, x4, -, -, -, -, -, -, -, -, -, -, -⟩ := HCX.out _ HBR.out
          go_wp2_with fail
          refine (HPX.out _).mono ?_
          rintro e w6 ⟨rfl, b6⟩
          have HB6 := Lib.hid (HBR.out.trans (b6.mono HBR.out.size))
          clear b6 HPX x4
          go_wp2_with fail
          go_roundw
          case rel => exact ⟨k + 1, cur ++ PC, S2, rfl, by go_num, by omega, HB6.out, HS2.out, HT2.out⟩
          case measure => simp [intOf]; omega
        by_cases h1 : ((f[k]'hlt).toNat : Int) = 108
        · have HV := Lib.hid (show PC = pb last by rw [HPC.out]; unfold encC; dsimp only; rw [if_neg h0, if_pos h1])
          have HPX := Lib.hid (fun (w : World) => show Calls Tryd.prog 47 #[.int .i64 last] w (fun e w' => e = .returned (.string X) ∧ Below w.heap.size w w') by rw [HXQ.out, HV.out]; exact rput_mk _ w)
          clear HV
          obtain ⟨-, -, -, -, -, x5, -, -, -, -, -, -, -, -, -, -⟩ := HCX.out _ HBR.out
          go_wp2_with fail
          refine (HPX.out _).mono ?_
          rintro e w6 ⟨rfl, b6⟩
          have HB6 := Lib.hid (HBR.out.trans (b6.mono HBR.out.size))
          clear b6 HPX x5
          go_wp2_with fail
          go_roundw
          case rel => exact ⟨k + 1, cur ++ PC, S2, rfl, by go_num, by omega, HB6.out, HS2.out, HT2.out⟩
          case measure => simp [intOf]; omega
        by_cases h2 : ((f[k]'hlt).toNat : Int) = 111
        · have HV := Lib.hid (show PC = pb op by rw [HPC.out]; unfold encC; dsimp only; rw [if_neg h0, if_neg h1, if_pos h2])
          have HPX := Lib.hid (fun (w : World) => show Calls Tryd.prog 47 #[.int .i64 op] w (fun e w' => e = .returned (.string X) ∧ Below w.heap.size w w') by rw [HXQ.out, HV.out]; exact rput_mk _ w)
          clear HV
          obtain ⟨-, -, -, -, -, -, x6, -, -, -, -, -, -, -, -, -⟩ := HCX.out _ HBR.out
          go_wp2_with fail
          refine (HPX.out _).mono ?_
          rintro e w6 ⟨rfl, b6⟩
          have HB6 := Lib.hid (HBR.out.trans (b6.mono HBR.out.size))
          clear b6 HPX x6
          go_wp2_with fail
          go_roundw
          case rel => exact ⟨k + 1, cur ++ PC, S2, rfl, by go_num, by omega, HB6.out, HS2.out, HT2.out⟩
          case measure => simp [intOf]; omega
        by_cases h3 : ((f[k]'hlt).toNat : Int) = 99
        · have HV := Lib.hid (show PC = pb commit by rw [HPC.out]; unfold encC; dsimp only; rw [if_neg h0, if_neg h1, if_neg h2, if_pos h3])
          have HPX := Lib.hid (fun (w : World) => show Calls Tryd.prog 47 #[.int .i64 commit] w (fun e w' => e = .returned (.string X) ∧ Below w.heap.size w w') by rw [HXQ.out, HV.out]; exact rput_mk _ w)
          clear HV
          obtain ⟨-, -, -, -, -, -, -, x7, -, -, -, -, -, -, -, -⟩ := HCX.out _ HBR.out
          go_wp2_with fail
          refine (HPX.out _).mono ?_
          rintro e w6 ⟨rfl, b6⟩
          have HB6 := Lib.hid (HBR.out.trans (b6.mono HBR.out.size))
          clear b6 HPX x7
          go_wp2_with fail
          go_roundw
          case rel => exact ⟨k + 1, cur ++ PC, S2, rfl, by go_num, by omega, HB6.out, HS2.out, HT2.out⟩
          case measure => simp [intOf]; omega
        by_cases h4 : ((f[k]'hlt).toNat : Int) = 105
        · have HV := Lib.hid (show PC = pb client by rw [HPC.out]; unfold encC; dsimp only; rw [if_neg h0, if_neg h1, if_neg h2, if_neg h3, if_pos h4])
          have HPX := Lib.hid (fun (w : World) => show Calls Tryd.prog 47 #[.int .i64 client] w (fun e w' => e = .returned (.string X) ∧ Below w.heap.size w w') by rw [HXQ.out, HV.out]; exact rput_mk _ w)
          clear HV
          obtain ⟨-, -, -, -, -, -, -, -, x8, -, -, -, -, -, -, -⟩ := HCX.out _ HBR.out
          go_wp2_with fail
          refine (HPX.out _).mono ?_
          rintro e w6 ⟨rfl, b6⟩
          have HB6 := Lib.hid (HBR.out.trans (b6.mono HBR.out.size))
          clear b6 HPX x8
          go_wp2_with fail
          go_roundw
          case rel => exact ⟨k + 1, cur ++ PC, S2, rfl, by go_num, by omega, HB6.out, HS2.out, HT2.out⟩
          case measure => simp [intOf]; omega
        by_cases h5 : ((f[k]'hlt).toNat : Int) = 110
        · have HV := Lib.hid (show PC = pb number by rw [HPC.out]; unfold encC; dsimp only; rw [if_neg h0, if_neg h1, if_neg h2, if_neg h3, if_neg h4, if_pos h5])
          have HPX := Lib.hid (fun (w : World) => show Calls Tryd.prog 47 #[.int .i64 number] w (fun e w' => e = .returned (.string X) ∧ Below w.heap.size w w') by rw [HXQ.out, HV.out]; exact rput_mk _ w)
          clear HV
          obtain ⟨-, -, -, -, -, -, -, -, -, x9, -, -, -, -, -, -⟩ := HCX.out _ HBR.out
          go_wp2_with fail
          refine (HPX.out _).mono ?_
          rintro e w6 ⟨rfl, b6⟩
          have HB6 := Lib.hid (HBR.out.trans (b6.mono HBR.out.size))
          clear b6 HPX x9
          go_wp2_with fail
          go_roundw
          case rel => exact ⟨k + 1, cur ++ PC, S2, rfl, by go_num, by omega, HB6.out, HS2.out, HT2.out⟩
          case measure => simp [intOf]; omega
        by_cases h6 : ((f[k]'hlt).toNat : Int) = 116
        · have HV := Lib.hid (show PC = qT text by rw [HPC.out]; unfold encC; dsimp only; rw [if_neg h0, if_neg h1, if_neg h2, if_neg h3, if_neg h4, if_neg h5, if_pos h6])
          have HPX := Lib.hid (fun (w : World) => show Calls Tryd.prog 49 #[.string text] w (fun e w' => e = .returned (.string X) ∧ Below w.heap.size w w') by rw [HXQ.out, HV.out]; exact rtext_any _ w (by omega))
          clear HV
          obtain ⟨-, -, -, -, -, -, -, -, -, -, -, x11, -, -, -, -⟩ := HCX.out _ HBR.out
          go_wp2_with fail
          refine (HPX.out _).mono ?_
          rintro e w6 ⟨rfl, b6⟩
          have HB6 := Lib.hid (HBR.out.trans (b6.mono HBR.out.size))
          clear b6 HPX x11
          go_wp2_with fail
          go_roundw
          case rel => exact ⟨k + 1, cur ++ PC, S2, rfl, by go_num, by omega, HB6.out, HS2.out, HT2.out⟩
          case measure => simp [intOf]; omega
        by_cases h7 : ((f[k]'hlt).toNat : Int) = 101
        · have HV := Lib.hid (show PC = encE (headE ents) by rw [HPC.out]; unfold encC; dsimp only; rw [if_neg h0, if_neg h1, if_neg h2, if_neg h3, if_neg h4, if_neg h5, if_neg h6, if_pos h7])
          have hnn0 : 0 < nn := HE1.out (HF1.out k HKF.out (show ((bs f)[k].toNat : Int) = 101 from h7))
          have hnn1 : (0 : Int) < (nn : Int) := by omega
          obtain ⟨b9, o9, rfl, hb9, c0, c1, c2⟩ := (HE.out.under HBR.out).get 0 hnn0
          have HKL := Lib.hid (show 0 < ents.length by rw [← HNN.out]; exact hnn0)
          have hhd : headE ents = ents[0]'HKL.out := by
            cases ents with
            | nil => exact absurd HKL.out (by simp)
            | cons y l => rfl
          obtain ⟨y, hy⟩ : ∃ x, x = ents[0]'HKL.out := ⟨_, rfl⟩
          have hys : y.text.size ≤ 8192 := by rw [hy]; exact (HEJ.out _ (List.getElem_mem _)).2
          rw [hhd, ← hy] at HV
          rw [← hy] at c0 c1 c2
          clear hhd hy
          obtain ⟨y0, y1, y2⟩ := y
          dsimp only at c0 c1 c2 hys
          rw [Nat.zero_mul, Nat.add_zero] at c0 c1 c2
          have HPX := Lib.hid (fun (w : World) => show Calls Tryd.prog 50 #[.agg #[.int .i64 y0, .int .i64 y1, .string y2]] w (fun e w' => e = .returned (.string X) ∧ Below w.heap.size w w') by rw [HXQ.out, HV.out]; exact rent_any y0 y1 y2 w (by omega))
          clear HV
          obtain ⟨-, -, -, -, -, -, -, -, -, -, -, -, -, -, -, x15⟩ := HCX.out _ HBR.out
          go_wp2_with fail
          refine (HPX.out _).mono ?_
          rintro e w6 ⟨rfl, b6⟩
          have HB6 := Lib.hid (HBR.out.trans (b6.mono HBR.out.size))
          clear b6 HPX x15 c0 c1 c2
          go_wp2_with fail
          go_roundw
          case rel => exact ⟨k + 1, cur ++ PC, S2, rfl, by go_num, by omega, HB6.out, HS2.out, HT2.out⟩
          case measure => simp [intOf]; omega
        by_cases h8 : ((f[k]'hlt).toNat : Int) = 120
        · have HV := Lib.hid (show PC = pb nonce by rw [HPC.out]; unfold encC; dsimp only; rw [if_neg h0, if_neg h1, if_neg h2, if_neg h3, if_neg h4, if_neg h5, if_neg h6, if_neg h7, if_pos h8])
          have HPX := Lib.hid (fun (w : World) => show Calls Tryd.prog 47 #[.int .i64 nonce] w (fun e w' => e = .returned (.string X) ∧ Below w.heap.size w w') by rw [HXQ.out, HV.out]; exact rput_mk _ w)
          clear HV
          obtain ⟨-, -, -, -, -, -, -, -, -, -, x10, -, -, -, -, -⟩ := HCX.out _ HBR.out
          go_wp2_with fail
          refine (HPX.out _).mono ?_
          rintro e w6 ⟨rfl, b6⟩
          have HB6 := Lib.hid (HBR.out.trans (b6.mono HBR.out.size))
          clear b6 HPX x10
          go_wp2_with fail
          go_roundw
          case rel => exact ⟨k + 1, cur ++ PC, S2, rfl, by go_num, by omega, HB6.out, HS2.out, HT2.out⟩
          case measure => simp [intOf]; omega
        by_cases h9 : ((f[k]'hlt).toNat : Int) = 102
        · have HV := Lib.hid (show PC = [if full then 1 else 0] by rw [HPC.out]; unfold encC; dsimp only; rw [if_neg h0, if_neg h1, if_neg h2, if_neg h3, if_neg h4, if_neg h5, if_neg h6, if_neg h7, if_neg h8, if_pos h9])
          cases full with
          | true =>
            have hXv : X = ⟨#[1]⟩ := by rw [HXQ.out, HV.out]; rfl
            rw [hXv] at hcat hz
            obtain ⟨-, -, -, -, -, -, -, -, -, -, -, -, x12, -, -, -⟩ := HCX.out _ HBR.out
            have HB6 := HBR
            clear HV
            go_wp2_with fail
            go_roundw
            case rel => exact ⟨k + 1, cur ++ PC, S2, rfl, by go_num, by omega, HB6.out, HS2.out, HT2.out⟩
            case measure => simp [intOf]; omega
          | false =>
            have hXv : X = ⟨#[0]⟩ := by rw [HXQ.out, HV.out]; rfl
            rw [hXv] at hcat hz
            obtain ⟨-, -, -, -, -, -, -, -, -, -, -, -, x12, -, -, -⟩ := HCX.out _ HBR.out
            have HB6 := HBR
            clear HV
            go_wp2_with fail
            go_roundw
            case rel => exact ⟨k + 1, cur ++ PC, S2, rfl, by go_num, by omega, HB6.out, HS2.out, HT2.out⟩
            case measure => simp [intOf]; omega
        have HV := Lib.hid (show PC = tailE ⟨kind, frm, born, known, view, last, op, commit, client, number, nonce, text, full, base, state, ents⟩ by rw [HPC.out]; unfold encC; dsimp only; rw [if_neg h0, if_neg h1, if_neg h2, if_neg h3, if_neg h4, if_neg h5, if_neg h6, if_neg h7, if_neg h8, if_neg h9])
        have q0 : (((f[k]'hlt).toNat : Int) == 118) = false := beq_eq_false_iff_ne.2 h0
        have q1 : (((f[k]'hlt).toNat : Int) == 108) = false := beq_eq_false_iff_ne.2 h1
        have q2 : (((f[k]'hlt).toNat : Int) == 111) = false := beq_eq_false_iff_ne.2 h2
        have q3 : (((f[k]'hlt).toNat : Int) == 99) = false := beq_eq_false_iff_ne.2 h3
        have q4 : (((f[k]'hlt).toNat : Int) == 105) = false := beq_eq_false_iff_ne.2 h4
        have q5 : (((f[k]'hlt).toNat : Int) == 110) = false := beq_eq_false_iff_ne.2 h5
        have q6 : (((f[k]'hlt).toNat : Int) == 116) = false := beq_eq_false_iff_ne.2 h6
        have q7 : (((f[k]'hlt).toNat : Int) == 101) = false := beq_eq_false_iff_ne.2 h7
        have q8 : (((f[k]'hlt).toNat : Int) == 120) = false := beq_eq_false_iff_ne.2 h8
        have q9 : (((f[k]'hlt).toNat : Int) == 102) = false := beq_eq_false_iff_ne.2 h9
        obtain ⟨sb, hsb⟩ : ∃ s, s = mkB (pb base) := ⟨_, rfl⟩
        obtain ⟨ss, hss⟩ : ∃ s, s = mkB (qT state) := ⟨_, rfl⟩
        obtain ⟨sn, hsn⟩ : ∃ s, s = mkB (pb (nn : Int)) := ⟨_, rfl⟩
        obtain ⟨s1, hs1⟩ : ∃ s, s = mkB (pb base ++ qT state) := ⟨_, rfl⟩
        obtain ⟨s2, hs2⟩ : ∃ s, s = mkB (pb base ++ qT state ++ pb (nn : Int)) := ⟨_, rfl⟩
        obtain ⟨S3, hS3⟩ : ∃ s, s = mkB (cur ++ (pb base ++ qT state ++ pb (nn : Int))) := ⟨_, rfl⟩
        have d1 : sb ++ ss = s1 := by rw [hsb, hss, hs1, mkB_cat]
        have d2 : s1 ++ sn = s2 := by rw [hs1, hsn, hs2, mkB_cat]
        have d3 : S ++ s2 = S3 := by rw [HS.out, hs2, hS3, mkB_cat]
        have l1 : sb.size ≤ 8 := by rw [hsb, mkB_size]; exact Oct.pb_len _
        have l2 : sn.size ≤ 8 := by rw [hsn, mkB_size]; exact Oct.pb_len _
        have l3 : ss.size ≤ 70000 := by
          have := Oct.pb_len (state.size : Int)
          rw [hss, mkB_size]
          show (pb state.size ++ bs state).length ≤ _
          rw [List.length_append, Oct.bs_length]; omega
        have l4 : s1.size ≤ 70008 := by rw [← d1]; simp only [ByteArray.size_append]; omega
        have l5 : s2.size ≤ 70016 := by rw [← d2]; simp only [ByteArray.size_append]; omega
        have l6 : S.size ≤ 1048576 := hsl
        have y1 : ¬ 9223372036854775807 < sb.size + ss.size := by omega
        have y2 : ¬ 9223372036854775807 < s1.size + sn.size := by omega
        have y3 : ¬ 9223372036854775807 < S.size + s2.size := by omega
        have HPB := Lib.hid (fun (w : World) => show Calls Tryd.prog 47 #[.int .i64 base] w (fun e w' => e = .returned (.string sb) ∧ Below w.heap.size w w') by rw [hsb]; exact rput_mk _ w)
        have HPS2 := Lib.hid (fun (w : World) => show Calls Tryd.prog 49 #[.string state] w (fun e w' => e = .returned (.string ss) ∧ Below w.heap.size w w') by rw [hss]; exact rtext_any _ w (by omega))
        have HPN := Lib.hid (fun (w : World) => show Calls Tryd.prog 47 #[.int .i64 (nn : Int)] w (fun e w' => e = .returned (.string sn) ∧ Below w.heap.size w w') by rw [hsn]; exact rput_mk _ w)
        have HS3 := Lib.hid hS3
        clear hsb hss hsn hs1 hs2 hS3 l1 l2 l3 l4 l5 hcat hz
        go_upto_region 13 with fail
        have HCY := Lib.hid (fun (w' : World) (bw : Below wr.heap.size wr w') => HCX.out w' (HBR.out.trans (bw.mono HBR.out.size)))
        refine LooseD.region_loose (fun w9 => Below wr.heap.size wr w9) _ _ (by kernel_rfl) (by kernel_rfl)
          (LooseD.waits (D := [[], [], [], [], [], [], [], [], [], [], [], [], [], [], []]) (by kernel_rfl))
          (LooseD.stays (ts := [none, none, none, some (.is (.string sb)), none, none, some (.is (.string ss)), none, none, none, none, some (.is (.string sn)), none, none, none]) (fun w w' h b => h.trans (b.mono h.size)) (.none (.none (.none (.is (.none (.none (.is (.none (.none (.none (.none (.is (.none (.none (.none .nil))))))))))))))))
          (Gn.below_drew (Below.refl _ _)) ?_
        refine LooseD.reads (.string S) rfl rfl ?_ ?_
        · intro w9 hw
          clear hw
          go_simp
        try simp only [Act.put, List.setIfInBounds_toArray, List.set_cons_zero, List.set_cons_succ]
        refine LooseD.reads (.pointer (some ⟨p, 13, none⟩)) rfl rfl ?_ ?_
        · intro w9 hw
          clear hw
          go_simp
        try simp only [Act.put, List.setIfInBounds_toArray, List.set_cons_zero, List.set_cons_succ]
        refine LooseD.reads (.int .i64 base) rfl rfl ?_ ?_
        · intro w9 hw
          obtain ⟨-, -, -, -, -, -, -, -, -, -, -, -, -, g13, -, -⟩ := HCY.out w9 hw
          clear hw
          go_simp
        try simp only [Act.put, List.setIfInBounds_toArray, List.set_cons_zero, List.set_cons_succ]
        refine LooseD.gives (.string sb) 47 #[.int .i64 base] rfl rfl ?_ (fun w9 hw hH => HPB.out w9) ?_
        · intro w9 hw
          clear hw
          go_simp
        try simp only [Act.put, List.setIfInBounds_toArray, List.set_cons_zero, List.set_cons_succ]
        refine LooseD.reads (.pointer (some ⟨p, 14, none⟩)) rfl rfl ?_ ?_
        · intro w9 hw
          clear hw
          go_simp
        try simp only [Act.put, List.setIfInBounds_toArray, List.set_cons_zero, List.set_cons_succ]
        refine LooseD.reads (.string state) rfl rfl ?_ ?_
        · intro w9 hw
          obtain ⟨-, -, -, -, -, -, -, -, -, -, -, -, -, -, g14, -⟩ := HCY.out w9 hw
          clear hw
          go_simp
        try simp only [Act.put, List.setIfInBounds_toArray, List.set_cons_zero, List.set_cons_succ]
        refine LooseD.gives (.string ss) 49 #[.string state] rfl rfl ?_ (fun w9 hw hH => HPS2.out w9) ?_
        · intro w9 hw
          clear hw
          go_simp
        try simp only [Act.put, List.setIfInBounds_toArray, List.set_cons_zero, List.set_cons_succ]
        refine LooseD.reads (.string s1) rfl rfl ?_ ?_
        · intro w9 hw
          clear hw
          go_simp
        try simp only [Act.put, List.setIfInBounds_toArray, List.set_cons_zero, List.set_cons_succ]
        refine LooseD.reads (.pointer (some ⟨p, 15, none⟩)) rfl rfl ?_ ?_
        · intro w9 hw
          clear hw
          go_simp
        try simp only [Act.put, List.setIfInBounds_toArray, List.set_cons_zero, List.set_cons_succ]
        refine LooseD.reads (.slice b nn cap2) rfl rfl ?_ ?_
        · intro w9 hw
          obtain ⟨-, -, -, -, -, -, -, -, -, -, -, -, -, -, -, g15⟩ := HCY.out w9 hw
          clear hw
          go_simp
        try simp only [Act.put, List.setIfInBounds_toArray, List.set_cons_zero, List.set_cons_succ]
        refine LooseD.reads (.int .i64 nn) rfl rfl ?_ ?_
        · intro w9 hw
          clear hw
          go_simp
        try simp only [Act.put, List.setIfInBounds_toArray, List.set_cons_zero, List.set_cons_succ]
        refine LooseD.gives (.string sn) 47 #[.int .i64 nn] rfl rfl ?_ (fun w9 hw hH => HPN.out w9) ?_
        · intro w9 hw
          clear hw
          go_simp
        try simp only [Act.put, List.setIfInBounds_toArray, List.set_cons_zero, List.set_cons_succ]
        refine LooseD.reads (.string s2) rfl rfl ?_ ?_
        · intro w9 hw
          clear hw
          go_simp
        try simp only [Act.put, List.setIfInBounds_toArray, List.set_cons_zero, List.set_cons_succ]
        refine LooseD.reads (.string S3) rfl rfl ?_ ?_
        · intro w9 hw
          clear hw
          go_simp
        try simp only [Act.put, List.setIfInBounds_toArray, List.set_cons_zero, List.set_cons_succ]
        refine LooseD.reads (.string S3) rfl rfl ?_ ?_
        · intro w9 hw
          clear hw
          go_simp
        try simp only [Act.put, List.setIfInBounds_toArray, List.set_cons_zero, List.set_cons_succ]
        refine LooseD.done ?_
        intro w5 hw5 _
        have HB5 := Lib.hid (HBR.out.trans (hw5.mono HBR.out.size))
        clear hw5 d1 d2 d3 y1 y2 y3 HPB HPS2 HPN HCY
        obtain ⟨-, -, -, -, -, -, -, -, -, -, -, -, -, -, -, x15⟩ := HCX.out _ HB5.out
        go_wp2_with fail
        clear x15
        try simp only [q0, q1, q2, q3, q4, q5, q6, q7, q8, q9]
        go_loopw [3, 7] (fun sv i wr2 => ∃ (j : Nat) (S4 : ByteArray), sv = .string S4 ∧ i = .int .i64 j ∧ j ≤ nn ∧ Below V.heap.size V wr2 ∧ S4 = mkB (cur ++ (pb base ++ qT state ++ pb (nn : Int)) ++ ((ents.take j).map encE).flatten)) (fun _ i _ => nn - (intOf i).toNat)
        case atStart => exact ⟨0, S3, rfl, rfl, Nat.zero_le _, HB5.out, by rw [HS3.out]; simp⟩
        case round =>
          obtain ⟨j, S4, rfl, rfl, hj, hb, hS4⟩ := hrel
          have HBR := Lib.hid hb
          have HS4 := Lib.hid hS4
          clear hb hS4
          obtain ⟨-, -, -, -, -, -, -, -, -, -, -, -, -, -, -, x15⟩ := HCX.out _ HBR.out
          by_cases hjn : j < nn
          · have hjn2 : (j : Int) < (nn : Int) := by omega
            obtain ⟨b9, o9, rfl, hb9, c0, c1, c2⟩ := (HE.out.under HBR.out).get j hjn
            have HKL := Lib.hid (show j < ents.length by rw [← HNN.out]; exact hjn)
            obtain ⟨y, hy⟩ : ∃ x, x = ents[j]'HKL.out := ⟨_, rfl⟩
            have hys : y.text.size ≤ 8192 := by rw [hy]; exact (HEJ.out _ (List.getElem_mem _)).2
            rw [← hy] at c0 c1 c2
            obtain ⟨X5, hX5⟩ : ∃ s, s = mkB (encE y) := ⟨_, rfl⟩
            obtain ⟨S5, hS5⟩ : ∃ s, s = mkB (cur ++ (pb base ++ qT state ++ pb (nn : Int)) ++ ((ents.take (j + 1)).map encE).flatten) := ⟨_, rfl⟩
            have hcat5 : S4 ++ X5 = S5 := by
              rw [HS4.out, hX5, hS5, mkB_cat, List.take_succ_eq_append_getElem HKL.out, List.map_append, List.flatten_append, ← hy, List.append_assoc]
              simp
            have hz5 : ¬ 9223372036854775807 < S4.size + X5.size := by
              have h3 : S4.size + X5.size = S5.size := by rw [← hcat5]; simp only [ByteArray.size_append]
              have h4 : S5.size ≤ 1048576 + 70016 + 9000 * 64 := by
                have key : ∀ (l : List Ent), (∀ y ∈ l, y.text.size ≤ 8192) → (l.map encE).flatten.length ≤ 9000 * l.length := by
                  intro l
                  induction l with
                  | nil => intro _; simp
                  | cons z l ih =>
                    intro hz
                    have h1 := ih fun q hq => hz q (List.mem_cons_of_mem _ hq)
                    have h2 := hz z List.mem_cons_self
                    have p0 := Oct.pb_len z.client
                    have p1 := Oct.pb_len z.number
                    have p2 := Oct.pb_len (z.text.size : Int)
                    have p3 : (bs z.text).length = z.text.size := rfl
                    have hzl : (encE z).length ≤ 9000 := by
                      unfold encE qT
                      simp only [List.length_append]
                      omega
                    rw [List.map_cons, List.flatten_cons, List.length_append, List.length_cons]
                    omega
                have h5 := key (ents.take (j + 1)) fun q hq => (HEJ.out q (List.mem_of_mem_take hq)).2
                rw [List.length_take] at h5
                have p1 := Oct.pb_len base
                have p2 := Oct.pb_len (nn : Int)
                have p3 := Oct.pb_len (state.size : Int)
                have h6 : cur.length ≤ 1048576 := by have := l6; rw [HS.out, mkB_size] at this; exact this
                rw [hS5, mkB_size]
                unfold qT
                simp only [List.length_append, Oct.bs_length]
                omega
              omega
            obtain ⟨y0, y1, y2⟩ := y
            dsimp only at c0 c1 c2 hys
            have HPX := Lib.hid (fun (w : World) => show Calls Tryd.prog 50 #[.agg #[.int .i64 y0, .int .i64 y1, .string y2]] w (fun e w' => e = .returned (.string X5) ∧ Below w.heap.size w w') by rw [hX5]; exact rent_any y0 y1 y2 w (by omega))
            have HS5 := Lib.hid hS5
            clear hy hX5 hS5
            go_wp2_with fail
            refine (HPX.out _).mono ?_
            rintro e w6 ⟨rfl, b6⟩
            have HB6 := Lib.hid (HBR.out.trans (b6.mono HBR.out.size))
            clear b6 HPX x15 c0 c1 c2
            go_wp2_with fail
            go_roundw
            case rel => exact ⟨j + 1, S5, rfl, by go_num, by omega, HB6.out, HS5.out⟩
            case measure => simp [intOf]; omega
          · have hje : nn = j := by omega
            subst hje
            have HX1 := Lib.hid (show S4 = S2 by
              rw [HS4.out, HS2.out, HV.out]
              unfold tailE
              dsimp only
              rw [List.take_of_length_le (by rw [← HNN.out]; exact Nat.le_refl _), ← HNN.out]
              simp only [List.append_assoc])
            rw [HX1.out]
            have HB6 := HBR
            go_wp2_with fail
            go_roundw
            case rel => exact ⟨k + 1, cur ++ PC, S2, rfl, by go_num, by omega, HB6.out, HS2.out, HT2.out⟩
            case measure => simp [intOf]; omega
      · have hke : f.size = k := by omega
        have HX1 := Lib.hid (show S = mkB TT by
          rw [HS.out, ← hT, List.drop_eq_nil_of_le (show (bs f).length ≤ k by show f.size ≤ k; omega)]
          simp)
        have HKK := Lib.hid hke
        subst hke
        go_wp2_with fail
        go_ret
        exact ⟨by rw [← HX1.out]; rfl, HB.out.trans (HBR.out.mono HB.out.size)⟩
end Go.Proofs.YtfeelmblnkpfdaaDoor.Ms
