/-
  The walk of the document's plain Literal.
-/
import Derived.Test.YtppdemdjlhdfcaaLxRefLit
namespace Go.Proofs.Ytppdemdjlhdfcaa.Lx
open Go.RowKit
set_option maxRecDepth 100000

theorem cut_get (s : ByteArray) (P : Nat) (h : P < s.size) (h2 : 0 < (cut s P).size) : (cut s P)[0] = s[P] := by
  have : ∀ (l : List UInt8) (k : Nat) (h : k < l.length) (h2 : 0 < (l.drop k).length), (l.drop k)[0] = l[k] := fun l k h h2 => by simp
  have e : bs (cut s P) = (bs s).drop P := bs_cut s P
  have h3 : 0 < ((bs s).drop P).length := by rw [← e]; exact h2
  have e2 := this (bs s) P h h3
  have e3 : (bs (cut s P))[0]'h2 = ((bs s).drop P)[0]'h3 := by simp only [e]
  exact e3.trans e2
theorem rl_step (q : UInt8) (f : Nat) (s : ByteArray) (P : Nat) (h : P < s.size) : rlit q (f + 1) (bs (cut s P)) =
    if plainN s[P].toNat = false then (none, 0)
    else if s[P] = q then (some [], 1)
    else if s[P].toNat = 92 then
      if (resc (bs (cut s (P + 1)))).2.1 = true then ((rlit q f (bs (cut s (P + (1 + (resc (bs (cut s (P + 1)))).2.2))))).1.map (UInt8.ofNat (resc (bs (cut s (P + 1)))).1 :: ·), 1 + (resc (bs (cut s (P + 1)))).2.2 + (rlit q f (bs (cut s (P + (1 + (resc (bs (cut s (P + 1)))).2.2))))).2)
      else (none, 1 + (resc (bs (cut s (P + 1)))).2.2)
    else ((rlit q f (bs (cut s (P + 1)))).1.map (s[P] :: ·), 1 + (rlit q f (bs (cut s (P + 1)))).2) := by
  have h2 : 0 < (cut s P).size := by rw [cut_size]; omega
  rw [rlit_step q f (cut s P) h2]
  simp only [cut_get s P h h2, cut_cut]
theorem re_step (s : ByteArray) (P : Nat) (h : P < s.size) : resc (bs (cut s P)) =
    if s[P].toNat = 92 ∨ s[P].toNat = 39 ∨ s[P].toNat = 34 then (s[P].toNat, true, 1) else if s[P].toNat = 110 then (10, true, 1) else if s[P].toNat = 116 then (9, true, 1)
    else if s[P].toNat = 120 then ((rpair (bs (cut s (P + 1)))).1, (rpair (bs (cut s (P + 1)))).2.1, 1 + (rpair (bs (cut s (P + 1)))).2.2) else (0, false, 0) := by
  have h2 : 0 < (cut s P).size := by rw [cut_size]; omega
  rw [resc_cons (cut s P) h2]
  simp only [cut_get s P h h2, cut_cut]
theorem rd_step (s : ByteArray) (P : Nat) (h : P < s.size) : rdig (bs (cut s P)) = match hexN s[P].toNat with | none => (0, false, 0) | some d => (d, true, 1) := by
  have h2 : 0 < (cut s P).size := by rw [cut_size]; omega
  rw [rdig_cons (cut s P) h2]
  simp only [cut_get s P h h2]
  rfl
theorem cut_nil (s : ByteArray) : bs (cut s s.size) = [] := by
  rw [bs_cut]; exact List.drop_eq_nil_of_le (by rw [bs_len]; omega)
theorem rp_step (s : ByteArray) (P : Nat) : rpair (bs (cut s P)) = if (rdig (bs (cut s P))).2.1 = true then (16 * (rdig (bs (cut s P))).1 + (rdig (bs (cut s (P + 1)))).1, (rdig (bs (cut s (P + 1)))).2.1, 1 + (rdig (bs (cut s (P + 1)))).2.2) else (0, false, 0) := by
  unfold rpair
  have : (bs (cut s P)).drop 1 = bs (cut s (P + 1)) := by rw [← bs_cut, cut_cut]
  rw [this]

/-- How far the plain Literal is. -/
def PlAt (s : ByteArray) (q : UInt8) (p0 : Nat) (tot : Option (List UInt8) × Nat) (w wr : World) (v p : Value) : Prop :=
  ∃ (P f cap : Nat) (A : Option Addr) (acc : List UInt8), v = .slice A acc.length cap ∧ p = .int .i64 P ∧ p0 ≤ P ∧ P ≤ s.size ∧ s.size < P + f ∧ acc.length + p0 ≤ P ∧
    tot = ((rlit q f (bs (cut s P))).1.map (acc ++ ·), (P - p0) + (rlit q f (bs (cut s P))).2) ∧
    wr.ownsRow w.heap.size 5 1 (.slice A acc.length cap) acc.length (acc.map u8v) ∧ Below w.heap.size w wr

/-- What the plain Literal tells. -/
def Lit3 (p0 : Nat) (tot : Option (List UInt8) × Nat) (w : World) (e : Ending) (w' : World) : Prop :=
  e = .returned (.tuple #[.string (mk (tot.1.getD [])), .int .i64 ((p0 + tot.2 : Nat) : Int), .bool tot.1.isSome]) ∧ Below w.heap.size w w'
theorem lit3_no {p0 n : Nat} {tot : Option (List UInt8) × Nat} {w w' : World} {i : Int} (h : tot = (none, n)) (hi : i = ((p0 + n : Nat) : Int)) (b : Below w.heap.size w w') : Lit3 p0 tot w (.returned (.tuple #[.string ⟨#[]⟩, .int .i64 i, .bool false])) w' := by
  subst h; subst hi; exact ⟨rfl, b⟩

/-- How far the two digits are. -/
def HexAt (s : ByteArray) (P : Nat) (n p k : Value) : Prop :=
  (k = .int .i64 0 ∧ n = .int .i64 0 ∧ p = .int .i64 P) ∨
  (∃ d : Nat, k = .int .i64 1 ∧ n = .int .i64 d ∧ p = .int .i64 ((P + 1 : Nat) : Int) ∧ rdig (bs (cut s (P + 1))) = (d, true, 1) ∧ P + 1 < s.size) ∨
  (∃ d d2 N : Nat, k = .int .i64 2 ∧ n = .int .i64 N ∧ p = .int .i64 ((P + 2 : Nat) : Int) ∧ rdig (bs (cut s (P + 1))) = (d, true, 1) ∧ rdig (bs (cut s (P + 2))) = (d2, true, 1) ∧ P + 2 < s.size ∧ N = 16 * d + d2)

theorem lit_grow {s : ByteArray} {q : UInt8} {p0 : Nat} {tot : Option (List UInt8) × Nat} {w wr w4 : World} {A : Option Addr} {cap P P' f : Nat} {acc : List UInt8} {v' : Value} (c : UInt8) (o : Obj)
    (hb : Below w.heap.size w wr) (hown : wr.ownsRow w.heap.size 5 1 (.slice A acc.length cap) acc.length (acc.map u8v)) (hown4 : w4.ownsRow w.heap.size 5 1 v' (acc.length + 1) (acc.map u8v ++ [u8v c])) (hg : (wr.alloc o).grownBy w4 (Value.slice A acc.length cap).ownBlock)
    (h1 : acc.length + p0 ≤ P) (h2 : P < P') (h3 : P' ≤ s.size) (h4 : s.size < P' + f)
    (ht : tot = ((rlit q f (bs (cut s P'))).1.map ((acc ++ [c]) ++ ·), (P' - p0) + (rlit q f (bs (cut s P'))).2)) : PlAt s q p0 tot w w4 v' (.int .i64 P') := by
  obtain ⟨A', cap', rfl⟩ := slice_of hown4
  refine ⟨P', f, cap', A', acc ++ [c], by simp, rfl, by omega, h3, h4, by simp; omega, ht, ?_, ?_⟩
  · rw [List.length_append, List.map_append]; exact hown4
  · have := hb.size
    exact hb.trans ⟨hg.os, hg.tape, hg.output, by have := hg.size; simp at this; omega, fun b hb2 => (hg.block b (by simp; omega) (fun e => by have := own_block hown b e.symm; omega)).trans (heap_alloc_old wr o (by omega))⟩

set_option maxRecDepth 100000 in
set_option maxHeartbeats 8000000 in
theorem rliteral_any (s : ByteArray) (at_ : Nat) (q : UInt8) (w : World) (hat : at_ < s.size) (hs : s.size ≤ 1048576) (hq : s[at_] = q) (hq2 : q.toNat = 39 ∨ q.toNat = 34) :
    Calls Try.prog 33 #[.string s, .int .i64 at_] w (Lit3 (at_ + 1) (rlit q (s.size - at_) (bs (cut s (at_ + 1)))) w) := by
  obtain ⟨i0, hi0, hz0, hz1, hz2⟩ := info_parts u8info
  obtain ⟨tot, ht⟩ : ∃ tot, tot = rlit q (s.size - at_) (bs (cut s (at_ + 1))) := ⟨_, rfl⟩
  rw [← ht]
  have HT := Lib.hid ht
  have hqp : plainN q.toNat = true := by rcases hq2 with h | h <;> rw [h] <;> rfl
  have hq92 : q.toNat ≠ 92 := by omega
  clear ht
  go_enter Try.func33, Try.ntmps33
  go_wp2
  go_loopw [8, 9] (fun v p wr => PlAt s q (at_ + 1) tot w wr v p) (fun _ p _ => s.size - (intOf p).toNat)
  case atStart => exact ⟨at_ + 1, s.size - at_, 0, none, [], rfl, by go_num, by omega, by omega, by omega, by simp, by rw [HT.out]; simp, World.ownsRow_nil _ _ _ _, Below.refl _ _⟩
  case round =>
    obtain ⟨P, f, cap, A, acc, rfl, rfl, hp0, hP, hf, hacc, hrl, hown, hbel⟩ := hrel
    obtain ⟨f, rfl⟩ : ∃ k, f = k + 1 := ⟨f - 1, by omega⟩
    have HO := Lib.hid hown
    have HB := Lib.hid hbel
    have hwr := hbel.size
    clear hown hbel
    by_cases hPs : P < s.size
    · rw [rl_step q f s P hPs] at hrl
      have hlt := s[P].toNat_lt
      by_cases hcq : s[P] = q
      · rw [if_neg (by rw [hcq, hqp]; simp), if_pos hcq] at hrl
        have hcv := own_string wr _ A cap acc HO.out
        have HRL := Lib.hid hrl
        have e1 : ((s[P].toNat : Int) != q.toNat) = false := by rw [hcq]; simp
        have e2 : ((P : Int) == s.size) = false := by rw [beq_eq_false_iff_ne]; omega
        clear hrl hcq hlt
        go_wp2
        refine bodyPost_ret (results_tmp3 rfl _ _ _) rfl ?_
        rw [HRL.out]
        refine ⟨?_, HB.out⟩
        have e3 : ((at_ + 1 + (P - (at_ + 1) + 1) : Nat) : Int) = (P : Int) + 1 := by omega
        simp only [Option.map_some, List.append_nil, Option.getD_some, Option.isSome_some]
        rw [e3]
        rfl
      · have hne : (s[P].toNat : Int) ≠ q.toNat := fun e => hcq (UInt8.toNat_inj.mp (by omega))
        have e1 : ((s[P].toNat : Int) != q.toNat) = true := by rw [bne_iff_ne]; exact hne
        by_cases hpl : plainN s[P].toNat = true
        · rw [if_neg (by rw [hpl]; simp), if_neg hcq] at hrl
          have hp2 : 32 ≤ s[P].toNat ∧ s[P].toNat ≤ 126 := by simpa [plainN] using hpl
          obtain ⟨q1, q2⟩ := hp2
          have p1 : (32 : Int) ≤ s[P].toNat := by omega
          have p2 : (s[P].toNat : Int) ≤ 126 := by omega
          by_cases h92 : s[P].toNat = 92
          · rw [if_pos h92] at hrl
            have e3 : ((s[P].toNat : Int) != 92) = false := by rw [h92]; rfl
            have HRL := Lib.hid hrl
            clear hrl h92 hne hcq hpl q1 q2
            by_cases hP1 : P + 1 < s.size
            · have HRE := Lib.hid (re_step s (P + 1) hP1)
              have hlt2 := s[P + 1].toNat_lt
              obtain ⟨c2, hc2⟩ : ∃ c2, c2 = s[P + 1] := ⟨_, rfl⟩
              have hx : ∀ h, s[P + 1]'h = c2 := fun _ => hc2.symm
              have hPn : ((P : Int) + 1 == s.size) = false := by rw [beq_eq_false_iff_ne]; omega
              rw [← hc2] at hlt2
              have HC2 := Lib.hid hc2
              clear hc2
              by_cases hA : c2.toNat = 92 ∨ c2.toNat = 39 ∨ c2.toNat = 34
              · have hre := HRE.out
                rw [← HC2.out, if_pos hA] at hre
                have hrl2 := HRL.out
                rw [hre, if_pos rfl, map_snoc] at hrl2
                simp only [u8_ofNat, Nat.reduceAdd] at hrl2
                have HR2 := Lib.hid hrl2
                have hor : ((c2.toNat : Int) == 92) = true ∨ (((c2.toNat : Int) == 92) = false ∧ ((c2.toNat : Int) == 39) = true) ∨ (((c2.toNat : Int) == 92) = false ∧ ((c2.toNat : Int) == 39) = false ∧ ((c2.toNat : Int) == 34) = true) := by
                  simp only [beq_iff_eq, beq_eq_false_iff_ne]; omega
                clear hre hrl2 HRL HRE hA
                rcases hor with b1 | ⟨b1, b2⟩ | ⟨b1, b2, b3⟩
                all_goals
                  go_wp2_with ((at_builtin; refine wpList_append_own _ rfl _ _ 109 rfl w.heap.size 5 i0 (.int .u8 0) 1 1 Try.underlying109 hi0 hz0 hz1 hz2 rfl (by decide) _ _ _ rfl (HO.out.alloc _) ⟨wr.heap.size, 0, none⟩ 1 1 [.int .u8 c2.toNat] rfl rfl (row_new _ [.int .u8 c2.toNat] _ _ rfl) (by simp [Value.oneCell']) (by unfold maxLen; omega) (by omega) (by simp; omega) ?_))
                  intro v' w4 hown4 hgrow4 _
                  have HO4 := Lib.hid hown4
                  have HG4 := Lib.hid hgrow4
                  clear hown4 hgrow4
                  go_wp2
                  have hfin := lit_grow (s := s) (q := q) (p0 := at_ + 1) (tot := tot) (P := P) (P' := P + 2) (f := f) c2 _ HB.out HO.out (HO4.out) HG4.out hacc (by omega) (by omega) (by omega) (by rw [HR2.out]; congr 1; omega)
                  rw [Int.natCast_add] at hfin
                  first
                    | exact ⟨hfin, by simp [intOf]; omega⟩
                    | (go_roundw
                       case rel => exact hfin
                       case measure => simp [intOf]; omega)
              · have n92 : ((c2.toNat : Int) == 92) = false := by rw [beq_eq_false_iff_ne]; omega
                have n39 : ((c2.toNat : Int) == 39) = false := by rw [beq_eq_false_iff_ne]; omega
                have n34 : ((c2.toNat : Int) == 34) = false := by rw [beq_eq_false_iff_ne]; omega
                by_cases h110 : c2.toNat = 110
                · have hre := HRE.out
                  rw [← HC2.out, if_neg hA, if_pos h110] at hre
                  have hrl2 := HRL.out
                  rw [hre, if_pos rfl, map_snoc] at hrl2
                  simp only [Nat.reduceAdd] at hrl2
                  have HR2 := Lib.hid hrl2
                  have h : ((c2.toNat : Int) == 110) = true := by rw [beq_iff_eq]; omega
                  clear hre hrl2 HRL HRE hA h110
                  go_wp2_with ((at_builtin; refine wpList_append_own _ rfl _ _ 109 rfl w.heap.size 5 i0 (.int .u8 0) 1 1 Try.underlying109 hi0 hz0 hz1 hz2 rfl (by decide) _ _ _ rfl (HO.out.alloc _) ⟨wr.heap.size, 0, none⟩ 1 1 [.int .u8 10] rfl rfl (row_new _ [.int .u8 10] _ _ rfl) (by simp [Value.oneCell']) (by unfold maxLen; omega) (by omega) (by simp; omega) ?_))
                  intro v' w4 hown4 hgrow4 _
                  have HO4 := Lib.hid hown4
                  have HG4 := Lib.hid hgrow4
                  clear hown4 hgrow4
                  go_wp2
                  have hfin := lit_grow (s := s) (q := q) (p0 := at_ + 1) (tot := tot) (P := P) (P' := P + 2) (f := f) 10 _ HB.out HO.out (HO4.out) HG4.out hacc (by omega) (by omega) (by omega) (by rw [HR2.out]; congr 1; omega)
                  rw [Int.natCast_add] at hfin
                  first
                    | exact ⟨hfin, by simp [intOf]; omega⟩
                    | (go_roundw
                       case rel => exact hfin
                       case measure => simp [intOf]; omega)
                · have n110 : ((c2.toNat : Int) == 110) = false := by rw [beq_eq_false_iff_ne]; omega
                  by_cases h116 : c2.toNat = 116
                  · have hre := HRE.out
                    rw [← HC2.out, if_neg hA, if_neg h110, if_pos h116] at hre
                    have hrl2 := HRL.out
                    rw [hre, if_pos rfl, map_snoc] at hrl2
                    simp only [Nat.reduceAdd] at hrl2
                    have HR2 := Lib.hid hrl2
                    have h : ((c2.toNat : Int) == 116) = true := by rw [beq_iff_eq]; omega
                    clear hre hrl2 HRL HRE hA h110 h116
                    go_wp2_with ((at_builtin; refine wpList_append_own _ rfl _ _ 109 rfl w.heap.size 5 i0 (.int .u8 0) 1 1 Try.underlying109 hi0 hz0 hz1 hz2 rfl (by decide) _ _ _ rfl (HO.out.alloc _) ⟨wr.heap.size, 0, none⟩ 1 1 [.int .u8 9] rfl rfl (row_new _ [.int .u8 9] _ _ rfl) (by simp [Value.oneCell']) (by unfold maxLen; omega) (by omega) (by simp; omega) ?_))
                    intro v' w4 hown4 hgrow4 _
                    have HO4 := Lib.hid hown4
                    have HG4 := Lib.hid hgrow4
                    clear hown4 hgrow4
                    go_wp2
                    have hfin := lit_grow (s := s) (q := q) (p0 := at_ + 1) (tot := tot) (P := P) (P' := P + 2) (f := f) 9 _ HB.out HO.out (HO4.out) HG4.out hacc (by omega) (by omega) (by omega) (by rw [HR2.out]; congr 1; omega)
                    rw [Int.natCast_add] at hfin
                    first
                      | exact ⟨hfin, by simp [intOf]; omega⟩
                      | (go_roundw
                         case rel => exact hfin
                         case measure => simp [intOf]; omega)
                  · have n116 : ((c2.toNat : Int) == 116) = false := by rw [beq_eq_false_iff_ne]; omega
                    by_cases h120 : c2.toNat = 120
                    · have hre := HRE.out
                      rw [← HC2.out, if_neg hA, if_neg h110, if_neg h116, if_pos h120, rp_step] at hre
                      have HRE2 := Lib.hid hre
                      have h : ((c2.toNat : Int) == 120) = true := by rw [beq_iff_eq]; omega
                      clear hre HRE hA h110 h116 h120
                      go_wp2
                      go_loop [11, 9, 12] (fun n p k => HexAt s (P + 1) n p k) (fun _ _ k => 2 - (intOf k).toNat)
                      case atStart => exact .inl ⟨rfl, rfl, by go_num⟩
                      case round =>
                        rcases hrel with ⟨rfl, rfl, rfl⟩ | ⟨d, rfl, rfl, rfl, hd, hd1⟩ | ⟨d, d2, N, rfl, rfl, rfl, hd, hd2, hd3, hN⟩
                        · have hrd0 : ∀ h : P + 2 < s.size, rdig (bs (cut s (P + 2))) = match hexN s[P + 2].toNat with | none => (0, false, 0) | some d => (d, true, 1) := fun h => rd_step s (P + 2) h
                          by_cases hQ : P + 2 < s.size
                          · have hrd := hrd0 hQ
                            obtain ⟨c3, hc3⟩ : ∃ c3, c3 = s[P + 2] := ⟨_, rfl⟩
                            have hx3 : ∀ h, s[P + 2]'h = c3 := fun _ => hc3.symm
                            have hx4 : ∀ h, s[P + 1 + 1 ]'h = c3 := fun _ => hc3.symm
                            have hx5 : ∀ h, s[P + 1 + 1]'h = c3 := fun _ => hc3.symm
                            rw [← hc3] at hrd
                            have hxl := c3.toNat_lt
                            have KH := fun W => hex_any c3.toNat W hxl
                            have hQn : ((P : Int) + 1 + 1  == s.size) = false := by rw [beq_eq_false_iff_ne]; omega
                            have hQn2 : ((P : Int) + 2 == s.size) = false := by rw [beq_eq_false_iff_ne]; omega
                            clear hc3 hrd0
                            unfold hexI at KH
                            cases hxx : hexN c3.toNat with
                            | none =>
                              rw [hxx] at hrd KH
                              have KH1 := Lib.hid KH
                              have hre3 := HRE2.out
                              skip
                              simp only [hrd, Bool.false_eq_true, ↓reduceIte] at hre3
                              have hrl2 := HRL.out
                              rw [hre3, if_neg (by simp)] at hrl2
                              have HR2 := Lib.hid hrl2
                              clear KH hrd hre3 hrl2 hxx
                              go_wp2_with fail
                              refine (KH1.out _).mono ?_
                              rintro e w3 ⟨rfl, rfl⟩
                              go_wp2
                              refine bodyPost_ret (results_tmp3 rfl _ _ _) rfl ?_
                              exact lit3_no HR2.out (by omega) HB.out
                            | some dn =>
                              have hdn := hexN_lt hxx
                              rw [hxx] at hrd KH
                              have KH1 := Lib.hid KH
                              have HRD := Lib.hid hrd
                              have hdI : (dn : Int) < 16 := by omega
                              have hdI0 : (0 : Int) ≤ dn := by omega
                              clear KH hrd hxx
                              go_wp2_with fail
                              refine (KH1.out _).mono ?_
                              rintro e w3 ⟨rfl, rfl⟩
                              go_wp2_with fail
                              refine (KH1.out _).mono ?_
                              rintro e w3 ⟨rfl, rfl⟩
                              go_wp2
                              go_round
                              case rel => exact .inr (.inl ⟨dn, rfl, by go_num, by go_num, HRD.out, by omega⟩)
                              case measure => simp [intOf]
                          · have hre3 := HRE2.out
                            skip
                            have hQ2 : P + 2 = s.size := by omega
                            rw [show P + 1 + 1 = s.size from hQ2, cut_nil] at hre3
                            simp only [rdig, Bool.false_eq_true, ↓reduceIte] at hre3
                            have hrl2 := HRL.out
                            rw [hre3, if_neg (by simp)] at hrl2
                            have HR2 := Lib.hid hrl2
                            have hQn : ((P : Int) + 1 + 1  == s.size) = true := by rw [beq_iff_eq]; omega
                            have hQn2 : ((P : Int) + 2 == s.size) = true := by rw [beq_iff_eq]; omega
                            clear hrd0 hre3 hrl2 hQ2
                            go_wp2
                            refine bodyPost_ret (results_tmp3 rfl _ _ _) rfl ?_
                            exact lit3_no HR2.out (by omega) HB.out
                        · have HD := Lib.hid hd
                          have hdd : d < 16 := by
                            have := rdig_lt (bs (cut s (P + 1 + 1)))
                            rw [hd] at this
                            exact this
                          clear hd
                          have hrd0 : ∀ h : P + 3 < s.size, rdig (bs (cut s (P + 3))) = match hexN s[P + 3].toNat with | none => (0, false, 0) | some d => (d, true, 1) := fun h => rd_step s (P + 3) h
                          by_cases hQ : P + 3 < s.size
                          · have hrd := hrd0 hQ
                            obtain ⟨c3, hc3⟩ : ∃ c3, c3 = s[P + 3] := ⟨_, rfl⟩
                            have hx3 : ∀ h, s[P + 3]'h = c3 := fun _ => hc3.symm
                            have hx4 : ∀ h, s[P + 1 + 1 + 1 ]'h = c3 := fun _ => hc3.symm
                            have hx5 : ∀ h, s[P + 1 + 2]'h = c3 := fun _ => hc3.symm
                            rw [← hc3] at hrd
                            have hxl := c3.toNat_lt
                            have KH := fun W => hex_any c3.toNat W hxl
                            have hQn : ((P : Int) + 1 + 1 + 1  == s.size) = false := by rw [beq_eq_false_iff_ne]; omega
                            have hQn2 : ((P : Int) + 3 == s.size) = false := by rw [beq_eq_false_iff_ne]; omega
                            clear hc3 hrd0
                            unfold hexI at KH
                            cases hxx : hexN c3.toNat with
                            | none =>
                              rw [hxx] at hrd KH
                              have KH1 := Lib.hid KH
                              have hre3 := HRE2.out
                              rw [HD.out] at hre3
                              simp only [hrd, ↓reduceIte] at hre3
                              have hrl2 := HRL.out
                              rw [hre3, if_neg (by simp)] at hrl2
                              have HR2 := Lib.hid hrl2
                              clear KH hrd hre3 hrl2 hxx
                              go_wp2_with fail
                              refine (KH1.out _).mono ?_
                              rintro e w3 ⟨rfl, rfl⟩
                              go_wp2
                              refine bodyPost_ret (results_tmp3 rfl _ _ _) rfl ?_
                              exact lit3_no HR2.out (by omega) HB.out
                            | some dn =>
                              have hdn := hexN_lt hxx
                              rw [hxx] at hrd KH
                              have KH1 := Lib.hid KH
                              have HRD := Lib.hid hrd
                              have hdI : (dn : Int) < 16 := by omega
                              have hdI0 : (0 : Int) ≤ dn := by omega
                              clear KH hrd hxx
                              go_wp2_with fail
                              refine (KH1.out _).mono ?_
                              rintro e w3 ⟨rfl, rfl⟩
                              go_wp2_with fail
                              refine (KH1.out _).mono ?_
                              rintro e w3 ⟨rfl, rfl⟩
                              go_wp2
                              go_round
                              case rel => exact .inr (.inr ⟨d, dn, 16 * d + dn, rfl, by go_num, by go_num, HD.out, HRD.out, by omega, rfl⟩)
                              case measure => simp [intOf]
                          · have hre3 := HRE2.out
                            rw [HD.out] at hre3
                            have hQ2 : P + 3 = s.size := by omega
                            rw [show P + 1 + 1 + 1 = s.size from hQ2, cut_nil] at hre3
                            simp only [rdig, ↓reduceIte] at hre3
                            have hrl2 := HRL.out
                            rw [hre3, if_neg (by simp)] at hrl2
                            have HR2 := Lib.hid hrl2
                            have hQn : ((P : Int) + 1 + 1 + 1  == s.size) = true := by rw [beq_iff_eq]; omega
                            have hQn2 : ((P : Int) + 3 == s.size) = true := by rw [beq_iff_eq]; omega
                            clear hrd0 hre3 hrl2 hQ2
                            go_wp2
                            refine bodyPost_ret (results_tmp3 rfl _ _ _) rfl ?_
                            exact lit3_no HR2.out (by omega) HB.out
                        · have hdd : d < 16 := by
                            have := rdig_lt (bs (cut s (P + 1 + 1)))
                            rw [hd] at this
                            exact this
                          have hdd2 : d2 < 16 := by
                            have := rdig_lt (bs (cut s (P + 1 + 2)))
                            rw [hd2] at this
                            exact this
                          have hre3 := HRE2.out
                          rw [hd, if_pos rfl, show P + 1 + 1 + 1 = P + 1 + 2 from rfl, hd2, ← hN] at hre3
                          simp only at hre3
                          have hrl2 := HRL.out
                          rw [hre3, if_pos rfl, map_snoc] at hrl2
                          simp only [Nat.reduceAdd] at hrl2
                          have HR2 := Lib.hid hrl2
                          have hN2 : N < 256 := by omega
                          have hNI : (N : Int) < 256 := by omega
                          clear hd hd2 hre3 hrl2 HRL HRE2 hN hdd hdd2
                          go_wp2_with ((at_builtin; refine wpList_append_own _ rfl _ _ 109 rfl w.heap.size 5 i0 (.int .u8 0) 1 1 Try.underlying109 hi0 hz0 hz1 hz2 rfl (by decide) _ _ _ rfl (HO.out.alloc _) ⟨wr.heap.size, 0, none⟩ 1 1 [.int .u8 N] rfl rfl (row_new _ [.int .u8 N] _ _ rfl) (by simp [Value.oneCell']) (by unfold maxLen; omega) (by omega) (by simp; omega) ?_))
                          intro v' w4 hown4 hgrow4 _
                          have HO4 := Lib.hid hown4
                          have HG4 := Lib.hid hgrow4
                          clear hown4 hgrow4
                          go_wp2
                          have hfin := lit_grow (s := s) (q := q) (p0 := at_ + 1) (tot := tot) (P := P) (P' := P + 4) (f := f) (UInt8.ofNat N) _ HB.out HO.out (by rw [u8v_of _ hN2]; exact HO4.out) HG4.out hacc (by omega) (by omega) (by omega) (by rw [HR2.out]; congr 1; omega)
                          have e4 : (P : Int) + 1 + 2 + 1 = ((P + 4 : Nat) : Int) := by omega
                          rw [e4]
                          exact ⟨hfin, by simp [intOf]; omega⟩
                    · have n120 : ((c2.toNat : Int) == 120) = false := by rw [beq_eq_false_iff_ne]; omega
                      have hre := HRE.out
                      rw [← HC2.out, if_neg hA, if_neg h110, if_neg h116, if_neg h120] at hre
                      have hrl2 := HRL.out
                      rw [hre, if_neg (by simp)] at hrl2
                      have HR2 := Lib.hid hrl2
                      clear hre hrl2 HRL HRE hA h110 h116 h120
                      go_wp2
                      refine bodyPost_ret (results_tmp3 rfl _ _ _) rfl ?_
                      exact lit3_no HR2.out (by omega) HB.out
            · have hP2 : P + 1 = s.size := by omega
              have hPn : ((P : Int) + 1 == s.size) = true := by rw [beq_iff_eq]; omega
              have hno : tot = (none, P - (at_ + 1) + 1) := by
                rw [HRL.out, hP2, cut_nil]; rfl
              have HN := Lib.hid hno
              clear HRL hno hP2
              go_wp2
              refine bodyPost_ret (results_tmp3 rfl _ _ _) rfl ?_
              exact lit3_no HN.out (by omega) HB.out
          · rw [if_neg h92] at hrl
            have e3 : ((s[P].toNat : Int) != 92) = true := by rw [bne_iff_ne]; omega
            have HRL := Lib.hid hrl
            clear hrl h92 hne hcq hpl q1 q2
            go_wp2_with ((at_builtin; refine wpList_append_own _ rfl _ _ 109 rfl w.heap.size 5 i0 (.int .u8 0) 1 1 Try.underlying109 hi0 hz0 hz1 hz2 rfl (by decide) _ _ _ rfl (HO.out.alloc _) ⟨wr.heap.size, 0, none⟩ 1 1 [.int .u8 s[P].toNat] rfl rfl (row_new _ [.int .u8 s[P].toNat] _ _ rfl) (by simp [Value.oneCell']) (by unfold maxLen; omega) (by omega) (by simp; omega) ?_))
            intro v' w4 hown4 hgrow4 _
            have HO4 := Lib.hid hown4
            have HG4 := Lib.hid hgrow4
            clear hown4 hgrow4
            go_wp2
            have hfin := lit_grow (s := s) (q := q) (p0 := at_ + 1) (tot := tot) (P := P) (P' := P + 1) (f := f) s[P] _ HB.out HO.out HO4.out HG4.out hacc (by omega) (by omega) (by omega) (by rw [HRL.out, map_snoc]; congr 1; omega)
            rw [Int.natCast_add] at hfin
            first
              | exact ⟨hfin, by simp [intOf]; omega⟩
              | (go_roundw
                 case rel => exact hfin
                 case measure => simp [intOf]; omega)
        · rw [if_pos (by simpa using hpl)] at hrl
          have hor : (s[P].toNat : Int) < 32 ∨ (32 : Int) ≤ s[P].toNat ∧ (126 : Int) < s[P].toNat := by
            simp [plainN] at hpl; omega
          have HRL := Lib.hid hrl
          clear hrl hpl hcq hne
          rcases hor with h | ⟨h, h2⟩
          all_goals
            go_wp2
            refine bodyPost_ret (results_tmp3 rfl _ _ _) rfl ?_
            exact lit3_no HRL.out (by omega) HB.out
    · obtain rfl : P = s.size := by omega
      rw [cut_nil, rlit] at hrl
      have HRL := Lib.hid hrl
      have e2 : ((s.size : Int) == s.size) = true := by simp
      clear hrl
      go_wp2
      refine bodyPost_ret (results_tmp3 rfl _ _ _) rfl ?_
      exact lit3_no HRL.out (by omega) HB.out

end Go.Proofs.Ytppdemdjlhdfcaa.Lx
