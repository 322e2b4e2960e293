/-
  The walk of the document's plain Quote.
-/
import Derived.Test.YtdknlifpoihnmaaQtQuote
namespace Go.Proofs.Ytdknlifpoihnmaa.Qt
open Go.RowKit
set_option maxRecDepth 100000

theorem bytes_new (l : List UInt8) (n : Nat) (hn : n = l.length) (cs : Array Value) (hcs : cs = (l.map u8v).toArray) (W : World) :
    (convert 76 9 (.slice (some ⟨W.heap.size, 0, none⟩) n n)).run Try.prog (W.alloc (.cells cs 5)) = .ok (.string (mk l)) (W.alloc (.cells cs 5)) := by
  subst hn
  subst hcs
  have := run_convert_bytes_back (P := Try.prog) (W.alloc (.cells (l.map u8v).toArray 5)) 76 9 5 ⟨W.heap.size, 0, none⟩ l.length l Try.underlying76 Try.underlying5 Try.underlying9 (fun j hj => by
    refine row_new W (l.map u8v) _ _ rfl j _ ?_
    rw [List.getElem?_map, List.getElem?_eq_getElem hj]
    rfl)
  exact this
theorem bytes_newd (l : List UInt8) (n : Nat) (hn : n = l.length) (cs : Array Value) (hcs : cs = (l.map u8v).toArray) (W : World) :
    (convert 76 9 (.slice (some ⟨W.heap.size, 0, none⟩) n n)).run Try.prog (W.alloc (.cells cs 5)).drew = .ok (.string (mk l)) (W.alloc (.cells cs 5)).drew := by
  subst hn
  subst hcs
  have := run_convert_bytes_back (P := Try.prog) (W.alloc (.cells (l.map u8v).toArray 5)).drew 76 9 5 ⟨W.heap.size, 0, none⟩ l.length l Try.underlying76 Try.underlying5 Try.underlying9 (fun j hj => by
    refine row_new W (l.map u8v) _ _ rfl j _ ?_
    rw [List.getElem?_map, List.getElem?_eq_getElem hj]
    rfl)
  exact this
theorem mk_cat (a b : List UInt8) : mk a ++ mk b = mk (a ++ b) := by
  apply ByteArray.ext
  simp [mk]
theorem mk_size (l : List UInt8) : (mk l).size = l.length := rfl

theorem qch_q (q : UInt8) (hq : q.toNat = 39 ∨ q.toNat = 34) (c : UInt8) (h : c = q) : qch q c = [92, c] := by
  subst h
  rw [qch, if_neg (by omega), if_neg (by omega), if_pos (.inr rfl)]
theorem qch_92 (q c : UInt8) (h : c.toNat = 92) : qch q c = [92, c] := by
  rw [qch, if_neg (by omega), if_neg (by omega), if_pos (.inl h)]
theorem qch_10 (q c : UInt8) (h : c.toNat = 10) : qch q c = [92, 110] := by rw [qch, if_pos h]
theorem qch_9 (q c : UInt8) (h : c.toNat = 9) : qch q c = [92, 116] := by rw [qch, if_neg (by omega), if_pos h]
theorem qch_hex (q : UInt8) (hq : q.toNat = 39 ∨ q.toNat = 34) (c : UInt8) (h10 : c.toNat ≠ 10) (h9 : c.toNat ≠ 9) (h : c.toNat < 32 ∨ 126 < c.toNat) : qch q c = [92, 120, hexC (c.toNat / 16), hexC (c.toNat % 16)] := by
  rw [qch, if_neg h10, if_neg h9, if_neg (by rintro (e | e); omega; subst e; omega), if_neg (by simp [plainN]; omega)]
theorem qch_plain (q c : UInt8) (h92 : c.toNat ≠ 92) (hcq : c ≠ q) (h : 32 ≤ c.toNat) (h2 : c.toNat ≤ 126) : qch q c = [c] := by
  rw [qch, if_neg (by omega), if_neg (by omega), if_neg (by rintro (e | e); exact h92 e; exact hcq e), if_pos (by simp [plainN]; omega)]

theorem count_snoc (l : List UInt8) (c x : UInt8) : Lib.countByte (l ++ [c]) x = Lib.countByte l x + if c = x then 1 else 0 := by
  unfold Lib.countByte
  rw [List.count_append, List.count_singleton]
  by_cases h : c = x <;> simp [h]
theorem count_le (l : List UInt8) (x : UInt8) : Lib.countByte l x ≤ l.length := List.count_le_length

/-- How far the plain Quote is. -/
def RqAt (s : ByteArray) (q : UInt8) (w wr : World) (v n : Value) : Prop :=
  ∃ (k : Nat) (t : ByteArray), k ≤ s.size ∧ n = .int .i64 k ∧ t = mk (q :: qbody q ((bs s).take k)) ∧ v = .string t ∧ Below w.heap.size w wr
/-- The counts. -/
def CtAt (s : ByteArray) (a b n : Value) : Prop := ∃ k : Nat, k ≤ s.size ∧ n = .int .i64 k ∧ a = .int .i64 (Lib.countByte ((bs s).take k) 39) ∧ b = .int .i64 (Lib.countByte ((bs s).take k) 34)

set_option maxRecDepth 100000 in
set_option maxHeartbeats 8000000 in
theorem rquote_any (s : ByteArray) (w : World) (hs : s.size ≤ 200000) :
    Calls Try.prog 35 #[.string s] w fun e w' => e = .returned (.string (mk (quoteL (qOf (bs s)) (bs s)))) ∧ Below w.heap.size w w' := by
  obtain ⟨q, hq⟩ : ∃ q, q = qOf (bs s) := ⟨_, rfl⟩
  rw [← hq]
  have HQ := Lib.hid hq
  have hq3 := qOf_is (bs s)
  rw [← hq] at hq3
  clear hq
  go_enter Try.func35, Try.ntmps35
  go_wp2
  go_loop [3, 4, 5] (fun a b n => CtAt s a b n) (fun _ _ n => s.size - (intOf n).toNat)
  case atStart => exact ⟨0, by omega, rfl, rfl, rfl⟩
  case round =>
    obtain ⟨k, hk, rfl, rfl, rfl⟩ := hrel
    obtain ⟨n1, hn1⟩ : ∃ n, n = Lib.countByte ((bs s).take k) 39 := ⟨_, rfl⟩
    obtain ⟨n2, hn2⟩ : ∃ n, n = Lib.countByte ((bs s).take k) 34 := ⟨_, rfl⟩
    have h1 := count_le ((bs s).take k) 39
    have h2 := count_le ((bs s).take k) 34
    rw [List.length_take] at h1 h2
    rw [← hn1] at h1 ⊢
    rw [← hn2] at h2 ⊢
    have HN1 := Lib.hid hn1
    have HN2 := Lib.hid hn2
    clear hn1 hn2
    by_cases hks : k < s.size
    · have hc1 := count_snoc ((bs s).take k) s[k] 39
      have hc2 := count_snoc ((bs s).take k) s[k] 34
      rw [← take_snoc' s k hks, ← HN1.out] at hc1
      rw [← take_snoc' s k hks, ← HN2.out] at hc2
      by_cases h39 : s[k] = 39
      · have e1 : ((s[k].toNat : Int) == 39) = true := by rw [h39]; rfl
        have e2 : ((s[k].toNat : Int) == 34) = false := by rw [h39]; rfl
        rw [if_pos h39] at hc1
        rw [if_neg (by rw [h39]; decide)] at hc2
        have H1 := Lib.hid hc1
        have H2 := Lib.hid hc2
        clear hc1 hc2 h39
        go_wp2
        go_round
        case rel => exact ⟨k + 1, by omega, by go_num, by rw [H1.out]; go_num, by rw [H2.out]; rfl⟩
        case measure => simp [intOf]; omega
      · have hne : s[k].toNat ≠ 39 := fun e => h39 (UInt8.toNat_inj.mp e)
        have e1 : ((s[k].toNat : Int) == 39) = false := by rw [beq_eq_false_iff_ne]; omega
        rw [if_neg h39] at hc1
        by_cases h34 : s[k] = 34
        · have e2 : ((s[k].toNat : Int) == 34) = true := by rw [h34]; rfl
          rw [if_pos h34] at hc2
          have H1 := Lib.hid hc1
          have H2 := Lib.hid hc2
          clear hc1 hc2 h34 h39 hne
          go_wp2
          go_round
          case rel => exact ⟨k + 1, by omega, by go_num, by rw [H1.out]; rfl, by rw [H2.out]; go_num⟩
          case measure => simp [intOf]; omega
        · have hne2 : s[k].toNat ≠ 34 := fun e => h34 (UInt8.toNat_inj.mp e)
          have e2 : ((s[k].toNat : Int) == 34) = false := by rw [beq_eq_false_iff_ne]; omega
          rw [if_neg h34] at hc2
          have H1 := Lib.hid hc1
          have H2 := Lib.hid hc2
          clear hc1 hc2 h34 h39 hne hne2
          go_wp2
          go_round
          case rel => exact ⟨k + 1, by omega, by go_num, by rw [H1.out]; rfl, by rw [H2.out]; rfl⟩
          case measure => simp [intOf]; omega
    · obtain rfl : k = s.size := by omega
      have hts : (bs s).take s.size = bs s := List.take_of_length_le (by rw [bs_len]; omega)
      have hq2 : (n2 : Int) < n1 ∧ q = 34 ∨ (n1 : Int) ≤ n2 ∧ q = 39 := by
        have e1 := HN1.out
        have e2 := HN2.out
        rw [hts] at e1 e2
        have e := HQ.out
        unfold qOf at e
        rw [← e1, ← e2] at e
        by_cases h : n2 < n1
        · rw [if_pos h] at e; exact .inl ⟨by omega, e⟩
        · rw [if_neg h] at e; exact .inr ⟨by omega, e⟩
      clear HN1 HN2 hts
      rcases hq2 with ⟨hlt, rfl⟩ | ⟨hlt, rfl⟩
      · have hb1 := bytes_new [34] 1 rfl #[.int .u8 34] rfl
        obtain ⟨t0, ht0⟩ : ∃ t0, t0 = mk [34] := ⟨_, rfl⟩
        rw [← ht0] at hb1
        have HT0 := Lib.hid ht0
        clear ht0
        go_wp2
        go_loopw [8, 9] (fun v n wr => RqAt s 34 w wr v n) (fun _ n _ => s.size - (intOf n).toNat)
        case atStart => exact ⟨0, t0, by omega, rfl, HT0.out, rfl, (Below.refl _ _).alloc (Nat.le_refl _) _⟩
        case round =>
          obtain ⟨k, t, hk, rfl, ht, rfl, hbel⟩ := hrel
          have hts : t.size ≤ 1 + 4 * k := by
            have := qbody_len 34 ((bs s).take k)
            rw [List.length_take] at this
            rw [ht, mk_size, List.length_cons]
            omega
          clear hb1
          by_cases hks : k < s.size
          · have hlt256 := s[k].toNat_lt
            by_cases hcq : s[k] = 34
            · have e1 : ((s[k].toNat : Int) == 34) = true := by rw [hcq]; rfl
              have hcn : (s[k].toNat : Int) = 34 := by rw [hcq]; rfl
              have hqq := qch_q 34 (by decide) s[k] hcq
              rw [hcq] at hqq
              have hqq2 : qch 34 s[k] = [92, 34] := by rw [hcq]; exact hqq
              clear hqq hcq
              have hb2 := bytes_new [92, 34] 2 rfl #[.int .u8 92, .int .u8 34] rfl
              obtain ⟨t2, ht2⟩ : ∃ t2, t2 = mk [92, 34] := ⟨_, rfl⟩
              have ht2s : t2.size = 2 := by rw [ht2]; rfl
              have hcat : ¬ 9223372036854775807 < t.size + t2.size := by omega
              have hstep : t ++ t2 = mk (34 :: qbody 34 ((bs s).take (k + 1))) := by rw [ht, ht2, mk_cat, take_snoc' s k hks, qbody_snoc, hqq2]; rfl
              rw [← ht2] at hb2
              have HS := Lib.hid hstep
              have HBL := Lib.hid hbel
              clear hqq2 ht ht2 ht2s hstep hbel
              go_wp2
              go_roundw
              case rel => exact ⟨k + 1, _, by omega, by go_num, HS.out, rfl, HBL.out.alloc HBL.out.size _⟩
              case measure => simp [intOf]; omega
            · have hne : s[k].toNat ≠ 34 := fun e => hcq (UInt8.toNat_inj.mp e)
              have e1 : ((s[k].toNat : Int) == 34) = false := by rw [beq_eq_false_iff_ne]; omega
              by_cases h92 : s[k].toNat = 92
              · have e2 : ((s[k].toNat : Int) == 92) = true := by rw [beq_iff_eq]; omega
                have hqq := qch_92 34 s[k] h92
                clear hne hcq
                have hb2 := bytes_new [92, s[k]] 2 rfl #[.int .u8 92, .int .u8 s[k].toNat] rfl
                obtain ⟨t2, ht2⟩ : ∃ t2, t2 = mk [92, s[k]] := ⟨_, rfl⟩
                have ht2s : t2.size = 2 := by rw [ht2]; rfl
                have hcat : ¬ 9223372036854775807 < t.size + t2.size := by omega
                have hstep : t ++ t2 = mk (34 :: qbody 34 ((bs s).take (k + 1))) := by rw [ht, ht2, mk_cat, take_snoc' s k hks, qbody_snoc, hqq]; rfl
                rw [← ht2] at hb2
                have HS := Lib.hid hstep
                have HBL := Lib.hid hbel
                clear hqq h92 ht ht2 ht2s hstep hbel
                go_wp2
                go_roundw
                case rel => exact ⟨k + 1, _, by omega, by go_num, HS.out, rfl, HBL.out.alloc HBL.out.size _⟩
                case measure => simp [intOf]; omega
              · have e2 : ((s[k].toNat : Int) == 92) = false := by rw [beq_eq_false_iff_ne]; omega
                by_cases h10 : s[k].toNat = 10
                · have e3 : ((s[k].toNat : Int) == 10) = true := by rw [beq_iff_eq]; omega
                  have hqq := qch_10 34 s[k] h10
                  clear hne hcq h92
                  have hb2 := bytes_new [92, 110] 2 rfl #[.int .u8 92, .int .u8 110] rfl
                  obtain ⟨t2, ht2⟩ : ∃ t2, t2 = mk [92, 110] := ⟨_, rfl⟩
                  have ht2s : t2.size = 2 := by rw [ht2]; rfl
                  have hcat : ¬ 9223372036854775807 < t.size + t2.size := by omega
                  have hstep : t ++ t2 = mk (34 :: qbody 34 ((bs s).take (k + 1))) := by rw [ht, ht2, mk_cat, take_snoc' s k hks, qbody_snoc, hqq]; rfl
                  rw [← ht2] at hb2
                  have HS := Lib.hid hstep
                  have HBL := Lib.hid hbel
                  clear hqq h10 ht ht2 ht2s hstep hbel
                  go_wp2
                  go_roundw
                  case rel => exact ⟨k + 1, _, by omega, by go_num, HS.out, rfl, HBL.out.alloc HBL.out.size _⟩
                  case measure => simp [intOf]; omega
                · have e3 : ((s[k].toNat : Int) == 10) = false := by rw [beq_eq_false_iff_ne]; omega
                  by_cases h9 : s[k].toNat = 9
                  · have e4 : ((s[k].toNat : Int) == 9) = true := by rw [beq_iff_eq]; omega
                    have hqq := qch_9 34 s[k] h9
                    clear hne hcq h92 h10
                    have hb2 := bytes_new [92, 116] 2 rfl #[.int .u8 92, .int .u8 116] rfl
                    obtain ⟨t2, ht2⟩ : ∃ t2, t2 = mk [92, 116] := ⟨_, rfl⟩
                    have ht2s : t2.size = 2 := by rw [ht2]; rfl
                    have hcat : ¬ 9223372036854775807 < t.size + t2.size := by omega
                    have hstep : t ++ t2 = mk (34 :: qbody 34 ((bs s).take (k + 1))) := by rw [ht, ht2, mk_cat, take_snoc' s k hks, qbody_snoc, hqq]; rfl
                    rw [← ht2] at hb2
                    have HS := Lib.hid hstep
                    have HBL := Lib.hid hbel
                    clear hqq h9 ht ht2 ht2s hstep hbel
                    go_wp2
                    go_roundw
                    case rel => exact ⟨k + 1, _, by omega, by go_num, HS.out, rfl, HBL.out.alloc HBL.out.size _⟩
                    case measure => simp [intOf]; omega
                  · have e4 : ((s[k].toNat : Int) == 9) = false := by rw [beq_eq_false_iff_ne]; omega
                    by_cases hin : 32 ≤ s[k].toNat ∧ s[k].toNat ≤ 126
                    · obtain ⟨hp1, hp2⟩ := hin
                      have hqq := qch_plain 34 s[k] h92 hcq hp1 hp2
                      have p1 : (32 : Int) ≤ s[k].toNat := by omega
                      have p2 : (s[k].toNat : Int) ≤ 126 := by omega
                      clear hne hcq h92 h10 h9
                      have hb2 := bytes_new [s[k]] 1 rfl #[.int .u8 s[k].toNat] rfl
                      obtain ⟨t2, ht2⟩ : ∃ t2, t2 = mk [s[k]] := ⟨_, rfl⟩
                      have ht2s : t2.size = 1 := by rw [ht2]; rfl
                      have hcat : ¬ 9223372036854775807 < t.size + t2.size := by omega
                      have hstep : t ++ t2 = mk (34 :: qbody 34 ((bs s).take (k + 1))) := by rw [ht, ht2, mk_cat, take_snoc' s k hks, qbody_snoc, hqq]; rfl
                      rw [← ht2] at hb2
                      have HS := Lib.hid hstep
                      have HBL := Lib.hid hbel
                      clear hqq ht ht2 ht2s hstep hbel
                      go_wp2
                      go_roundw
                      case rel => exact ⟨k + 1, _, by omega, by go_num, HS.out, rfl, HBL.out.alloc HBL.out.size _⟩
                      case measure => simp [intOf]; omega
                    · have hqq := qch_hex 34 (by decide) s[k] h10 h9 (by omega)
                      have hA : (s[k].toNat : Int) / 16 = ((s[k].toNat / 16 : Nat) : Int) := by omega
                      have hB : (s[k].toNat : Int) % 16 = ((s[k].toNat % 16 : Nat) : Int) := by omega
                      have ha16 : s[k].toNat / 16 < 16 := by omega
                      have hb16 : s[k].toNat % 16 < 16 := by omega
                      have hor : (s[k].toNat : Int) < 32 ∨ (32 : Int) ≤ s[k].toNat ∧ (126 : Int) < s[k].toNat := by omega
                      obtain ⟨a, ha⟩ : ∃ a, a = s[k].toNat / 16 := ⟨_, rfl⟩
                      obtain ⟨b, hbb⟩ : ∃ b, b = s[k].toNat % 16 := ⟨_, rfl⟩
                      rw [← ha] at ha16 hA hqq
                      rw [← hbb] at hb16 hB hqq
                      have hxa : ∀ h, dgtL[a]'h = hexC a := fun _ => hexC_at ⟨a, ha16⟩
                      have hxb : ∀ h, dgtL[b]'h = hexC b := fun _ => hexC_at ⟨b, hb16⟩
                      have haI : (a : Int) < 16 := by omega
                      have hbI : (b : Int) < 16 := by omega
                      have hb2 := bytes_new [92, 120, hexC a, hexC b] 4 rfl #[.int .u8 92, .int .u8 120, .int .u8 (hexC a).toNat, .int .u8 (hexC b).toNat] rfl
                      obtain ⟨t2, ht2⟩ : ∃ t2, t2 = mk [92, 120, hexC a, hexC b] := ⟨_, rfl⟩
                      have ht2s : t2.size = 4 := by rw [ht2]; rfl
                      have hcat : ¬ 9223372036854775807 < t.size + t2.size := by omega
                      have hstep : t ++ t2 = mk (34 :: qbody 34 ((bs s).take (k + 1))) := by rw [ht, ht2, mk_cat, take_snoc' s k hks, qbody_snoc, hqq]; rfl
                      have hb3 := bytes_newd [92, 120, hexC a, hexC b] 4 rfl #[.int .u8 92, .int .u8 120, .int .u8 (hexC a).toNat, .int .u8 (hexC b).toNat] rfl
                      rw [← ht2] at hb2 hb3
                      have HS := Lib.hid hstep
                      have HBL := Lib.hid hbel
                      clear ht ht2 ht2s hstep hbel hqq hne hcq h92 h10 h9 hin ha hbb
                      rcases hor with p1 | ⟨p1, p2⟩
                      all_goals
                        go_wp2_with fail
                        go_region
                        go_wp2
                        go_roundw
                        case rel => exact ⟨k + 1, _, by omega, by go_num, HS.out, rfl, below_drew (HBL.out.alloc HBL.out.size _)⟩
                        case measure => simp [intOf]; omega
          · obtain rfl : k = s.size := by omega
            have hb3 := bytes_new [34] 1 rfl #[.int .u8 34] rfl
            obtain ⟨t2, ht2⟩ : ∃ t2, t2 = mk [34] := ⟨_, rfl⟩
            have ht2s : t2.size = 1 := by rw [ht2]; rfl
            have hcat : ¬ 9223372036854775807 < t.size + t2.size := by omega
            have hstep : t ++ t2 = mk (quoteL 34 (bs s)) := by rw [ht, ht2, mk_cat, List.take_of_length_le (by rw [bs_len]; omega)]; rfl
            rw [← ht2] at hb3
            have HS := Lib.hid hstep
            have HBL := Lib.hid hbel
            clear ht ht2 ht2s hstep hbel
            go_wp2
            go_ret
            exact ⟨by rw [HS.out]; rfl, HBL.out.alloc HBL.out.size _⟩
      · have hb1 := bytes_new [39] 1 rfl #[.int .u8 39] rfl
        obtain ⟨t0, ht0⟩ : ∃ t0, t0 = mk [39] := ⟨_, rfl⟩
        rw [← ht0] at hb1
        have HT0 := Lib.hid ht0
        clear ht0
        go_wp2
        go_loopw [8, 9] (fun v n wr => RqAt s 39 w wr v n) (fun _ n _ => s.size - (intOf n).toNat)
        case atStart => exact ⟨0, t0, by omega, rfl, HT0.out, rfl, (Below.refl _ _).alloc (Nat.le_refl _) _⟩
        case round =>
          obtain ⟨k, t, hk, rfl, ht, rfl, hbel⟩ := hrel
          have hts : t.size ≤ 1 + 4 * k := by
            have := qbody_len 39 ((bs s).take k)
            rw [List.length_take] at this
            rw [ht, mk_size, List.length_cons]
            omega
          clear hb1
          by_cases hks : k < s.size
          · have hlt256 := s[k].toNat_lt
            by_cases hcq : s[k] = 39
            · have e1 : ((s[k].toNat : Int) == 39) = true := by rw [hcq]; rfl
              have hcn : (s[k].toNat : Int) = 39 := by rw [hcq]; rfl
              have hqq := qch_q 39 (by decide) s[k] hcq
              rw [hcq] at hqq
              have hqq2 : qch 39 s[k] = [92, 39] := by rw [hcq]; exact hqq
              clear hqq hcq
              have hb2 := bytes_new [92, 39] 2 rfl #[.int .u8 92, .int .u8 39] rfl
              obtain ⟨t2, ht2⟩ : ∃ t2, t2 = mk [92, 39] := ⟨_, rfl⟩
              have ht2s : t2.size = 2 := by rw [ht2]; rfl
              have hcat : ¬ 9223372036854775807 < t.size + t2.size := by omega
              have hstep : t ++ t2 = mk (39 :: qbody 39 ((bs s).take (k + 1))) := by rw [ht, ht2, mk_cat, take_snoc' s k hks, qbody_snoc, hqq2]; rfl
              rw [← ht2] at hb2
              have HS := Lib.hid hstep
              have HBL := Lib.hid hbel
              clear hqq2 ht ht2 ht2s hstep hbel
              go_wp2
              go_roundw
              case rel => exact ⟨k + 1, _, by omega, by go_num, HS.out, rfl, HBL.out.alloc HBL.out.size _⟩
              case measure => simp [intOf]; omega
            · have hne : s[k].toNat ≠ 39 := fun e => hcq (UInt8.toNat_inj.mp e)
              have e1 : ((s[k].toNat : Int) == 39) = false := by rw [beq_eq_false_iff_ne]; omega
              by_cases h92 : s[k].toNat = 92
              · have e2 : ((s[k].toNat : Int) == 92) = true := by rw [beq_iff_eq]; omega
                have hqq := qch_92 39 s[k] h92
                clear hne hcq
                have hb2 := bytes_new [92, s[k]] 2 rfl #[.int .u8 92, .int .u8 s[k].toNat] rfl
                obtain ⟨t2, ht2⟩ : ∃ t2, t2 = mk [92, s[k]] := ⟨_, rfl⟩
                have ht2s : t2.size = 2 := by rw [ht2]; rfl
                have hcat : ¬ 9223372036854775807 < t.size + t2.size := by omega
                have hstep : t ++ t2 = mk (39 :: qbody 39 ((bs s).take (k + 1))) := by rw [ht, ht2, mk_cat, take_snoc' s k hks, qbody_snoc, hqq]; rfl
                rw [← ht2] at hb2
                have HS := Lib.hid hstep
                have HBL := Lib.hid hbel
                clear hqq h92 ht ht2 ht2s hstep hbel
                go_wp2
                go_roundw
                case rel => exact ⟨k + 1, _, by omega, by go_num, HS.out, rfl, HBL.out.alloc HBL.out.size _⟩
                case measure => simp [intOf]; omega
              · have e2 : ((s[k].toNat : Int) == 92) = false := by rw [beq_eq_false_iff_ne]; omega
                by_cases h10 : s[k].toNat = 10
                · have e3 : ((s[k].toNat : Int) == 10) = true := by rw [beq_iff_eq]; omega
                  have hqq := qch_10 39 s[k] h10
                  clear hne hcq h92
                  have hb2 := bytes_new [92, 110] 2 rfl #[.int .u8 92, .int .u8 110] rfl
                  obtain ⟨t2, ht2⟩ : ∃ t2, t2 = mk [92, 110] := ⟨_, rfl⟩
                  have ht2s : t2.size = 2 := by rw [ht2]; rfl
                  have hcat : ¬ 9223372036854775807 < t.size + t2.size := by omega
                  have hstep : t ++ t2 = mk (39 :: qbody 39 ((bs s).take (k + 1))) := by rw [ht, ht2, mk_cat, take_snoc' s k hks, qbody_snoc, hqq]; rfl
                  rw [← ht2] at hb2
                  have HS := Lib.hid hstep
                  have HBL := Lib.hid hbel
                  clear hqq h10 ht ht2 ht2s hstep hbel
                  go_wp2
                  go_roundw
                  case rel => exact ⟨k + 1, _, by omega, by go_num, HS.out, rfl, HBL.out.alloc HBL.out.size _⟩
                  case measure => simp [intOf]; omega
                · have e3 : ((s[k].toNat : Int) == 10) = false := by rw [beq_eq_false_iff_ne]; omega
                  by_cases h9 : s[k].toNat = 9
                  · have e4 : ((s[k].toNat : Int) == 9) = true := by rw [beq_iff_eq]; omega
                    have hqq := qch_9 39 s[k] h9
                    clear hne hcq h92 h10
                    have hb2 := bytes_new [92, 116] 2 rfl #[.int .u8 92, .int .u8 116] rfl
                    obtain ⟨t2, ht2⟩ : ∃ t2, t2 = mk [92, 116] := ⟨_, rfl⟩
                    have ht2s : t2.size = 2 := by rw [ht2]; rfl
                    have hcat : ¬ 9223372036854775807 < t.size + t2.size := by omega
                    have hstep : t ++ t2 = mk (39 :: qbody 39 ((bs s).take (k + 1))) := by rw [ht, ht2, mk_cat, take_snoc' s k hks, qbody_snoc, hqq]; rfl
                    rw [← ht2] at hb2
                    have HS := Lib.hid hstep
                    have HBL := Lib.hid hbel
                    clear hqq h9 ht ht2 ht2s hstep hbel
                    go_wp2
                    go_roundw
                    case rel => exact ⟨k + 1, _, by omega, by go_num, HS.out, rfl, HBL.out.alloc HBL.out.size _⟩
                    case measure => simp [intOf]; omega
                  · have e4 : ((s[k].toNat : Int) == 9) = false := by rw [beq_eq_false_iff_ne]; omega
                    by_cases hin : 32 ≤ s[k].toNat ∧ s[k].toNat ≤ 126
                    · obtain ⟨hp1, hp2⟩ := hin
                      have hqq := qch_plain 39 s[k] h92 hcq hp1 hp2
                      have p1 : (32 : Int) ≤ s[k].toNat := by omega
                      have p2 : (s[k].toNat : Int) ≤ 126 := by omega
                      clear hne hcq h92 h10 h9
                      have hb2 := bytes_new [s[k]] 1 rfl #[.int .u8 s[k].toNat] rfl
                      obtain ⟨t2, ht2⟩ : ∃ t2, t2 = mk [s[k]] := ⟨_, rfl⟩
                      have ht2s : t2.size = 1 := by rw [ht2]; rfl
                      have hcat : ¬ 9223372036854775807 < t.size + t2.size := by omega
                      have hstep : t ++ t2 = mk (39 :: qbody 39 ((bs s).take (k + 1))) := by rw [ht, ht2, mk_cat, take_snoc' s k hks, qbody_snoc, hqq]; rfl
                      rw [← ht2] at hb2
                      have HS := Lib.hid hstep
                      have HBL := Lib.hid hbel
                      clear hqq ht ht2 ht2s hstep hbel
                      go_wp2
                      go_roundw
                      case rel => exact ⟨k + 1, _, by omega, by go_num, HS.out, rfl, HBL.out.alloc HBL.out.size _⟩
                      case measure => simp [intOf]; omega
                    · have hqq := qch_hex 39 (by decide) s[k] h10 h9 (by omega)
                      have hA : (s[k].toNat : Int) / 16 = ((s[k].toNat / 16 : Nat) : Int) := by omega
                      have hB : (s[k].toNat : Int) % 16 = ((s[k].toNat % 16 : Nat) : Int) := by omega
                      have ha16 : s[k].toNat / 16 < 16 := by omega
                      have hb16 : s[k].toNat % 16 < 16 := by omega
                      have hor : (s[k].toNat : Int) < 32 ∨ (32 : Int) ≤ s[k].toNat ∧ (126 : Int) < s[k].toNat := by omega
                      obtain ⟨a, ha⟩ : ∃ a, a = s[k].toNat / 16 := ⟨_, rfl⟩
                      obtain ⟨b, hbb⟩ : ∃ b, b = s[k].toNat % 16 := ⟨_, rfl⟩
                      rw [← ha] at ha16 hA hqq
                      rw [← hbb] at hb16 hB hqq
                      have hxa : ∀ h, dgtL[a]'h = hexC a := fun _ => hexC_at ⟨a, ha16⟩
                      have hxb : ∀ h, dgtL[b]'h = hexC b := fun _ => hexC_at ⟨b, hb16⟩
                      have haI : (a : Int) < 16 := by omega
                      have hbI : (b : Int) < 16 := by omega
                      have hb2 := bytes_new [92, 120, hexC a, hexC b] 4 rfl #[.int .u8 92, .int .u8 120, .int .u8 (hexC a).toNat, .int .u8 (hexC b).toNat] rfl
                      obtain ⟨t2, ht2⟩ : ∃ t2, t2 = mk [92, 120, hexC a, hexC b] := ⟨_, rfl⟩
                      have ht2s : t2.size = 4 := by rw [ht2]; rfl
                      have hcat : ¬ 9223372036854775807 < t.size + t2.size := by omega
                      have hstep : t ++ t2 = mk (39 :: qbody 39 ((bs s).take (k + 1))) := by rw [ht, ht2, mk_cat, take_snoc' s k hks, qbody_snoc, hqq]; rfl
                      have hb3 := bytes_newd [92, 120, hexC a, hexC b] 4 rfl #[.int .u8 92, .int .u8 120, .int .u8 (hexC a).toNat, .int .u8 (hexC b).toNat] rfl
                      rw [← ht2] at hb2 hb3
                      have HS := Lib.hid hstep
                      have HBL := Lib.hid hbel
                      clear ht ht2 ht2s hstep hbel hqq hne hcq h92 h10 h9 hin ha hbb
                      rcases hor with p1 | ⟨p1, p2⟩
                      all_goals
                        go_wp2_with fail
                        go_region
                        go_wp2
                        go_roundw
                        case rel => exact ⟨k + 1, _, by omega, by go_num, HS.out, rfl, below_drew (HBL.out.alloc HBL.out.size _)⟩
                        case measure => simp [intOf]; omega
          · obtain rfl : k = s.size := by omega
            have hb3 := bytes_new [39] 1 rfl #[.int .u8 39] rfl
            obtain ⟨t2, ht2⟩ : ∃ t2, t2 = mk [39] := ⟨_, rfl⟩
            have ht2s : t2.size = 1 := by rw [ht2]; rfl
            have hcat : ¬ 9223372036854775807 < t.size + t2.size := by omega
            have hstep : t ++ t2 = mk (quoteL 39 (bs s)) := by rw [ht, ht2, mk_cat, List.take_of_length_le (by rw [bs_len]; omega)]; rfl
            rw [← ht2] at hb3
            have HS := Lib.hid hstep
            have HBL := Lib.hid hbel
            clear ht ht2 ht2s hstep hbel
            go_wp2
            go_ret
            exact ⟨by rw [HS.out]; rfl, HBL.out.alloc HBL.out.size _⟩

end Go.Proofs.Ytdknlifpoihnmaa.Qt
