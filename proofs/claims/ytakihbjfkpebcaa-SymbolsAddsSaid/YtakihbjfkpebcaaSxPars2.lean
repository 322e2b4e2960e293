/-
  The walks of skip, need, name, closing, joined, around.
-/
import Derived.Test.YtakihbjfkpebcaaSxPars
namespace Go.Proofs.Ytakihbjfkpebcaa.Sx
open Go.RowKit
open Lx (Tk Toks)
set_option maxRecDepth 100000

def skp (ts : List Tk) (i : Nat) (c : UInt8) : Res Bool := if isSg ts i c = true then (match tak ts i with | .no l k e => .no l k e | .ok _ j => .ok true j) else .ok false i

theorem isSg_kind {ts : List Tk} {i : Nat} {c : UInt8} (h : isSg ts i c = true) : (tkAt ts i).kind ≠ 4 := by
  unfold isSg at h
  simp only [Bool.and_eq_true, decide_eq_true_eq] at h
  rw [h.1]; decide
theorem out_drew {α : Type} {W : World} {g r : Nat} {ts : List Tk} {cap d n : Nat} {R : Res α} {val : α → Value → World → Prop} {e : Ending} {w' : World} (h : Out (W.drewN n) g r ts cap d R val e w') : Out W g r ts cap d R val e w' := by
  have hs : ∀ {w' : World}, Lx.Sep g (W.drewN n).heap.size (W.drewN n) w' → Lx.Sep g W.heap.size W w' := fun s => (sep_drewN (Lx.Sep.refl g _ W) n).trans s
  cases R with
  | no l c k => exact ⟨h.1, hs h.2⟩
  | ok v j => obtain ⟨x, h1, h2, h3, h4⟩ := h; exact ⟨x, h1, h2, h3, hs h4⟩

set_option maxHeartbeats 2000000 in
theorem skip_any (W : World) (g r : Nat) (ts : List Tk) (cap i d : Nat) (c : UInt8) (h : PAt W g r ts cap i d) (hE : Ended ts) (hi : i < ts.length) (hn : ts.length ≤ 1048576) :
    Calls Try.prog 65 #[.pointer (some ⟨g, 0, none⟩), .string ⟨#[c]⟩] W (Out W g r ts cap d (skp ts i c) fun b x _ => x = .bool b) := by
  have KI := isSign_any W g r ts cap i d c h hi
  have HP := Lib.hid h
  cases hs : isSg ts i c
  · rw [hs] at KI
    have hr : skp ts i c = .ok false i := by unfold skp; rw [hs]; rfl
    rw [hr]
    have KI1 := Lib.hid KI
    clear KI h hs hr
    go_enter Try.func65, Try.ntmps65
    go_wp2_with fail
    refine KI1.out.mono ?_
    rintro e w1 ⟨rfl, m, rfl⟩
    go_wp2
    exact bodyPost_ret (results_tmp rfl _ _ _) rfl ⟨_, rfl, rfl, HP.out.drewN _, sep_drewN (Lx.Sep.refl _ _ _) _⟩
  · rw [hs] at KI
    have KT := fun m => take_any (W.drewN m) g r ts cap i d (h.drewN m) hE (isSg_kind hs) hn
    have hr : skp ts i c = (match tak ts i with | .no l k e => .no l k e | .ok _ j => .ok true j) := by unfold skp; rw [hs]; rfl
    rw [hr]
    have KI1 := Lib.hid KI
    clear KI h hs hr
    cases ht : tak ts i with
    | no l k q =>
      rw [ht] at KT
      have KT1 := Lib.hid (fun m => (KT m).mono fun e w' h => out_drew h)
      clear KT ht
      go_enter Try.func65, Try.ntmps65
      go_wp2_with fail
      refine KI1.out.mono ?_
      rintro e w1 ⟨rfl, m, rfl⟩
      go_wp2_with fail
      refine (KT1.out _).mono ?_
      rintro e w2 ⟨rfl, hsp⟩
      go_wp2
      exact ⟨rfl, rfl, hsp⟩
    | ok u j =>
      rw [ht] at KT
      have KT1 := Lib.hid (fun m => (KT m).mono fun e w' h => out_drew h)
      clear KT ht
      go_enter Try.func65, Try.ntmps65
      go_wp2_with fail
      refine KI1.out.mono ?_
      rintro e w1 ⟨rfl, m, rfl⟩
      go_wp2_with fail
      refine (KT1.out _).mono ?_
      rintro e w2 ⟨x, rfl, rfl, hp, hsp⟩
      go_wp2
      exact bodyPost_ret (results_tmp rfl _ _ _) rfl ⟨_, rfl, rfl, hp, hsp⟩

set_option maxHeartbeats 2000000 in
theorem need_any (W : World) (g r : Nat) (ts : List Tk) (cap i d : Nat) (c : UInt8) (h : PAt W g r ts cap i d) (hE : Ended ts) (hi : i < ts.length) (hn : ts.length ≤ 1048576) :
    Calls Try.prog 67 #[.pointer (some ⟨g, 0, none⟩), .string ⟨#[c]⟩] W (Out W g r ts cap d (need ts i c) fun _ x _ => x = .tuple #[]) := by
  have KS := skip_any W g r ts cap i d c h hE hi hn
  have KT := fun w1 (h1 : PAt w1 g r ts cap i d) => throw_any w1 g r ts cap i d 2 h1 hi
  clear h
  cases hs : isSg ts i c
  · have hr : skp ts i c = .ok false i := by unfold skp; rw [hs]; rfl
    have hr2 : need ts i c = .no (tkAt ts i).line (tkAt ts i).col 2 := by unfold need; rw [hs]; rfl
    rw [hr] at KS
    rw [hr2]
    have KS1 := Lib.hid KS
    have KT1 := Lib.hid KT
    clear KS KT hs hr hr2
    go_enter Try.func67, Try.ntmps67
    go_wp2_with fail
    refine KS1.out.mono ?_
    rintro e w1 ⟨x, rfl, rfl, hp, hsp⟩
    have HSP := Lib.hid hsp
    clear hsp
    go_wp2_with fail
    refine (KT1.out _ hp).mono ?_
    rintro e w2 ⟨rfl, b⟩
    have hfin := sep_below HSP.out HSP.out.size b
    clear b
    go_wp2
    exact ⟨rfl, rfl, hfin⟩
  · have hr : skp ts i c = (match tak ts i with | .no l k e => .no l k e | .ok _ j => .ok true j) := by unfold skp; rw [hs]; rfl
    have hr2 : need ts i c = tak ts i := by unfold need; rw [hs]; rfl
    rw [hr] at KS
    rw [hr2]
    clear hs hr hr2 KT
    cases ht : tak ts i with
    | no l k q =>
      rw [ht] at KS
      have KS1 := Lib.hid KS
      clear KS ht
      go_enter Try.func67, Try.ntmps67
      go_wp2_with fail
      refine KS1.out.mono ?_
      rintro e w1 ⟨rfl, hsp⟩
      go_wp2
      exact ⟨rfl, rfl, hsp⟩
    | ok u j =>
      rw [ht] at KS
      have KS1 := Lib.hid KS
      clear KS ht
      go_enter Try.func67, Try.ntmps67
      go_wp2_with fail
      refine KS1.out.mono ?_
      rintro e w1 ⟨x, rfl, rfl, hp, hsp⟩
      go_wp2
      exact bodyPost_end (results_none rfl _ _ _) rfl ⟨_, rfl, rfl, hp, hsp⟩

set_option maxHeartbeats 2000000 in
theorem name_any (W : World) (g r : Nat) (ts : List Tk) (cap i d : Nat) (h : PAt W g r ts cap i d) (hE : Ended ts) (hi : i < ts.length) (hn : ts.length ≤ 1048576) :
    Calls Try.prog 66 #[.pointer (some ⟨g, 0, none⟩)] W (Out W g r ts cap d (nam ts i) fun n x _ => x = .string (Lx.mk n)) := by
  have KI := is_any W g r ts cap i d 1 h hi
  by_cases hk : (tkAt ts i).kind = 1
  · have hb : (((tkAt ts i).kind : Int) == ((1 : Nat) : Int)) = true := by rw [hk]; rfl
    rw [hb] at KI
    have KT := fun m => take_any (W.drewN m) g r ts cap i d (h.drewN m) hE (by rw [hk]; decide) hn
    have hr : nam ts i = (match tak ts i with | .no l k e => .no l k e | .ok _ j => .ok (tkAt ts i).text j) := by unfold nam; rw [if_pos hk]; rfl
    rw [hr]
    obtain ⟨tx, htx⟩ : ∃ tx, tx = (tkAt ts i).text := ⟨_, rfl⟩
    rw [← htx]
    rw [← htx] at KT
    have KI1 := Lib.hid KI
    clear KI h hb hk hr htx
    cases ht : tak ts i with
    | no l k q =>
      rw [ht] at KT
      have KT1 := Lib.hid (fun m => (KT m).mono fun e w' h => out_drew h)
      clear KT ht
      go_enter Try.func66, Try.ntmps66
      go_wp2_with fail
      refine KI1.out.mono ?_
      rintro e w1 ⟨rfl, m, rfl⟩
      go_wp2_with fail
      refine (KT1.out _).mono ?_
      rintro e w2 ⟨rfl, hsp⟩
      go_wp2
      exact ⟨rfl, rfl, hsp⟩
    | ok u j =>
      rw [ht] at KT
      have KT1 := Lib.hid (fun m => (KT m).mono fun e w' h => out_drew h)
      clear KT ht
      go_enter Try.func66, Try.ntmps66
      go_wp2_with fail
      refine KI1.out.mono ?_
      rintro e w1 ⟨rfl, m, rfl⟩
      go_wp2_with fail
      refine (KT1.out _).mono ?_
      rintro e w2 ⟨x, rfl, rfl, hp, hsp⟩
      go_wp2
      exact bodyPost_ret (results_tmp rfl _ _ _) rfl ⟨_, rfl, rfl, hp, hsp⟩
  · have hb : (((tkAt ts i).kind : Int) == ((1 : Nat) : Int)) = false := by rw [beq_eq_false_iff_ne]; omega
    rw [hb] at KI
    have KT := fun m => throw_any (W.drewN m) g r ts cap i d 2 (h.drewN m) hi
    have hr : nam ts i = .no (tkAt ts i).line (tkAt ts i).col 2 := by unfold nam; rw [if_neg hk]; rfl
    rw [hr]
    have KI1 := Lib.hid KI
    have KT1 := Lib.hid KT
    clear KI KT h hb hk hr
    go_enter Try.func66, Try.ntmps66
    go_wp2_with fail
    refine KI1.out.mono ?_
    rintro e w1 ⟨rfl, m, rfl⟩
    go_wp2_with fail
    refine (KT1.out _).mono ?_
    rintro e w2 ⟨rfl, b⟩
    have hfin := sep_below (g := g) (sep_drewN (Lx.Sep.refl g _ W) m) (Nat.le_refl _) b
    clear b
    go_wp2
    exact ⟨rfl, rfl, hfin⟩

/-- What closing tells of a token. -/
def closB (ts : List Tk) (i : Nat) : ByteArray := match clos ts i with | none => ⟨#[]⟩ | some c => ⟨#[c]⟩

end Go.Proofs.Ytakihbjfkpebcaa.Sx
