/-
  Layer 26: a session in memory; New; the messages that a session speaks of.
-/
import Derived.Test.YtgbpofgmomglfaaDoorMsA
import Derived.Laws.Pointers
namespace Go.Proofs.YtgbpofgmomglfaaDoor.Se
open Go.RowKit
open Ms (Msg goodM)
set_option maxRecDepth 100000
set_option linter.unusedSimpArgs false
set_option linter.unusedVariables false
/-- A session's fields. -/
structure Ses where
  cl : Int
  mo : Int
  nu : Int
  vi : Int
  fr : ByteArray
  ti : Int
def SesAt (w : World) (sb : Nat) (s : Ses) : Prop := w.heap[sb]? = some (.cells #[.int .i64 s.cl, .int .i64 s.mo, .int .i64 s.nu, .int .i64 s.vi, .string s.fr, .int .i64 s.ti] 56 (0, 0))
theorem SesAt.under {w w' : World} {sb : Nat} {s : Ses} (h : SesAt w sb s) (b : Below w.heap.size w w') : SesAt w' sb s := (b.block _ (Gn.heap_lt h)).trans h
theorem is_nil (w : World) : (binOp .eql 24 (.pointer none) (.pointer none)).run Tryd.prog w = .ok (.bool true) w := run_eql_pointer_nil w _ _ (by kernel_rfl)
theorem isnt_nil (w : World) (a : Addr) : (binOp .eql 24 (.pointer (some a)) (.pointer none)).run Tryd.prog w = .ok (.bool false) w := run_eql_pointer_nil w _ _ (by kernel_rfl)
theorem not_run (x : Bool) (w : World) : (Op.unary UnOp.not (.bool x)).run Tryd.prog w = .ok (.bool (!x)) w := by cases x <;> rfl
theorem awaits_any {w : World} {sb : Nat} {s : Ses} (h : SesAt w sb s) : Calls Tryd.prog 15 #[.pointer (some ⟨sb, 0, none⟩)] w (fun e w' => e = .returned (.bool (!s.fr.toList.isEmpty)) ∧ w = w') := by
  obtain ⟨cl, mo, nu, vi, fr, ti⟩ := s
  have s4 := cell_of_row _ _ 4 _ _ (0, 0) h
  simp only at s4 ⊢
  clear h
  go_enter Tryd.func15, Tryd.ntmps15
  go_wp2
  go_ret
  exact ⟨rfl, rfl⟩
theorem replicas_any {w : World} {sb : Nat} {s : Ses} (h : SesAt w sb s) (h1 : 0 ≤ s.mo) (h2 : s.mo ≤ 100) : Calls Tryd.prog 16 #[.pointer (some ⟨sb, 0, none⟩)] w (fun e w' => e = .returned (.int .i64 (2 * s.mo + 1)) ∧ w = w') := by
  obtain ⟨cl, mo, nu, vi, fr, ti⟩ := s
  have s1 := cell_of_row _ _ 1 _ _ (0, 0) h
  simp only at s1 h1 h2 ⊢
  clear h
  go_enter Tryd.func16, Tryd.ntmps16
  go_wp2
  go_ret
  exact ⟨rfl, rfl⟩
theorem ses_build (cl mo : Int) (w : World) : (Instr.build 56 #[(0, .int .i64 cl), (1, .int .i64 mo)]).run Tryd.prog w = .ok (.agg #[.int .i64 cl, .int .i64 mo, .int .i64 0, .int .i64 0, .string ⟨#[]⟩, .int .i64 0]) w := by kernel_rfl
/-- A session that was made. -/
theorem new_good (cl mo : Int) (w : World) (h1 : 0 ≤ cl) (h2 : cl < 3) (h3 : 1 ≤ mo) (h4 : mo ≤ 3) :
    Calls Tryd.prog 6 #[.int .i64 cl, .int .i64 mo] w (fun e w' => e = .returned (.pointer (some ⟨w.heap.size, 0, none⟩)) ∧ SesAt w' w.heap.size ⟨cl, mo, 0, 0, ⟨#[]⟩, 0⟩ ∧ Below w.heap.size w w') := by
  have hbd := ses_build cl mo w
  go_enter Tryd.func6, Tryd.ntmps6
  go_wp2
  go_ret
  exact ⟨rfl, heap_alloc_new w _, (Below.refl _ w).alloc (Nat.le_refl _) _⟩
/-- A request. -/
def reqM (cl nu : Int) (t : ByteArray) : Msg := ⟨1, 0, 0, [], 0, 0, 0, 0, cl, nu, 0, t, false, 0, ⟨#[]⟩, []⟩
/-- A reply to five replicas' client. -/
def repM (cl nu : Int) (t : ByteArray) : Msg := ⟨4, 0, 0, [0, 0, 0, 0, 0], 0, 0, 0, 0, cl, nu, 0, t, false, 0, ⟨#[]⟩, []⟩
theorem req_good (cl nu : Int) (t : ByteArray) (r : Int) (hr : r = 3 ∨ r = 5 ∨ r = 7) (h1 : 0 ≤ cl) (h2 : cl < 3) (h3 : 1 ≤ nu) (h4 : nu ≤ 9007199254740992) (h5 : t.size ≤ 8192) : goodM (reqM cl nu t) r = true := by
  have hz : (⟨#[]⟩ : ByteArray).size = 0 := rfl
  unfold goodM reqM Ms.groupB Ms.knownB Ms.bareB Ms.wipeM Ms.wipeK Ms.emptyB Ms.numsM Ms.senderB Ms.leastB Ms.sizeM Ms.nonz
  simp [Ms.badN, hz]
  omega
theorem rep_good (cl nu : Int) (t : ByteArray) (h1 : 0 ≤ cl) (h2 : cl < 3) (h3 : 1 ≤ nu) (h4 : nu ≤ 9007199254740992) (h5 : t.size ≤ 8192) : goodM (repM cl nu t) 5 = true := by
  have hz : (⟨#[]⟩ : ByteArray).size = 0 := rfl
  unfold goodM repM Ms.groupB Ms.knownB Ms.bareB Ms.wipeM Ms.wipeK Ms.emptyB Ms.numsM Ms.senderB Ms.leastB Ms.sizeM Ms.nonz
  simp [Ms.badN, hz]
  omega
end Go.Proofs.YtgbpofgmomglfaaDoor.Se
