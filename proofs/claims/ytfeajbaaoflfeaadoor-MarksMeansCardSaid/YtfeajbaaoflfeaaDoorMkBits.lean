/-
  The bodyless calls: a float's bits.
-/
import Derived.Test.YtfeajbaaoflfeaaDoorMkNum
import Derived.Laws.Externs
namespace Go.Proofs.YtfeajbaaoflfeaaDoor.Mk
open Go.RowKit

theorem sbits (b : Nat) (W : World) : (callFunc 53 #[.float .f64 b]).run Tryd.prog W = .ok (.value (.int .u64 b)) W :=
  run_callFunc_extern (P := Tryd.prog) (e := Extern.MathFloatBits.float64bits) Tryd.func53 (by kernel_rfl) (by kernel_rfl) (by kernel_rfl) (by kernel_rfl) _ W
theorem mbits (b : Nat) (W : World) : (callFunc 31 #[.float .f64 b]).run Tryd.prog W = .ok (.value (.int .u64 b)) W :=
  run_callFunc_extern (P := Tryd.prog) (e := Extern.MathFloatBits.float64bits) Tryd.func31 (by kernel_rfl) (by kernel_rfl) (by kernel_rfl) (by kernel_rfl) _ W
theorem mfrom (b : Nat) (W : World) : (callFunc 9 #[.int .u64 (b : Int)]).run Tryd.prog W = .ok (.value (.float .f64 b)) W :=
  run_callFunc_extern (P := Tryd.prog) (e := Extern.MathFloatBits.float64frombits) Tryd.func9 (by kernel_rfl) (by kernel_rfl) (by kernel_rfl) (by kernel_rfl) _ W

end Go.Proofs.YtfeajbaaoflfeaaDoor.Mk
