/-
  Two small words on what is returned. No program's function is spoken of here.
-/
import Derived.WalkKit
namespace Go.Proofs.Ytahmdccalgdiaaa
open Go.RowKit

theorem ret_int {k : IntKind} {a b : Int} (h : a = b) : Ending.returned (.int k a) = .returned (.int k b) := by rw [h]
theorem ret_bool {a b : Bool} (h : a = b) : Ending.returned (.bool a) = .returned (.bool b) := by rw [h]

end Go.Proofs.Ytahmdccalgdiaaa
