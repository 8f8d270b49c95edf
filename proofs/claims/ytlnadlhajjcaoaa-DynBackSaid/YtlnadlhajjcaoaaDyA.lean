/-
  The contracts of dyn.width, dyn.whole, and of the document's own Word.
-/
import Derived.Test.YtlnadlhajjcaoaaRows
import Derived.Test.YtlnadlhajjcaoaaRet
import Derived.Test.YtlnadlhajjcaoaaDyMath
import Derived.Test.YtlnadlhajjcaoaaWirePut
import Derived.WalkKit
import Derived.Laws.ResultCell
import Derived.Lib.Hide
namespace Go.Proofs.Ytlnadlhajjcaoaa
open Go.RowKit

theorem dyW_wid (wide : Bool) : wid (dyW wide : Nat) = true := by cases wide <;> rfl

theorem dyW_any (wide big : Bool) (w : World) : Calls Try.prog 15 #[.agg #[.bool wide, .bool big]] w fun e w' => e = .returned (.int .i64 (dyW wide : Nat)) ∧ Grow w w' := by
  cases wide
  all_goals
    go_enter Try.func15, Try.ntmps15
    go_wp2
    go_ret
    exact ⟨rfl, Grow.of_alloc _ _⟩
theorem dWord_any (wide big : Bool) (w : World) : Calls Try.prog 19 #[.agg #[.bool wide, .bool big]] w fun e w' => e = .returned (.int .i64 (dyW wide : Nat)) ∧ Grow w w' := by
  cases wide
  all_goals
    go_enter Try.func19, Try.ntmps19
    go_wp2
    go_ret
    exact ⟨rfl, Grow.of_alloc _ _⟩


theorem dySize_any (wide big : Bool) (w : World) : Calls Try.prog 16 #[.agg #[.bool wide, .bool big]] w fun e w' => e = .returned (.int .i64 (dySize wide : Nat)) ∧ Grow w w' := by
  have HW := Lib.hid (fun w => dyW_any wide big w)
  have h8 := dyW_le wide
  unfold dySize
  generalize dyW wide = m at HW h8 ⊢
  have z2 : IntKind.i64.wrap (2 * (m : Int)) = ((2 * m : Nat) : Int) := by rw [IntKind.wrap_i64]; omega
  clear h8
  go_enter Try.func16, Try.ntmps16
  go_wp2_with fail
  refine (HW.out _).mono ?_
  rintro e w1 ⟨rfl, hg1⟩
  have HG : Hid (Grow w w1) := (Grow.of_alloc _ _).trans hg1
  clear hg1
  go_wp2
  go_ret
  exact ⟨rfl, HG.out⟩
end Go.Proofs.Ytlnadlhajjcaoaa
