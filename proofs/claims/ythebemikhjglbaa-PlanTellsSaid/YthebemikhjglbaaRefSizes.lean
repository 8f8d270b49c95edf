/-
  The contract of the document's own Sizes.
-/
import Derived.Test.YthebemikhjglbaaRows
import Derived.Test.YthebemikhjglbaaPlPre
import Derived.OwnWalk
namespace Go.Proofs.Ythebemikhjglbaa
open Go.RowKit

theorem sizes_any (wide big : Bool) (w : World) : Calls Try.prog 11 #[.agg #[.bool wide, .bool big]] w fun e w' =>
    e = .returned (.tuple #[.int .i64 (hSize wide : Nat), .int .i64 (byWide wide 32 56 : Nat), .int .i64 (byWide wide 40 64 : Nat)]) ∧ Grow w w' := by
  cases wide
  · go_enter Try.func11, Try.ntmps11
    go_wp2
    go_ret3
    exact ⟨rfl, Grow.of_alloc _ _⟩
  · go_enter Try.func11, Try.ntmps11
    go_wp2
    go_ret3
    exact ⟨rfl, Grow.of_alloc _ _⟩

end Go.Proofs.Ythebemikhjglbaa
