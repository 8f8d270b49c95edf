/-
  The contract of the document's own Word.
-/
import Derived.Test.YtfahaefpglnlbaaRows
import Derived.Test.YtfahaefpglnlbaaRefSizes
import Derived.OwnWalk
namespace Go.Proofs.Ytfahaefpglnlbaa
open Go.RowKit

theorem word_any (wide big : Bool) (w : World) : Calls Try.prog 27 #[.agg #[.bool wide, .bool big]] w fun e w' => e = .returned (.int .i64 (byWide wide 4 8 : Nat)) ∧ Grow w w' := by
  cases wide
  · go_enter Try.func27, Try.ntmps27
    go_wp2
    go_ret
    exact ⟨rfl, Grow.of_alloc _ _⟩
  · go_enter Try.func27, Try.ntmps27
    go_wp2
    go_ret
    exact ⟨rfl, Grow.of_alloc _ _⟩
end Go.Proofs.Ytfahaefpglnlbaa
