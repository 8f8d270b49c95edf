/-
  string(b) of bytes that are known, in this program, in every world that has only grown since.
-/
import Derived.Test.YtfnaigeakfgpbaaRows
import Derived.Test.YtfnaigeakfgpbaaMem
import Derived.Test.YtfnaigeakfgpbaaTree
namespace Go.Proofs.Ytfnaigeakfgpbaa
open Go.RowKit

theorem RB.conv {w : World} {B : Nat} {A : Option Addr} {n c : Nat} {l : List UInt8} (h : RB w B A n c l) (hB : B ≤ w.heap.size) :
    ∀ W, Grow w W → (convert 24 9 (.slice A n c)).run Try.prog W = .ok (.string ⟨l.toArray⟩) W := fun _ hk =>
  (h.belowAt hk hB).str _ _ _ Try.underlying24 Try.underlying5 Try.underlying9

end Go.Proofs.Ytfnaigeakfgpbaa
