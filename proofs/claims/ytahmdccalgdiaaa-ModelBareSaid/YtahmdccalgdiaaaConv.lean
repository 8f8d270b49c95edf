/-
  string(b) of bytes that are known, in this program, in every world that has only grown since.
-/
import Derived.Test.YtahmdccalgdiaaaRows
import Derived.Test.YtahmdccalgdiaaaMem
import Derived.Test.YtahmdccalgdiaaaTree
namespace Go.Proofs.Ytahmdccalgdiaaa
open Go.RowKit

theorem RB.conv {w : World} {B : Nat} {A : Option Addr} {n c : Nat} {l : List UInt8} (h : RB w B A n c l) (hB : B ≤ w.heap.size) :
    ∀ W, Grow w W → (convert 38 9 (.slice A n c)).run Try.prog W = .ok (.string ⟨l.toArray⟩) W := fun _ hk =>
  (h.belowAt hk hB).str _ _ _ Try.underlying38 Try.underlying5 Try.underlying9

end Go.Proofs.Ytahmdccalgdiaaa
