/-
  string(b) of bytes that are known, in this program, in every world that has only grown since.
-/
import Derived.Test.YthebemikhjglbaaRows
import Derived.Test.YthebemikhjglbaaPlPre
namespace Go.Proofs.Ythebemikhjglbaa
open Go.RowKit

theorem RB.conv {w : World} {B : Nat} {A : Option Addr} {n c : Nat} {l : List UInt8} (h : RB w B A n c l) (hB : B ≤ w.heap.size) :
    ∀ W, Grow w W → (convert 50 9 (.slice A n c)).run Try.prog W = .ok (.string ⟨l.toArray⟩) W := fun _ hk =>
  (h.belowAt hk hB).str _ _ _ Try.underlying50 Try.underlying5 Try.underlying9

end Go.Proofs.Ythebemikhjglbaa
