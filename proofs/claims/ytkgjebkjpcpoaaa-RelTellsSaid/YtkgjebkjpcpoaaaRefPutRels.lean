/-
  The contract of the document's own PutRels: the bytes of any relocations, or that they may not be.
-/
import Derived.Test.YtkgjebkjpcpoaaaRefPutRelsN
import Derived.Test.YtkgjebkjpcpoaaaRefPutRelsW
namespace Go.Proofs.Ytkgjebkjpcpoaaa
open Go.RowKit

theorem rPutE_any (A : Option Addr) (n c : Nat) (L : List Re) (hok : ∀ s ∈ L, s.Ok) (h400 : L.length ≤ 1000) (wide adds big : Bool) (w : World) (h : ZS w w.heap.size 4 A n c (L.map Re.C)) :
    Calls Try.prog 7 #[.slice A n c, .agg #[.bool wide, .bool big], .bool adds] w (RPutE L wide adds big w) := by
  cases hw : wide
  · exact rPutE_N A n c L hok h400 false adds big rfl w h
  · exact rPutE_W A n c L hok h400 true adds big rfl w h
end Go.Proofs.Ytkgjebkjpcpoaaa
