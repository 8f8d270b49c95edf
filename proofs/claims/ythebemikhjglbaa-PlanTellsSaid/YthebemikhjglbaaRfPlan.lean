/-
  The contract of the document's own PlanOf at any model.
-/
import Derived.Test.YthebemikhjglbaaRfPlanP
import Derived.Test.YthebemikhjglbaaRfPlanZ
namespace Go.Proofs.Ythebemikhjglbaa
open Go.RowKit

theorem rPlan_any (m : Md) (ok : m.Ok) (A1 A2 : Option Addr) (n1 c1 n2 c2 : Nat) (w : World) (g1 : ZR sgK w w.heap.size A1 n1 c1 m.segs) (g2 : ZR seK w w.heap.size A2 n2 c2 m.secs) :
    Calls Try.prog 8 #[.agg (mdC m (.slice A1 n1 c1) (.slice A2 n2 c2))] w (RPlanR m w) := by
  by_cases h : 0 < n1
  · exact rPlan_pos m ok A1 A2 n1 c1 n2 c2 w h g1 g2
  · exact rPlan_zero m ok A1 A2 n1 c1 n2 c2 w (by omega) g1 g2
end Go.Proofs.Ythebemikhjglbaa
