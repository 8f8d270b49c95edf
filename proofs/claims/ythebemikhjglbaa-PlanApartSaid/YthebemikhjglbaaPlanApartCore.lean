/-
  What PlanApart answers at every model.
-/
import Derived.Test.YthebemikhjglbaaPlanApartP
import Derived.Test.YthebemikhjglbaaPlanApartZ
namespace Go.Proofs.Ythebemikhjglbaa
open Go.RowKit

theorem sum_small {m : Md} {n1 n2 : Nat} (l1 : n1 = m.segs.length) (l2 : n2 = m.secs.length) (hs1 : ∀ s ∈ m.segs, s.pl.own.length ≤ reachBytes) (hs2 : ∀ s ∈ m.secs, s.pl.own.length ≤ reachBytes) :
    n1 ≤ 20 → n2 ≤ 70 → m.sum ≤ 4000000000000000000 := fun h1 h2 => by
  have q1 := sum_le (fun s : Sg => s.pl.own.length) reachBytes m.segs hs1
  have q2 := sum_le (fun s : Se => s.pl.own.length) reachBytes m.secs hs2
  have e1 : m.segs.length * reachBytes ≤ 20 * reachBytes := Nat.mul_le_mul_right _ (by omega)
  have e2 : m.secs.length * reachBytes ≤ 70 * reachBytes := Nat.mul_le_mul_right _ (by omega)
  unfold Md.sum
  unfold reachBytes at q1 q2 e1 e2
  omega

theorem planApart_core (m : Md) (ok : m.Ok) (A1 A2 : Option Addr) (n1 c1 n2 c2 : Nat) (w : World) (g1 : ZR sgK w w.heap.size A1 n1 c1 m.segs) (g2 : ZR seK w w.heap.size A2 n2 c2 m.secs)
    (hs1 : ∀ s ∈ m.segs, s.pl.own.length ≤ reachBytes) (hs2 : ∀ s ∈ m.secs, s.pl.own.length ≤ reachBytes) :
    Calls Try.prog 4 #[.agg (mdC m (.slice A1 n1 c1) (.slice A2 n2 c2))] w fun e w' => e = .returned (.bool true) ∧ Grow w w' := by
  have hsm := sum_small g1.len g2.len hs1 hs2
  by_cases h : 0 < n2
  · exact planApart_pos m ok A1 A2 n1 c1 n2 c2 w h g1 g2 hsm
  · exact planApart_zero m ok A1 A2 n1 c1 n2 c2 w (by omega) g1 g2 hsm
end Go.Proofs.Ythebemikhjglbaa
