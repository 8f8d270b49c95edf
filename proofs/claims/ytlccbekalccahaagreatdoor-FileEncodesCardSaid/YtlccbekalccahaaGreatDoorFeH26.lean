/-
  Several texts in one: The contract of the document's own Encode.
-/
import Derived.Test.YtlccbekalccahaaGreatDoorFeH17
import Derived.Test.YtlccbekalccahaaGreatDoorFeH24
import Derived.Test.YtlccbekalccahaaGreatDoorFeH21
import Derived.Test.YtlccbekalccahaaGreatDoorFeH25

namespace Go.Proofs.YtlccbekalccahaaGreatDoor
open Go.RowKit
set_option maxRecDepth 100000
set_option linter.unusedVariables false

/-- What the document's own Encode answers. -/
def REncR (m : Md) (w : World) (e : Ending) (w' : World) : Prop :=
  (m.planC = 0 ∧ ∃ A c L, e = .returned (.tuple #[.slice A L.length c, .int .i64 0]) ∧ FileIs m L ∧ RB w' w'.heap.size A L.length c L ∧ Grow w w') ∨
  (m.planC ≠ 0 ∧ e = .returned (.tuple #[.slice none 0 0, .int .i64 (m.planC : Nat)]) ∧ Grow w w')
/-- The three blocks: the model, the plan, the form. -/
structure RS (w W : World) (gm gp gf : Nat) (tm tp tf : TypeId) (cm cp cf : Array Value) : Prop where
  m : Blk W gm tm cm
  p : Blk W gp tp cp
  f : Blk W gf tf cf
  w : Grow w W
theorem RS.grow {w W W' : World} {gm gp gf : Nat} {tm tp tf : TypeId} {cm cp cf : Array Value} (h : RS w W gm gp gf tm tp tf cm cp cf) (hg : Grow W W') : RS w W' gm gp gf tm tp tf cm cp cf :=
  ⟨h.m.grow hg, h.p.grow hg, h.f.grow hg, h.w.trans hg⟩
/-- The bytes so far. -/
structure RBy (m : Md) (a b c d : Nat) (T : Nat) (W : World) (v : Value) : Prop where
  out : ∃ A k L, v = .slice A L.length k ∧ RB W W.heap.size A L.length k L ∧ Laid (Stg m a b c d) L ∧ L.length ≤ T
theorem layL_laid {m : Md} {a b c d : Nat} {L : List UInt8} (h : Laid (Stg m a b c d) L) (n : Nat) : Laid (Stg m a b c d) (L ++ List.replicate n 0) := h.pad n

end Go.Proofs.YtlccbekalccahaaGreatDoor
