/-
  No cell of these rows narrows 'for every input' (looked for: loops, veiled, ifaces, maps, wideKeys, modest, calm, conditions, laid).
  DERIVED. THE GIVEN ROWS OF THIS SEAT. 2 by the template 'for every input the law returns true; each argument reads behind the call as it read before'; 0 by the template 'total and deterministic' (their statements: YtfnaigeakfgpbaaTotals.lean).
  GIVEN WITH THE SEED: the statements are not yours to turn. If you find one false, say at which input.
  Laid BY PROGRAM, IN A SANDBOX (cutbox-rows.mjs): the forced cells as the released guide's own fill.sh prints them over the translation 5796a627d60c1d28… (all of the seat's roots in one cut). By AI agents, Wed Nov 11 2026. No macro, syntax, notation, axiom, sorry.
-/
import Derived.Test.YtfnaigeakfgpbaaChecked
import GoSem.Claim
import GoSem.ClaimJoined
import GoSem.ClaimMapViews
import Derived.JoinedTies
import Derived.KernelRfl
namespace Go.Proofs.Ytfnaigeakfgpbaa
/- THE CELL 'sum', in the pinned program and in every row, IS THE sha256 OF THE DUMP (.gsa) THAT YtfnaigeakfgpbaaProg.lean LOADS. Nothing in Lean hashes anything: it is a label: what it is worth is what the hold of that sum in a sandbox is worth. -/
noncomputable def Try.pinned : Pinned := { name := "ytfnaigeakfgpbaa", sum := "5796a627d60c1d282752ac3e0949cd896956eef4ae46d873b7440b3e344e8d82", checked := Try.checked }
namespace Rows
def none {H : Type} : Left H := { results := [], args := [] }

/-- 'bezantlaw13.VerTells': WHATEVER THE INPUT: true; the input reads as it did. -/
def verTellsSpec : ChangeSpec := { name := "verTells", fn := fun _ => fun
  | [d1, d2, d3, d4] => { results := [.lit (.bool true)], args := [d1, d2, d3, d4] }
  | _ => none }
def verTellsRow : OpenClaim := { program := "ytfnaigeakfgpbaa", sum := "5796a627d60c1d282752ac3e0949cd896956eef4ae46d873b7440b3e344e8d82", func := "bezant/bezantlaw13.VerTells", spec := "verTells", unfollowed := true, recurses := true, apart := false }
def VerTellsSaid : Prop := verTellsRow.holds Try.pinned (OpenSpec.ofChange verTellsSpec)

/-- ITS FALSE NEIGHBOUR: 'it returns false'. Refute it at one input. -/
def verTellsWrong : ChangeSpec := { name := "verTells", fn := fun _ => fun
  | [d1, d2, d3, d4] => { results := [.lit (.bool false)], args := [d1, d2, d3, d4] }
  | _ => none }
def VerTellsWrongFalsely : Prop := verTellsRow.holds Try.pinned (OpenSpec.ofChange verTellsWrong)

/-- 'bezantlaw13.VerBack': WHATEVER THE INPUT: true; the input reads as it did. -/
def verBackSpec : ChangeSpec := { name := "verBack", fn := fun _ => fun
  | [d1, d2, d3, d4, d5] => { results := [.lit (.bool true)], args := [d1, d2, d3, d4, d5] }
  | _ => none }
def verBackRow : OpenClaim := { program := "ytfnaigeakfgpbaa", sum := "5796a627d60c1d282752ac3e0949cd896956eef4ae46d873b7440b3e344e8d82", func := "bezant/bezantlaw13.VerBack", spec := "verBack", unfollowed := true, recurses := true, apart := false }
def VerBackSaid : Prop := verBackRow.holds Try.pinned (OpenSpec.ofChange verBackSpec)

/-- ITS FALSE NEIGHBOUR: 'it returns false'. Refute it at one input. -/
def verBackWrong : ChangeSpec := { name := "verBack", fn := fun _ => fun
  | [d1, d2, d3, d4, d5] => { results := [.lit (.bool false)], args := [d1, d2, d3, d4, d5] }
  | _ => none }
def VerBackWrongFalsely : Prop := verBackRow.holds Try.pinned (OpenSpec.ofChange verBackWrong)

/- THE SECOND FORM. 'bulk': how many values and letters a reading holds, each counted each time it is reached (what is shared counts as often as it is met; a slice's spare places count too). A statement '..UptoSaid' is the law's where the arguments, and the package variables that the reading takes, are together of bulk at most 1048576: NARROWER than '..Said'. Prove '..Said' where nothing that the law and all that it calls make is longer than what came in: it says more and counts as full. Else prove '..UptoSaid'. A law counts once. -/
mutual
def uptoBulk {H : Type} : DataW H → Nat
  | .lit (.string bytes) => bytes.length + 1
  | .lit _ => 1
  | .nil => 1
  | .ptr d => uptoBulk d + 1
  | .slice elems spare => uptoBulkAll elems + uptoBulkAll spare + 1
  | .agg parts => uptoBulkAll parts + 1
  | .iface _ d => uptoBulk d + 1
  | .map entries => uptoBulkEntries entries + 1
  | .held _ => 1
def uptoBulkAll {H : Type} : List (DataW H) → Nat
  | [] => 0
  | d :: r => uptoBulk d + uptoBulkAll r
def uptoBulkEntries {H : Type} : List (Lit × DataW H) → Nat
  | [] => 0
  | x :: r => uptoBulkEntry x + uptoBulkEntries r
def uptoBulkEntry {H : Type} : Lit × DataW H → Nat
  | (.string bytes, d) => bytes.length + uptoBulk d + 1
  | (_, d) => uptoBulk d + 1
 end
def uptoSmall : (H : Type) → List (DataW H) → Bool := fun _ ds => decide (uptoBulkAll ds ≤ 1048576)
def OpenSpec.upto (s : _root_.Go.ChangeSpec) : _root_.Go.OpenSpec := { _root_.Go.OpenSpec.ofChange s with cond := some uptoSmall }

/-- 'bezantlaw13.VerTells', WHERE WHAT IT READS IS OF BULK AT MOST 1048576: true; the input reads as it did. -/
def verTellsUptoRow : OpenClaim := { program := "ytfnaigeakfgpbaa", sum := "5796a627d60c1d282752ac3e0949cd896956eef4ae46d873b7440b3e344e8d82", func := "bezant/bezantlaw13.VerTells", spec := "verTells", unfollowed := true, recurses := true, apart := false, narrowed := true }
def VerTellsUptoSaid : Prop := verTellsUptoRow.holds Try.pinned (OpenSpec.upto verTellsSpec)

/-- 'bezantlaw13.VerBack', WHERE WHAT IT READS IS OF BULK AT MOST 1048576: true; the input reads as it did. -/
def verBackUptoRow : OpenClaim := { program := "ytfnaigeakfgpbaa", sum := "5796a627d60c1d282752ac3e0949cd896956eef4ae46d873b7440b3e344e8d82", func := "bezant/bezantlaw13.VerBack", spec := "verBack", unfollowed := true, recurses := true, apart := false, narrowed := true }
def VerBackUptoSaid : Prop := verBackUptoRow.holds Try.pinned (OpenSpec.upto verBackSpec)

end Rows
end Go.Proofs.Ytfnaigeakfgpbaa
