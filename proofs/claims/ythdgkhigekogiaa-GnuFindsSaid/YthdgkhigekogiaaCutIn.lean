/-
  A stop in the walk behind a loop that is left by its block's exit: what is known of the frame there is all that is kept. No program's function is spoken of here.
-/
import Derived.Test.YthdgkhigekogiaaCut
namespace Go.Proofs.Ythdgkhigekogiaa
open Go.RowKit

theorem wp_cut_in {P : Program} {c : Code} {a : Act} {w : World} {id : Nat} {K : Act → World → Prop} {Q : Exit → Act → World → Prop} (I : Act → Act → World → Prop)
    (h : c.wp P (Exit.inBlock id (fun e a' w' => e = .normal ∧ I a a' w')) a w) (hk : ∀ a' w', I a a' w' → K a' w') : c.wp P (Exit.inBlock id (Exit.then K Q)) a w :=
  wp_mono h fun e a' w' he => by
    cases e with
    | exit id' =>
      simp only [Exit.inBlock] at he ⊢
      split
      · rename_i h1
        rw [if_pos h1] at he
        exact hk a' w' he.2
      · rename_i h1
        rw [if_neg h1] at he
        cases he.1
    | normal => exact hk a' w' he.2
    | _ => cases he.1
theorem list14 {l : List Value} (h : l.length = 14) : ∃ x0 x1 x2 x3 x4 x5 x6 x7 x8 x9 x10 x11 x12 x13, l = [x0, x1, x2, x3, x4, x5, x6, x7, x8, x9, x10, x11, x12, x13] := by
  match l, h with
  | [x0, x1, x2, x3, x4, x5, x6, x7, x8, x9, x10, x11, x12, x13], _ => exact ⟨_, _, _, _, _, _, _, _, _, _, _, _, _, _, rfl⟩
end Go.Proofs.Ythdgkhigekogiaa
