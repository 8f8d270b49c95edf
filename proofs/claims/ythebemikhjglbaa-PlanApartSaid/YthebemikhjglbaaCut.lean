/-
  A stop in the walk behind a part of the code: what is known of the frame there is all that is kept, so that branches meet again. No program's function is spoken of here.
-/
import Derived.Test.YthebemikhjglbaaFork
import Derived.Test.YthebemikhjglbaaPlPre
namespace Go.Proofs.Ythebemikhjglbaa
open Go.RowKit

theorem NS.alloc {w : World} {k : IntKind} {A : Option Addr} {n c : Nat} {l : List Nat} (h : NS w w.heap.size k A n c l) (o : Obj) : NS (w.alloc o) (w.alloc o).heap.size k A n c l :=
  (h.belowAt (Grow.of_alloc w o) (Nat.le_refl _)).more (Grow.of_alloc w o).size

/-- A stop behind a part of the code: what is then known of the frame and of the world is all that is kept. -/
theorem wp_cut {P : Program} {c : Code} {a : Act} {w : World} {K : Act → World → Prop} {Q : Exit → Act → World → Prop} (I : Act → Act → World → Prop) (h : c.wp P (fun e a' w' => e = .normal ∧ I a a' w') a w) (hk : ∀ a' w', I a a' w' → K a' w') : c.wp P (Exit.then K Q) a w :=
  wp_mono h fun e a' w' ⟨he, hi⟩ => by subst he; exact hk a' w' hi
theorem list16 {l : List Value} (h : l.length = 16) : ∃ x0 x1 x2 x3 x4 x5 x6 x7 x8 x9 x10 x11 x12 x13 x14 x15, l = [x0, x1, x2, x3, x4, x5, x6, x7, x8, x9, x10, x11, x12, x13, x14, x15] := by
  match l, h with
  | [x0, x1, x2, x3, x4, x5, x6, x7, x8, x9, x10, x11, x12, x13, x14, x15], _ => exact ⟨_, _, _, _, _, _, _, _, _, _, _, _, _, _, _, _, rfl⟩
theorem list18 {l : List Value} (h : l.length = 18) : ∃ x0 x1 x2 x3 x4 x5 x6 x7 x8 x9 x10 x11 x12 x13 x14 x15 x16 x17, l = [x0, x1, x2, x3, x4, x5, x6, x7, x8, x9, x10, x11, x12, x13, x14, x15, x16, x17] := by
  match l, h with
  | [x0, x1, x2, x3, x4, x5, x6, x7, x8, x9, x10, x11, x12, x13, x14, x15, x16, x17], _ => exact ⟨_, _, _, _, _, _, _, _, _, _, _, _, _, _, _, _, _, _, rfl⟩
end Go.Proofs.Ythebemikhjglbaa
