/-
  What came in as a section header, opened.
-/
import Derived.Test.YtfahaefpglnlbaaOpenForm
import Derived.Test.YtfahaefpglnlbaaSecA
namespace Go.Proofs.Ytfahaefpglnlbaa
open Go.ChangeShapes Go.WideShapes Go.RowKit Go.Joins Go.Deep

section
variable {H : Type} {enc : TypeId × Value → H} {w : World} {base : Nat} {spare : Nat → Bool} {held : Bool}
theorem open_sect {r : Reach} {b0 : Nat} {v : Value} {d : DataW H} {p : List MemPlace} (hv : Value.okWide Try.prog w r b0 25 v) (h : DataW.Trod enc Try.prog w base spare held 25 v d p) :
    ∃ p : Sc, p.Ok ∧ v = p.V := by
  obtain ⟨cs, rfl, hsz⟩ := okWide_struct Try.underlying25 hv
  obtain ⟨c0, c1, c2, c3, c4, c5, c6, c7, c8, c9, rfl⟩ := arr10 (hsz.trans (show Program.cellsOf Try.prog 25 = 10 by kernel_rfl))
  obtain ⟨fuel, hf⟩ := h
  obtain ⟨xs, n, _, _, _, hlen, hfs⟩ := DataW.trod_struct Try.underlying25 hf
  match xs, hlen with
  | [y0, y1, y2, y3, y4, y5, y6, y7, y8, y9], _ =>
    have z0 : DataW.trod enc Try.prog w base spare held n 22 [c0] = some y0 := by
      simpa [Value.cells, show Program.cellsOf Try.prog 22 = 1 by kernel_rfl] using hfs 0 _ rfl
    have z1 : DataW.trod enc Try.prog w base spare held n 22 [c1] = some y1 := by
      simpa [Value.cells, show Program.cellsOf Try.prog 22 = 1 by kernel_rfl] using hfs 1 _ rfl
    have z2 : DataW.trod enc Try.prog w base spare held n 23 [c2] = some y2 := by
      simpa [Value.cells, show Program.cellsOf Try.prog 23 = 1 by kernel_rfl] using hfs 2 _ rfl
    have z3 : DataW.trod enc Try.prog w base spare held n 23 [c3] = some y3 := by
      simpa [Value.cells, show Program.cellsOf Try.prog 23 = 1 by kernel_rfl] using hfs 3 _ rfl
    have z4 : DataW.trod enc Try.prog w base spare held n 23 [c4] = some y4 := by
      simpa [Value.cells, show Program.cellsOf Try.prog 23 = 1 by kernel_rfl] using hfs 4 _ rfl
    have z5 : DataW.trod enc Try.prog w base spare held n 23 [c5] = some y5 := by
      simpa [Value.cells, show Program.cellsOf Try.prog 23 = 1 by kernel_rfl] using hfs 5 _ rfl
    have z6 : DataW.trod enc Try.prog w base spare held n 22 [c6] = some y6 := by
      simpa [Value.cells, show Program.cellsOf Try.prog 22 = 1 by kernel_rfl] using hfs 6 _ rfl
    have z7 : DataW.trod enc Try.prog w base spare held n 22 [c7] = some y7 := by
      simpa [Value.cells, show Program.cellsOf Try.prog 22 = 1 by kernel_rfl] using hfs 7 _ rfl
    have z8 : DataW.trod enc Try.prog w base spare held n 23 [c8] = some y8 := by
      simpa [Value.cells, show Program.cellsOf Try.prog 23 = 1 by kernel_rfl] using hfs 8 _ rfl
    have z9 : DataW.trod enc Try.prog w base spare held n 23 [c9] = some y9 := by
      simpa [Value.cells, show Program.cellsOf Try.prog 23 = 1 by kernel_rfl] using hfs 9 _ rfl
    obtain ⟨na, k0, q0⟩ := u32_of_cell z0
    obtain ⟨ty, k1, q1⟩ := u32_of_cell z1
    obtain ⟨fl, k2, q2⟩ := u64_of_cell z2
    obtain ⟨ad, k3, q3⟩ := u64_of_cell z3
    obtain ⟨off, k4, q4⟩ := u64_of_cell z4
    obtain ⟨sz, k5, q5⟩ := u64_of_cell z5
    obtain ⟨li, k6, q6⟩ := u32_of_cell z6
    obtain ⟨inf, k7, q7⟩ := u32_of_cell z7
    obtain ⟨al, k8, q8⟩ := u64_of_cell z8
    obtain ⟨en, k9, q9⟩ := u64_of_cell z9
    subst q0 q1 q2 q3 q4 q5 q6 q7 q8 q9
    exact ⟨⟨na, ty, fl, ad, off, sz, li, inf, al, en⟩, ⟨k0, k1, k2, k3, k4, k5, k6, k7, k8, k9⟩, rfl⟩
end
end Go.Proofs.Ytfahaefpglnlbaa
