/-
  What came in as a form, opened.
-/
import Derived.Test.YthebemikhjglbaaOpen
import Derived.Test.YthebemikhjglbaaPlPre
namespace Go.Proofs.Ythebemikhjglbaa
open Go.ChangeShapes Go.WideShapes Go.RowKit Go.Joins Go.Deep

section
variable {H : Type} {enc : TypeId × Value → H} {w : World} {base : Nat} {spare : Nat → Bool} {held : Bool}
theorem u32_of_cell {n : Nat} {v : Value} {y : DataW H × List MemPlace} (h : DataW.trod enc Try.prog w base spare held n 27 [v] = some y) : ∃ a : Nat, a < 4294967296 ∧ v = .int .u32 (a : Int) := by
  obtain ⟨x, hx, _, hw⟩ := DataW.trod_int Try.underlying27 h
  have := bounds_u32 hw
  injection hx with hx
  exact ⟨x.toNat, by omega, by rw [hx]; congr 1; omega⟩
theorem form_of_cells {n : Nat} {c0 c1 : Value} {y : DataW H × List MemPlace} (hf : DataW.trod enc Try.prog w base spare held n 23 [c0, c1] = some y) : ∃ wide big : Bool, c0 = .bool wide ∧ c1 = .bool big := by
  obtain ⟨x0, x1, m, _, _, k0, k1⟩ := trod_struct2 Try.underlying23 hf
  have k0' : DataW.trod enc Try.prog w base spare held m 4 [c0] = some x0 := by
    simpa [show Program.cellsOf Try.prog 4 = 1 by kernel_rfl] using k0
  have k1' : DataW.trod enc Try.prog w base spare held m 4 [c1] = some x1 := by
    simpa [show Program.cellsOf Try.prog 4 = 1 by kernel_rfl] using k1
  obtain ⟨wide, e0, _⟩ := DataW.trod_bool Try.underlying4 k0'
  obtain ⟨big, e1, _⟩ := DataW.trod_bool Try.underlying4 k1'
  injection e0 with e0
  injection e1 with e1
  exact ⟨wide, big, e0, e1⟩
theorem open_form {r : Reach} {b0 : Nat} {v : Value} {d : DataW H} {p : List MemPlace} (hv : Value.okWide Try.prog w r b0 23 v) (h : DataW.Trod enc Try.prog w base spare held 23 v d p) :
    ∃ wide big : Bool, v = .agg #[.bool wide, .bool big] := by
  obtain ⟨cs, rfl, hsz⟩ := okWide_struct Try.underlying23 hv
  obtain ⟨c0, c1, rfl⟩ := arr2 (hsz.trans (show Program.cellsOf Try.prog 23 = 2 by kernel_rfl))
  obtain ⟨fuel, hf⟩ := h
  obtain ⟨wide, big, rfl, rfl⟩ := form_of_cells hf
  exact ⟨wide, big, rfl⟩
end
end Go.Proofs.Ythebemikhjglbaa
