/-
  What came in as a table's four numbers, and as a string, opened.
-/
import Derived.Test.YthdgkhigekogiaaOpenForm
import Derived.Test.YthdgkhigekogiaaStrs
import Derived.ShutString
import Derived.ChangeMaps5
namespace Go.Proofs.Ythdgkhigekogiaa
open Go.ChangeShapes Go.WideShapes Go.RowKit Go.Joins Go.Deep

theorem arr4 {R : Array Value} (h : R.size = 4) : ∃ r0 r1 r2 r3, R = #[r0, r1, r2, r3] := by
  match R, h with
  | ⟨[r0, r1, r2, r3]⟩, _ => exact ⟨_, _, _, _, rfl⟩
section
variable {H : Type} {enc : TypeId × Value → H} {w : World} {base : Nat} {spare : Nat → Bool} {held : Bool}
theorem i64_of_cell {n : Nat} {v : Value} {y : DataW H × List MemPlace} (h : DataW.trod enc Try.prog w base spare held n 3 [v] = some y) : ∃ a : Int, v = .int .i64 a := by
  obtain ⟨x, hx, _, _⟩ := DataW.trod_int Try.underlying3 h
  injection hx with hx
  exact ⟨x, hx⟩
theorem open_table {r : Reach} {b0 : Nat} {v : Value} {d : DataW H} {p : List MemPlace} (hv : Value.okWide Try.prog w r b0 23 v) (h : DataW.Trod enc Try.prog w base spare held 23 v d p) :
    ∃ a b c e : Int, v = .agg #[.int .i64 a, .int .i64 b, .int .i64 c, .int .i64 e] := by
  obtain ⟨cs, rfl, hsz⟩ := okWide_struct Try.underlying23 hv
  obtain ⟨c0, c1, c2, c3, rfl⟩ := arr4 (hsz.trans (show Program.cellsOf Try.prog 23 = 4 by kernel_rfl))
  obtain ⟨fuel, hf⟩ := h
  obtain ⟨xs, n, _, _, _, hlen, hfs⟩ := DataW.trod_struct Try.underlying23 hf
  match xs, hlen with
  | [y0, y1, y2, y3], _ =>
    have z0 : DataW.trod enc Try.prog w base spare held n 3 [c0] = some y0 := by
      simpa [Value.cells, show Program.cellsOf Try.prog 3 = 1 by kernel_rfl] using hfs 0 _ rfl
    have z1 : DataW.trod enc Try.prog w base spare held n 3 [c1] = some y1 := by
      simpa [Value.cells, show Program.cellsOf Try.prog 3 = 1 by kernel_rfl] using hfs 1 _ rfl
    have z2 : DataW.trod enc Try.prog w base spare held n 3 [c2] = some y2 := by
      simpa [Value.cells, show Program.cellsOf Try.prog 3 = 1 by kernel_rfl] using hfs 2 _ rfl
    have z3 : DataW.trod enc Try.prog w base spare held n 3 [c3] = some y3 := by
      simpa [Value.cells, show Program.cellsOf Try.prog 3 = 1 by kernel_rfl] using hfs 3 _ rfl
    obtain ⟨a, q0⟩ := i64_of_cell z0
    obtain ⟨b, q1⟩ := i64_of_cell z1
    obtain ⟨c, q2⟩ := i64_of_cell z2
    obtain ⟨e, q3⟩ := i64_of_cell z3
    subst q0 q1 q2 q3
    exact ⟨a, b, c, e, rfl⟩
end
end Go.Proofs.Ythdgkhigekogiaa
