/-
  What came in as a header, opened.
-/
import Derived.Test.YtkohkkgfmkocjaaOpenIdent
import Derived.Test.YtkohkkgfmkocjaaHeadGet
namespace Go.Proofs.Ytkohkkgfmkocjaa
open Go.ChangeShapes Go.WideShapes Go.RowKit Go.Joins Go.Deep

section
variable {H : Type} {enc : TypeId × Value → H} {w : World} {base : Nat} {spare : Nat → Bool} {held : Bool}
theorem u16_of_cell {n : Nat} {v : Value} {y : DataW H × List MemPlace} (h : DataW.trod enc Try.prog w base spare held n 26 [v] = some y) : ∃ a : Nat, a < 65536 ∧ v = .int .u16 (a : Int) := by
  obtain ⟨x, hx, _, hw⟩ := DataW.trod_int Try.underlying26 h
  have := bounds_u16 hw
  injection hx with hx
  exact ⟨x.toNat, by omega, by rw [hx]; congr 1; omega⟩
theorem u32_of_cell {n : Nat} {v : Value} {y : DataW H × List MemPlace} (h : DataW.trod enc Try.prog w base spare held n 28 [v] = some y) : ∃ a : Nat, a < 4294967296 ∧ v = .int .u32 (a : Int) := by
  obtain ⟨x, hx, _, hw⟩ := DataW.trod_int Try.underlying28 h
  have := bounds_u32 hw
  injection hx with hx
  exact ⟨x.toNat, by omega, by rw [hx]; congr 1; omega⟩
theorem u64_of_cell {n : Nat} {v : Value} {y : DataW H × List MemPlace} (h : DataW.trod enc Try.prog w base spare held n 27 [v] = some y) : ∃ a : Nat, a < 18446744073709551616 ∧ v = .int .u64 (a : Int) := by
  obtain ⟨x, hx, _, hw⟩ := DataW.trod_int Try.underlying27 h
  have := bounds_u64 hw
  injection hx with hx
  exact ⟨x.toNat, by omega, by rw [hx]; congr 1; omega⟩
theorem ident_of_cells {n : Nat} {c0 c1 c2 c3 : Value} {y : DataW H × List MemPlace} (hf : DataW.trod enc Try.prog w base spare held n 25 [c0, c1, c2, c3] = some y) :
    ∃ (wide big : Bool) (o a : UInt8), c0 = .bool wide ∧ c1 = .bool big ∧ c2 = .int .u8 (o.toNat : Int) ∧ c3 = .int .u8 (a.toNat : Int) := by
  obtain ⟨y0, y1, y2, n, _, _, h0, h1, h2⟩ := trod_struct3 Try.underlying25 hf
  have z0 : DataW.trod enc Try.prog w base spare held n 23 [c0, c1] = some y0 := by
    simpa [Value.cells, show Program.cellsOf Try.prog 23 = 2 by kernel_rfl] using h0
  have z1 : DataW.trod enc Try.prog w base spare held n 5 [c2] = some y1 := by
    simpa [Value.cells, show Program.cellsOf Try.prog 5 = 1 by kernel_rfl] using h1
  have z2 : DataW.trod enc Try.prog w base spare held n 5 [c3] = some y2 := by
    simpa [Value.cells, show Program.cellsOf Try.prog 5 = 1 by kernel_rfl] using h2
  obtain ⟨x0, x1, m, _, _, k0, k1⟩ := trod_struct2 Try.underlying23 z0
  have k0' : DataW.trod enc Try.prog w base spare held m 4 [c0] = some x0 := by
    simpa [show Program.cellsOf Try.prog 4 = 1 by kernel_rfl] using k0
  have k1' : DataW.trod enc Try.prog w base spare held m 4 [c1] = some x1 := by
    simpa [show Program.cellsOf Try.prog 4 = 1 by kernel_rfl] using k1
  obtain ⟨wide, e0, _⟩ := DataW.trod_bool Try.underlying4 k0'
  obtain ⟨big, e1, _⟩ := DataW.trod_bool Try.underlying4 k1'
  obtain ⟨o, e2⟩ := u8_of_cell z1
  obtain ⟨a, e3⟩ := u8_of_cell z2
  injection e0 with e0
  injection e1 with e1
  exact ⟨wide, big, o, a, e0, e1, e2, e3⟩

theorem open_head {r : Reach} {b0 : Nat} {v : Value} {d : DataW H} {p : List MemPlace} (hv : Value.okWide Try.prog w r b0 30 v) (h : DataW.Trod enc Try.prog w base spare held 30 v d p) :
    ∃ h : Hd, h.Ok ∧ v = h.V := by
  obtain ⟨cs, rfl, hsz⟩ := okWide_struct Try.underlying30 hv
  obtain ⟨c0, c1, c2, c3, c4, c5, c6, c7, c8, c9, c10, c11, c12, rfl⟩ := arr13 (hsz.trans (show Program.cellsOf Try.prog 30 = 13 by kernel_rfl))
  obtain ⟨fuel, hf⟩ := h
  obtain ⟨xs, n, _, _, _, hlen, hfs⟩ := DataW.trod_struct Try.underlying30 hf
  match xs, hlen with
  | [y0, y1, y2, y3, y4, y5, y6, y7, y8, y9], _ =>
    have z0 : DataW.trod enc Try.prog w base spare held n 25 [c0, c1, c2, c3] = some y0 := by
      simpa [Value.cells, show Program.cellsOf Try.prog 25 = 4 by kernel_rfl] using hfs 0 _ rfl
    have z1 : DataW.trod enc Try.prog w base spare held n 26 [c4] = some y1 := by
      simpa [Value.cells, show Program.cellsOf Try.prog 26 = 1 by kernel_rfl] using hfs 1 _ rfl
    have z2 : DataW.trod enc Try.prog w base spare held n 26 [c5] = some y2 := by
      simpa [Value.cells, show Program.cellsOf Try.prog 26 = 1 by kernel_rfl] using hfs 2 _ rfl
    have z3 : DataW.trod enc Try.prog w base spare held n 27 [c6] = some y3 := by
      simpa [Value.cells, show Program.cellsOf Try.prog 27 = 1 by kernel_rfl] using hfs 3 _ rfl
    have z4 : DataW.trod enc Try.prog w base spare held n 27 [c7] = some y4 := by
      simpa [Value.cells, show Program.cellsOf Try.prog 27 = 1 by kernel_rfl] using hfs 4 _ rfl
    have z5 : DataW.trod enc Try.prog w base spare held n 27 [c8] = some y5 := by
      simpa [Value.cells, show Program.cellsOf Try.prog 27 = 1 by kernel_rfl] using hfs 5 _ rfl
    have z6 : DataW.trod enc Try.prog w base spare held n 28 [c9] = some y6 := by
      simpa [Value.cells, show Program.cellsOf Try.prog 28 = 1 by kernel_rfl] using hfs 6 _ rfl
    have z7 : DataW.trod enc Try.prog w base spare held n 26 [c10] = some y7 := by
      simpa [Value.cells, show Program.cellsOf Try.prog 26 = 1 by kernel_rfl] using hfs 7 _ rfl
    have z8 : DataW.trod enc Try.prog w base spare held n 26 [c11] = some y8 := by
      simpa [Value.cells, show Program.cellsOf Try.prog 26 = 1 by kernel_rfl] using hfs 8 _ rfl
    have z9 : DataW.trod enc Try.prog w base spare held n 26 [c12] = some y9 := by
      simpa [Value.cells, show Program.cellsOf Try.prog 26 = 1 by kernel_rfl] using hfs 9 _ rfl
    obtain ⟨wide, big, o, a, e0, e1, e2, e3⟩ := ident_of_cells z0
    obtain ⟨ty, k1, q1⟩ := u16_of_cell z1
    obtain ⟨ma, k2, q2⟩ := u16_of_cell z2
    obtain ⟨en, k3, q3⟩ := u64_of_cell z3
    obtain ⟨ph, k4, q4⟩ := u64_of_cell z4
    obtain ⟨sh, k5, q5⟩ := u64_of_cell z5
    obtain ⟨fl, k6, q6⟩ := u32_of_cell z6
    obtain ⟨pn, k7, q7⟩ := u16_of_cell z7
    obtain ⟨sn, k8, q8⟩ := u16_of_cell z8
    obtain ⟨st, k9, q9⟩ := u16_of_cell z9
    subst e0 e1 e2 e3 q1 q2 q3 q4 q5 q6 q7 q8 q9
    exact ⟨⟨wide, big, o, a, ty, ma, en, ph, sh, fl, pn, sn, st⟩, ⟨k1, k2, k3, k4, k5, k6, k7, k8, k9⟩, rfl⟩
end
end Go.Proofs.Ytkohkkgfmkocjaa
