/-
  What came in as a file's beginning, and as a slice of bytes, opened.
-/
import Derived.Test.YtkohkkgfmkocjaaIdentA
import Derived.Test.YtkohkkgfmkocjaaRow
import Derived.Deep.SlicePairs
import Derived.Lib.SmallJoins
import Derived.OpenShut
namespace Go.Proofs.Ytkohkkgfmkocjaa
open Go.ChangeShapes Go.WideShapes Go.RowKit Go.Joins Go.Deep

section
variable {H : Type} {enc : TypeId × Value → H} {w : World} {base : Nat} {spare : Nat → Bool} {held : Bool}
theorem byte_of {x : Int} (hw : (Lit.int .u8 x).wf = true) : ∃ a : UInt8, x = (a.toNat : Int) := by
  have hb := wf_u8 hw
  exact ⟨UInt8.ofNat x.toNat, by rw [UInt8.toNat_ofNat', Nat.mod_eq_of_lt (by omega)]; omega⟩

theorem u8_of_cell {n : Nat} {v : Value} {y : DataW H × List MemPlace} (h : DataW.trod enc Try.prog w base spare held n 5 [v] = some y) : ∃ a : UInt8, v = .int .u8 (a.toNat : Int) := by
  obtain ⟨x, hx, _, hw⟩ := DataW.trod_int Try.underlying5 h
  obtain ⟨a, rfl⟩ := byte_of hw
  injection hx with hx
  exact ⟨a, hx⟩

theorem open_byte {r : Reach} {b0 : Nat} {v : Value} {d : DataW H} {p : List MemPlace} (hv : Value.okWide Try.prog w r b0 5 v) (h : DataW.Trod enc Try.prog w base spare held 5 v d p) : ∃ a : UInt8, v = .int .u8 (a.toNat : Int) := by
  obtain ⟨x, rfl, _, _, hw⟩ := open_int Try.underlying5 hv h
  obtain ⟨a, rfl⟩ := byte_of hw
  exact ⟨a, rfl⟩

theorem open_i64 {r : Reach} {b0 : Nat} {v : Value} {d : DataW H} {p : List MemPlace} (hv : Value.okWide Try.prog w r b0 3 v) (h : DataW.Trod enc Try.prog w base spare held 3 v d p) : ∃ a : Int, v = .int .i64 a ∧ -9223372036854775808 ≤ a ∧ a ≤ 9223372036854775807 := by
  obtain ⟨x, rfl, _, _, hw⟩ := open_int Try.underlying3 hv h
  exact ⟨x, rfl, wf_i64 hw⟩

theorem open_ident {r : Reach} {b0 : Nat} {v : Value} {d : DataW H} {p : List MemPlace} (hv : Value.okWide Try.prog w r b0 25 v) (h : DataW.Trod enc Try.prog w base spare held 25 v d p) :
    ∃ (wide big : Bool) (o a : UInt8), v = idV wide big o a := by
  obtain ⟨cs, rfl, hsz⟩ := okWide_struct Try.underlying25 hv
  obtain ⟨c0, c1, c2, c3, rfl⟩ := array4 (hsz.trans (show Program.cellsOf Try.prog 25 = 4 by kernel_rfl))
  obtain ⟨fuel, hf⟩ := h
  obtain ⟨y0, y1, y2, n, _, _, h0, h1, h2⟩ := trod_struct3 Try.underlying25 hf
  have z0 : DataW.trod enc Try.prog w base spare held n 23 [c0, c1] = some y0 := by
    simpa [Value.cells, show Program.cellsOf Try.prog 23 = 2 by kernel_rfl] using h0
  have z1 : DataW.trod enc Try.prog w base spare held n 5 [c2] = some y1 := by
    simpa [Value.cells, show Program.cellsOf Try.prog 5 = 1 by kernel_rfl] using h1
  have z2 : DataW.trod enc Try.prog w base spare held n 5 [c3] = some y2 := by
    simpa [Value.cells, show Program.cellsOf Try.prog 5 = 1 by kernel_rfl] using h2
  obtain ⟨x0, x1, m, _, _, k0, k1⟩ := trod_struct2 Try.underlying23 z0
  have k0' : DataW.trod enc Try.prog w base spare held m 4 [c0] = some x0 := by
    simpa [show Program.cellsOf Try.prog 4 = 1 by kernel_rfl] using k0
  have k1' : DataW.trod enc Try.prog w base spare held m 4 [c1] = some x1 := by
    simpa [show Program.cellsOf Try.prog 4 = 1 by kernel_rfl] using k1
  obtain ⟨wide, e0, _⟩ := DataW.trod_bool Try.underlying4 k0'
  obtain ⟨big, e1, _⟩ := DataW.trod_bool Try.underlying4 k1'
  obtain ⟨o, e2⟩ := u8_of_cell z1
  obtain ⟨a, e3⟩ := u8_of_cell z2
  injection e0 with e0
  injection e1 with e1
  subst e0 e1 e2 e3
  exact ⟨wide, big, o, a, rfl⟩

theorem open_row {b0 : Nat} {r : Reach} {v : Value} {d : DataW H} {p : List MemPlace} (hv : Value.okWide Try.prog w r b0 31 v) (h : DataW.Trod enc Try.prog w base (fun _ => true) held 31 v d p) :
    ∃ (A : Option Addr) (n c : Nat) (l : List UInt8), v = .slice A n c ∧ RB w w.heap.size A n c l := by
  obtain ⟨A, n, c, rfl⟩ := okWide_slice Try.underlying31 hv
  obtain ⟨fuel, hf⟩ := h
  rcases open_ints Try.underlying31 Try.underlying5 (by kernel_rfl) hf with ⟨hcs, _⟩ | ⟨a, len', cap', zs, hcs, _, hl, hm, hz, hx, hcell, hwz⟩
  · simp [Value.cells] at hcs
    obtain ⟨rfl, rfl, rfl⟩ := hcs
    exact ⟨none, 0, 0, [], rfl, RB.nil⟩
  · simp [Value.cells] at hcs
    obtain ⟨rfl, rfl, rfl⟩ := hcs
    simp only [if_true] at hz
    exact ⟨some a, n, c, _, rfl, rb_of_cells w a n c zs hl hm hz hcell hwz⟩
end
end Go.Proofs.Ytkohkkgfmkocjaa
