/-
  What came in as a number, and as a slice of bytes, opened. No program's type of its own is spoken of here.
-/
import Derived.Test.YthebemikhjglbaaRows
import Derived.Test.YthebemikhjglbaaRow
import Derived.Deep.SlicePairs
import Derived.Lib.SmallJoins
import Derived.OpenShut
namespace Go.Proofs.Ythebemikhjglbaa
open Go.ChangeShapes Go.WideShapes Go.RowKit Go.Joins Go.Deep

section
variable {H : Type} {enc : TypeId × Value → H} {w : World} {base : Nat} {spare : Nat → Bool} {held : Bool}
theorem byte_of {x : Int} (hw : (Lit.int .u8 x).wf = true) : ∃ a : UInt8, x = (a.toNat : Int) := by
  have hb := wf_u8 hw
  exact ⟨UInt8.ofNat x.toNat, by rw [UInt8.toNat_ofNat', Nat.mod_eq_of_lt (by omega)]; omega⟩

theorem u8_of_cell {n : Nat} {v : Value} {y : DataW H × List MemPlace} (h : DataW.trod enc Try.prog w base spare held n 5 [v] = some y) : ∃ a : UInt8, v = .int .u8 (a.toNat : Int) := by
  obtain ⟨x, hx, _, hw⟩ := DataW.trod_int Try.underlying5 h
  obtain ⟨a, rfl⟩ := byte_of hw
  injection hx with hx
  exact ⟨a, hx⟩

theorem open_byte {r : Reach} {b0 : Nat} {v : Value} {d : DataW H} {p : List MemPlace} (hv : Value.okWide Try.prog w r b0 5 v) (h : DataW.Trod enc Try.prog w base spare held 5 v d p) : ∃ a : UInt8, v = .int .u8 (a.toNat : Int) := by
  obtain ⟨x, rfl, _, _, hw⟩ := open_int Try.underlying5 hv h
  obtain ⟨a, rfl⟩ := byte_of hw
  exact ⟨a, rfl⟩

theorem open_i64 {r : Reach} {b0 : Nat} {v : Value} {d : DataW H} {p : List MemPlace} (hv : Value.okWide Try.prog w r b0 3 v) (h : DataW.Trod enc Try.prog w base spare held 3 v d p) : ∃ a : Int, v = .int .i64 a ∧ -9223372036854775808 ≤ a ∧ a ≤ 9223372036854775807 := by
  obtain ⟨x, rfl, _, _, hw⟩ := open_int Try.underlying3 hv h
  exact ⟨x, rfl, wf_i64 hw⟩

theorem u64_of_cell {n : Nat} {v : Value} {y : DataW H × List MemPlace} (h : DataW.trod enc Try.prog w base spare held n 28 [v] = some y) : ∃ a : Nat, a < 18446744073709551616 ∧ v = .int .u64 (a : Int) := by
  obtain ⟨x, hx, _, hw⟩ := DataW.trod_int Try.underlying28 h
  have := bounds_u64 hw
  injection hx with hx
  exact ⟨x.toNat, by omega, by rw [hx]; congr 1; omega⟩
theorem open_u64 {r : Reach} {b0 : Nat} {v : Value} {d : DataW H} {p : List MemPlace} (hv : Value.okWide Try.prog w r b0 28 v) (h : DataW.Trod enc Try.prog w base spare held 28 v d p) : ∃ a : Nat, v = .int .u64 a ∧ a < 18446744073709551616 := by
  obtain ⟨x, rfl, _, _, hw⟩ := open_int Try.underlying28 hv h
  have hb := bounds_u64 hw
  exact ⟨x.toNat, by congr 1; omega, by omega⟩

theorem open_row {b0 : Nat} {r : Reach} {v : Value} {d : DataW H} {p : List MemPlace} (hv : Value.okWide Try.prog w r b0 50 v) (h : DataW.Trod enc Try.prog w base (fun _ => true) held 50 v d p) :
    ∃ (A : Option Addr) (n c : Nat) (l : List UInt8), v = .slice A n c ∧ RB w w.heap.size A n c l := by
  obtain ⟨A, n, c, rfl⟩ := okWide_slice Try.underlying50 hv
  obtain ⟨fuel, hf⟩ := h
  rcases open_ints Try.underlying50 Try.underlying5 (by kernel_rfl) hf with ⟨hcs, _⟩ | ⟨a, len', cap', zs, hcs, _, hl, hm, hz, hx, hcell, hwz⟩
  · simp [Value.cells] at hcs
    obtain ⟨rfl, rfl, rfl⟩ := hcs
    exact ⟨none, 0, 0, [], rfl, RB.nil⟩
  · simp [Value.cells] at hcs
    obtain ⟨rfl, rfl, rfl⟩ := hcs
    simp only [if_true] at hz
    exact ⟨some a, n, c, _, rfl, rb_of_cells w a n c zs hl hm hz hcell hwz⟩
end
end Go.Proofs.Ythebemikhjglbaa
