/-
  The contracts of ident.Put and of the document's own Ident: the same bytes.
-/
import Derived.Test.YtkohkkgfmkocjaaIdentA
import Derived.Lib.BufferWrite
import Derived.Deep.WholeRow
namespace Go.Proofs.Ytkohkkgfmkocjaa
open Go.RowKit

theorem make16 (w : World) : (Instr.makeSlice 31 (.int .i64 16) (.int .i64 16)).run Try.prog w = .ok (.slice (some ⟨w.heap.size, 0, none⟩) 16 16)
    (w.alloc (.cells #[.int .u8 0, .int .u8 0, .int .u8 0, .int .u8 0, .int .u8 0, .int .u8 0, .int .u8 0, .int .u8 0, .int .u8 0, .int .u8 0, .int .u8 0, .int .u8 0, .int .u8 0, .int .u8 0, .int .u8 0, .int .u8 0] 5)) := by kernel_rfl

theorem copy4 (w : World) (ob : Obj) : (Builtin.copy_ #[31, 9] 3 #[.slice (some ⟨w.heap.size + 1, 0, none⟩) 16 16, .string { data := #[127, 69, 76, 70] }]).run Try.prog ((w.alloc ob).alloc (.cells #[.int .u8 0, .int .u8 0, .int .u8 0, .int .u8 0, .int .u8 0, .int .u8 0, .int .u8 0, .int .u8 0, .int .u8 0, .int .u8 0, .int .u8 0, .int .u8 0, .int .u8 0, .int .u8 0, .int .u8 0, .int .u8 0] 5)) =
    .ok (.int .i64 4) ((w.alloc ob).alloc (.cells #[.int .u8 127, .int .u8 69, .int .u8 76, .int .u8 70, .int .u8 0, .int .u8 0, .int .u8 0, .int .u8 0, .int .u8 0, .int .u8 0, .int .u8 0, .int .u8 0, .int .u8 0, .int .u8 0, .int .u8 0, .int .u8 0] 5)) := by
  have e : w.heap.size + 1 = (w.alloc ob).heap.size := by simp
  rw [e, Lib.run_copy_row_string _ _ _ _ 5 _ _ _ _ _ _ _ Try.underlying31 (by kernel_rfl) (heap_alloc_new _ _) (by decide) (by decide), World.setRow_alloc_new]
  rfl

/-- The bytes as cells. -/
def idC (wide big : Bool) (o a : UInt8) : Array Value := ((idL wide big o a).map byt).toArray

theorem idPut_any (wide big : Bool) (o a : UInt8) (w : World) : Calls Try.prog 15 #[idV wide big o a] w fun e w' =>
    e = .returned (.slice (some ⟨w.heap.size + 1, 0, none⟩) 16 16) ∧ ∃ ob, w' = (w.alloc ob).alloc (.cells (idC wide big o a) 5) := by
  have hmk := make16
  have hcp := copy4
  unfold idV
  go_enter Try.func15, Try.ntmps15
  go_wp2_with (go_at_call 31; refine (oneOrTwo_any _ _).mono ?_; rintro e w' ⟨rfl, rfl⟩)
  go_ret
  exact ⟨rfl, _, rfl⟩
theorem refIdent_any (wide big : Bool) (o a : UInt8) (w : World) : Calls Try.prog 22 #[idV wide big o a] w fun e w' => 
    e = .returned (.slice (some ⟨w.heap.size + 1, 0, none⟩) 16 16) ∧ ∃ ob, w' = (w.alloc ob).alloc (.cells (idC wide big o a) 5) := by
  unfold idV
  cases wide <;> cases big <;>
  · go_enter Try.func22, Try.ntmps22
    go_wp2
    go_ret
    exact ⟨rfl, _, rfl⟩
end Go.Proofs.Ytkohkkgfmkocjaa
