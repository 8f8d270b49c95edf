/-
  The contract of bytes.IndexByte at 0: where the first 0 is.
-/
import Derived.Test.YthebemikhjglbaaRows
import Derived.Test.YthebemikhjglbaaPlPre
import Derived.Lib.BytesEntry
import Derived.Laws.Entries
namespace Go.Proofs.Ythebemikhjglbaa
open Go.RowKit

/-- The bytes as the library's reader has them. -/
theorem bytes_of (l : Bs) : Lib.bytesOf (l.map fun b => (b.toNat : Int)) = l := by
  simp [Lib.bytesOf, List.map_map, Function.comp_def]

theorem bidx_zero (a : Addr) (c : Nat) (w : World) : (Extern.BytealgIndexByte.indexByte #[.slice (some a) 0 c, .int .u8 0]).run Try.prog w = .ok (.int .i64 (Lib.indexByte [] 0)) w := by rfl

set_option maxHeartbeats 400000 in
theorem bidx_any (A : Option Addr) (n c : Nat) (l : Bs) (B : Nat) (w : World) (h : RB w B A n c l) :
    Calls Try.prog 66 #[.slice A n c, .int .u8 0] w fun e w' => e = .returned (.int .i64 (Lib.indexByte l 0)) ∧ w = w' := by
  rcases A with _ | ⟨b, off, sp⟩
  · have hl : l = [] := by
      rcases Nat.eq_zero_or_pos n with h0 | h0
      · exact List.eq_nil_of_length_eq_zero (by rw [← h.len]; exact h0)
      · obtain ⟨_, _, e, _⟩ := h.pos h0
        cases e
    subst hl
    clear h
    go_enter Try.func66, Try.ntmps66
    go_wp2
    rw [run_callFunc_extern Try.func67 (by kernel_rfl) (by kernel_rfl) (by kernel_rfl) (e := Extern.BytealgIndexByte.indexByte) (by kernel_rfl), Lib.run_indexByteNil w n c 0]
    simp only [Result.andThen]
    rw [Oper.upon_value]
    go_wp2
    go_ret
    exact ⟨rfl, rfl⟩
  · have run : (Extern.BytealgIndexByte.indexByte #[.slice (some ⟨b, off, sp⟩) n c, .int .u8 0]).run Try.prog w = .ok (.int .i64 (Lib.indexByte l 0)) w := by
      rcases Nat.eq_zero_or_pos n with h0 | h0
      · have hl : l = [] := List.eq_nil_of_length_eq_zero (by rw [← h.len]; exact h0)
        subst hl
        subst h0
        exact bidx_zero _ _ _
      · obtain ⟨b', off', e, _, hc⟩ := h.pos h0
        injection e with e
        obtain ⟨rfl, rfl, rfl⟩ := Addr.mk.inj e
        have := Lib.run_indexByteSlice (P := Try.prog) w b off n c (l.map fun b => (b.toNat : Int)) (by simp [h.len]) (fun i hi => by
          rw [hc i (by rw [← h.len]; exact hi)]
          simp [List.getElem?_eq_getElem (show i < l.length by rw [← h.len]; exact hi)]) 0
        rw [bytes_of] at this
        exact this
    clear h
    have R := Lib.hid run
    clear run
    go_enter Try.func66, Try.ntmps66
    go_wp2
    rw [run_callFunc_extern Try.func67 (by kernel_rfl) (by kernel_rfl) (by kernel_rfl) (e := Extern.BytealgIndexByte.indexByte) (by kernel_rfl), R.out]
    simp only [Result.andThen]
    rw [Oper.upon_value]
    go_wp2
    go_ret
    exact ⟨rfl, rfl⟩
end Go.Proofs.Ythebemikhjglbaa
