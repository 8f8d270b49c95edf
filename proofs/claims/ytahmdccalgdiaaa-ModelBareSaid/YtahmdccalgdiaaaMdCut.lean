/-
  A part of bytes that may be nil. No program's function is spoken of here.
-/
import Derived.Test.YtahmdccalgdiaaaRows
import Derived.Test.YtahmdccalgdiaaaNtCut
namespace Go.Proofs.Ytahmdccalgdiaaa
open Go.RowKit

theorem cut_any {w : World} {B n c : Nat} {A : Option Addr} {l : List UInt8} (h : RB w B A n c l) {p m : Nat} (hp : p + m ≤ n) :
    ∃ A' c', (∀ W, (Instr.slice 38 (.slice A n c) (some (.int .u64 (p : Int))) (some (.int .u64 ((p : Int) + (m : Int)))) none).run Try.prog W = .ok (.slice A' m c') W) ∧ RB w B A' m c' ((l.drop p).take m) := by
  have hcap := h.cap
  have hmax := h.max
  have hz8 : ∀ W, (sizeOf (Try.prog.elem 38)).run Try.prog W = .ok 1 W := fun W => by kernel_rfl
  rcases A with _ | a
  · have hn : n = 0 := by
      rcases Nat.eq_zero_or_pos n with h0 | h0
      · exact h0
      · obtain ⟨_, _, e, _⟩ := h.pos h0
        cases e
    subst hn
    obtain rfl : p = 0 := by omega
    obtain rfl : m = 0 := by omega
    refine ⟨none, c, fun W => ?_, by simp, Nat.zero_le _, hmax, fun h => absurd h (by omega)⟩
    have := run_slice_lh (P := Try.prog) W 38 none 0 c (by kernel_rfl) .u64 .u64 0 0 (by omega) (by omega) (by omega)
    rw [hz8] at this
    simpa [Result.andThen, sliced] using this
  · refine ⟨some (cutA a c p), c - p, fun W => ?_, h.cut hp⟩
    have := run_cut_lh (P := Try.prog) 38 (by kernel_rfl) hz8 a n c .u64 .u64 p (p + m) (by omega) (by omega) W
    rw [show p + m - p = m by omega] at this
    simpa using this
end Go.Proofs.Ytahmdccalgdiaaa
