/-
  The contract of wire.Fits. (Split from XWireA: a seat may lack the function.)
-/
import Derived.Test.YthebemikhjglbaaWireA
namespace Go.Proofs.Ythebemikhjglbaa
open Go.RowKit

theorem fits_any (v n : Int) (w : World) (h0 : 0 ≤ v) (h1 : v ≤ 18446744073709551615) :
    Calls Try.prog 38 #[.int .u64 v, .int .i64 n] w fun e w' => e = .returned (.bool (fits v n)) ∧ w = w' := by
  cases hw : wid n
  · have E := Lib.hid (show fits v n = false by simp [fits, hw])
    have H := Lib.hid hw
    clear hw
    go_enter Try.func38, Try.ntmps38
    go_wp2_with (go_at_call 52; refine (isWidth_any _ _).mono ?_; rintro e w' ⟨rfl, rfl⟩; rw [H.out])
    go_ret
    exact ⟨ret_bool E.out.symm, rfl⟩
  · rcases wid_cases hw with rfl | rfl | rfl | rfl
    all_goals
      have H := Lib.hid hw
      clear hw
      go_enter Try.func38, Try.ntmps38
      go_wp2_with (go_at_call 52; refine (isWidth_any _ _).mono ?_; rintro e w' ⟨rfl, rfl⟩; rw [H.out])
    all_goals
      go_ret
      exact ⟨ret_bool (by simp only [fits, H.out, Bool.true_and]; rw [Bool.eq_iff_iff]; simp; omega), rfl⟩
end Go.Proofs.Ythebemikhjglbaa
