/-
  The contract of the helper Code, at no error and at one of api's, itself.
-/
import Derived.Test.YthebemikhjglbaaRows
import Derived.WalkKit
import Derived.Lib.Hide
namespace Go.Proofs.Ythebemikhjglbaa
open Go.RowKit

/-- Code at no error. -/
theorem code_nil (w : World) : Calls Try.prog 9 #[.nilIface] w fun e w' => e = .returned (.int .i64 0) ∧ w = w' := by
  go_enter Try.func9, Try.ntmps9
  go_wp2
  go_ret
  exact ⟨rfl, rfl⟩

/-- Two of api's errors are the same if their numbers are. -/
theorem eq_codes (a b : Int) (w : World) : (binOp .eql 39 (.iface 61 (.int .i64 a)) (.iface 61 (.int .i64 b))).run Try.prog w = .ok (.bool (a == b)) w := by kernel_rfl

set_option maxRecDepth 100000 in
/-- Code at an error that is one of api's, itself. -/
theorem code_some (c : Nat) (h0 : 0 < c) (h1 : c ≤ 12) (w : World) : Calls Try.prog 9 #[.iface 61 (.int .i64 c)] w fun e w' => e = .returned (.int .i64 c) ∧ w = w' := by
  go_enter Try.func9, Try.ntmps9
  go_wp2_with fail
  go_loop [3] (fun i => ∃ k : Nat, 1 ≤ k ∧ k ≤ c ∧ i = .int .i64 k) (fun i => 20 - (intOf i).toNat)
  case atStart => exact ⟨1, by omega, by omega, rfl⟩
  case round =>
    obtain ⟨k, hk1, hk, rfl⟩ := hrel
    have hq := eq_codes c k w
    by_cases e : k = c
    · subst e
      have hne : ((k : Int) == (k : Int)) = true := by simp
      rw [hne] at hq
      go_wp2
      go_ret
      exact ⟨rfl, rfl⟩
    · have hne : ((c : Int) == (k : Int)) = false := by simp; omega
      go_wp2
      go_round
      case rel => exact ⟨k + 1, by omega, by omega, by go_num⟩
      case measure => simp [intOf]; omega
end Go.Proofs.Ythebemikhjglbaa
