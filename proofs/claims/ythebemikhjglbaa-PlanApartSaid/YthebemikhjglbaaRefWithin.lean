/-
  The contract of the document's own Within (layer 1).
-/
import Derived.Test.YthebemikhjglbaaRefA
namespace Go.Proofs.Ythebemikhjglbaa
open Go.RowKit

theorem refWithin_any (a n s : Int) (w : World) (ha : 0 ≤ a) (hn : 0 ≤ n) (hs : s ≤ 18446744073709551615) :
    Calls Try.prog 12 #[.int .u64 a, .int .u64 n, .int .u64 s] w fun e w' => e = .returned (.bool (wthn a n s)) ∧ w = w' := by
  by_cases h1 : a ≤ s
  · have hd : 0 ≤ s - a := by omega
    by_cases h2 : n ≤ s - a
    · have E := Lib.hid (show wthn a n s = true from decide_eq_true (by omega))
      go_enter Try.func12, Try.ntmps12
      go_wp2
      go_ret
      exact ⟨ret_bool E.out.symm, rfl⟩
    · have E := Lib.hid (show wthn a n s = false from decide_eq_false (by omega))
      have h2' : decide (n ≤ s - a) = false := decide_eq_false h2
      go_enter Try.func12, Try.ntmps12
      go_wp2
      go_ret
      exact ⟨ret_bool E.out.symm, rfl⟩
  · have E := Lib.hid (show wthn a n s = false from decide_eq_false (by omega))
    have h1' : decide (a ≤ s) = false := decide_eq_false h1
    go_enter Try.func12, Try.ntmps12
    go_wp2
    go_ret
    exact ⟨ret_bool E.out.symm, rfl⟩
end Go.Proofs.Ythebemikhjglbaa
