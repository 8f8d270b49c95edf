/-
  Contracts of wire.isWidth, wire.Within : what each returns, at every argument; the world stays as it is.
-/
import Derived.Test.YthebemikhjglbaaRows
import Derived.Test.YthebemikhjglbaaPlPre
import Derived.WalkKit
import Derived.BigQuiet
import Derived.Deep.QuietTactic
import Derived.Lib.Hide
namespace Go.Proofs.Ythebemikhjglbaa
open Go.RowKit


def wid (n : Int) : Bool := decide (n = 1 ∨ n = 2 ∨ n = 4 ∨ n = 8)
theorem wid_cases {n : Int} (h : wid n = true) : n = 1 ∨ n = 2 ∨ n = 4 ∨ n = 8 := of_decide_eq_true h

theorem isWidth_any (n : Int) (w : World) : Calls Try.prog 52 #[.int .i64 n] w fun e w' => e = .returned (.bool (wid n)) ∧ w = w' := by
  by_cases h1 : n = 1
  · subst h1
    go_enter Try.func52, Try.ntmps52
    go_wp2
    go_ret
    exact ⟨rfl, rfl⟩
  by_cases h2 : n = 2
  · subst h2
    go_enter Try.func52, Try.ntmps52
    go_wp2
    go_ret
    exact ⟨rfl, rfl⟩
  by_cases h4 : n = 4
  · subst h4
    go_enter Try.func52, Try.ntmps52
    go_wp2
    go_ret
    exact ⟨rfl, rfl⟩
  by_cases h8 : n = 8
  · subst h8
    go_enter Try.func52, Try.ntmps52
    go_wp2
    go_ret
    exact ⟨rfl, rfl⟩
  have e : wid n = false := by unfold wid; simp [h1, h2, h4, h8]
  have b1 : (n == 1) = false := by simp [h1]
  have b2 : (n == 2) = false := by simp [h2]
  have b4 : (n == 4) = false := by simp [h4]
  have b8 : (n == 8) = false := by simp [h8]
  have E := Lib.hid e
  clear e h1 h2 h4 h8
  go_enter Try.func52, Try.ntmps52
  go_wp2
  go_ret
  exact ⟨ret_bool E.out.symm, rfl⟩

/-- Whether n bytes from a on end at s at most. -/
def wthn (a n s : Int) : Bool := decide (a + n ≤ s)

theorem within_any (a n s : Int) (w : World) (ha : 0 ≤ a) (hn : 0 ≤ n) (hs : s ≤ 18446744073709551615) :
    Calls Try.prog 62 #[.int .u64 a, .int .u64 n, .int .u64 s] w fun e w' => e = .returned (.bool (wthn a n s)) ∧ w = w' := by
  by_cases h1 : n ≤ s
  · have hd : 0 ≤ s - n := by omega
    by_cases h2 : a ≤ s - n
    · have E := Lib.hid (show wthn a n s = true from decide_eq_true (by omega))
      go_enter Try.func62, Try.ntmps62
      go_wp2
      go_ret
      exact ⟨ret_bool E.out.symm, rfl⟩
    · have E := Lib.hid (show wthn a n s = false from decide_eq_false (by omega))
      have h2' : decide (a ≤ s - n) = false := decide_eq_false h2
      go_enter Try.func62, Try.ntmps62
      go_wp2
      go_ret
      exact ⟨ret_bool E.out.symm, rfl⟩
  · have E := Lib.hid (show wthn a n s = false from decide_eq_false (by omega))
    have h1' : decide (n ≤ s) = false := decide_eq_false h1
    go_enter Try.func62, Try.ntmps62
    go_wp2
    go_ret
    exact ⟨ret_bool E.out.symm, rfl⟩

/-- Whether a number has no more than n bytes. -/
def fits (v n : Int) : Bool := wid n && decide (v < 256 ^ n.toNat)
end Go.Proofs.Ythebemikhjglbaa
