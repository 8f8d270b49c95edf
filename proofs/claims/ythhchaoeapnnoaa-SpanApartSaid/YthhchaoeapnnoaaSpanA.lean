/-
  Contracts of the document's own Last, Meet and Below (layer 2), and of span.last and span.below: what each returns; nothing that was there has changed.
-/
import Derived.Test.YthhchaoeapnnoaaRows
import Derived.Test.YthhchaoeapnnoaaTree
import Derived.WalkKit
import Derived.BigQuiet
import Derived.Deep.QuietTactic
import Derived.Lib.Hide
namespace Go.Proofs.Ythhchaoeapnnoaa
open Go.RowKit

theorem ret_int {k : IntKind} {a b : Int} (h : a = b) : Ending.returned (.int k a) = .returned (.int k b) := by rw [h]
theorem ret_bool {a b : Bool} (h : a = b) : Ending.returned (.bool a) = .returned (.bool b) := by rw [h]

/-- The greatest number of a stretch that has one. -/
def lastN (a n : Nat) : Nat := min (a + n - 1) 18446744073709551615
/-- Whether two stretches have a number in common. -/
def meetN (a n b m : Nat) : Bool := decide (0 < n ∧ 0 < m ∧ a ≤ lastN b m ∧ b ≤ lastN a n)
/-- Whether a stretch may stand ahead of one from v on. -/
def belowN (a n v : Nat) : Bool := if n = 0 then decide (a ≤ v) else decide (lastN a n < v)

theorem refLast_any (a n : Nat) (w : World) (ha : a < 18446744073709551616) (hn : n < 18446744073709551616) (h0 : 0 < n) :
    Calls Try.prog 12 #[.int .u64 a, .int .u64 n] w fun e w' => e = .returned (.int .u64 (lastN a n : Nat)) ∧ w = w' := by
  rcases Nat.lt_trichotomy (a + n) 18446744073709551616 with h | h | h
  · have E := Lib.hid (show lastN a n = a + n - 1 by unfold lastN; omega)
    have w1 : IntKind.u64.wrap ((a : Int) + n) = (a : Int) + n := by rw [IntKind.wrap_u64]; omega
    have w2 : IntKind.u64.wrap ((a : Int) + n - 1) = (a : Int) + n - 1 := by rw [IntKind.wrap_u64]; omega
    have d : decide ((a : Int) + n - 1 < a) = false := decide_eq_false (by omega)
    go_enter Try.func12, Try.ntmps12
    go_wp2
    go_ret
    exact ⟨ret_int (by rw [E.out]; omega), rfl⟩
  · have E := Lib.hid (show lastN a n = 18446744073709551615 by unfold lastN; omega)
    have w1 : IntKind.u64.wrap ((a : Int) + n) = 0 := by rw [IntKind.wrap_u64]; omega
    have w2 : IntKind.u64.wrap (-1) = 18446744073709551615 := by decide +kernel
    have d : decide ((18446744073709551615 : Int) < a) = false := decide_eq_false (by omega)
    go_enter Try.func12, Try.ntmps12
    go_wp2
    go_ret
    exact ⟨ret_int (by rw [E.out]; rfl), rfl⟩
  · have E := Lib.hid (show lastN a n = 18446744073709551615 by unfold lastN; omega)
    obtain ⟨r, hr⟩ : ∃ r : Nat, a + n = 18446744073709551616 + (r + 1) := ⟨a + n - 18446744073709551616 - 1, by omega⟩
    have w1 : IntKind.u64.wrap ((a : Int) + n) = r + 1 := by rw [IntKind.wrap_u64]; omega
    have w2 : IntKind.u64.wrap (r : Int) = r := by rw [IntKind.wrap_u64]; omega
    have d : decide ((r : Int) < a) = true := decide_eq_true (by omega)
    go_enter Try.func12, Try.ntmps12
    go_wp2
    go_ret
    exact ⟨ret_int (by rw [E.out]; rfl), rfl⟩

theorem meet_ref {a n b m : Nat} (hn : 0 < n) (hm : 0 < m) (ha : a < 18446744073709551616) (hb : b < 18446744073709551616) : meetN a n b m = if a ≤ b then decide (b ≤ lastN a n) else decide (a ≤ lastN b m) := by
  unfold meetN lastN
  split <;> rw [Bool.eq_iff_iff, decide_eq_true_iff, decide_eq_true_iff] <;> omega

theorem lastN_lt (a n : Nat) : lastN a n < 18446744073709551616 := by unfold lastN; omega

theorem refMeet_any (a n b m : Nat) (w : World) (ha : a < 18446744073709551616) (hn : n < 18446744073709551616) (hb : b < 18446744073709551616) (hm : m < 18446744073709551616) :
    Calls Try.prog 7 #[.int .u64 a, .int .u64 n, .int .u64 b, .int .u64 m] w fun e w' => e = .returned (.bool (meetN a n b m)) ∧ w = w' := by
  by_cases n0 : n = 0
  · subst n0
    have E := Lib.hid (show meetN a 0 b m = false by simp [meetN])
    go_enter Try.func7, Try.ntmps7
    go_wp2
    go_ret
    exact ⟨ret_bool E.out.symm, rfl⟩
  by_cases m0 : m = 0
  · subst m0
    have E := Lib.hid (show meetN a n b 0 = false by simp [meetN])
    have d : ((n : Int) == 0) = false := by simp [n0]
    clear n0
    go_enter Try.func7, Try.ntmps7
    go_wp2
    go_ret
    exact ⟨ret_bool E.out.symm, rfl⟩
  have E := Lib.hid (meet_ref (Nat.pos_of_ne_zero n0) (Nat.pos_of_ne_zero m0) ha hb)
  have d1 : ((n : Int) == 0) = false := by simp [n0]
  have d2 : ((m : Int) == 0) = false := by simp [m0]
  have hn0 := Lib.hid (Nat.pos_of_ne_zero n0)
  have hm0 := Lib.hid (Nat.pos_of_ne_zero m0)
  clear n0 m0
  by_cases h : a ≤ b
  · rw [if_pos h] at E
    go_enter Try.func7, Try.ntmps7
    go_wp2_with (go_at_call 12; refine (refLast_any _ _ _ ha hn hn0.out).mono ?_; rintro e w' ⟨rfl, rfl⟩)
    go_ret
    exact ⟨ret_bool (by simp [E.out]), rfl⟩
  · rw [if_neg h] at E
    go_enter Try.func7, Try.ntmps7
    go_wp2_with (go_at_call 12; refine (refLast_any _ _ _ hb hm hm0.out).mono ?_; rintro e w' ⟨rfl, rfl⟩)
    go_ret
    exact ⟨ret_bool (by simp [E.out]), rfl⟩

theorem refBelow_any (a n v : Nat) (w : World) (ha : a < 18446744073709551616) (hn : n < 18446744073709551616) :
    Calls Try.prog 8 #[.int .u64 a, .int .u64 n, .int .u64 v] w fun e w' => e = .returned (.bool (belowN a n v)) ∧ w = w' := by
  by_cases n0 : n = 0
  · subst n0
    have E := Lib.hid (show belowN a 0 v = decide (a ≤ v) by simp [belowN])
    go_enter Try.func8, Try.ntmps8
    go_wp2
    go_ret
    exact ⟨ret_bool (by simp [E.out]), rfl⟩
  · have E := Lib.hid (show belowN a n v = decide (lastN a n < v) by simp [belowN, n0])
    have d1 : ((n : Int) == 0) = false := by simp [n0]
    have hn0 := Lib.hid (Nat.pos_of_ne_zero n0)
    clear n0
    go_enter Try.func8, Try.ntmps8
    go_wp2_with (go_at_call 12; refine (refLast_any _ _ _ ha hn hn0.out).mono ?_; rintro e w' ⟨rfl, rfl⟩)
    go_ret
    exact ⟨ret_bool (by simp [E.out]), rfl⟩

/-- A stretch as a value. -/
def spanV (a n : Nat) : Value := .agg #[.int .u64 a, .int .u64 n]

theorem last_any (a n : Nat) (w : World) (ha : a < 18446744073709551616) (hn : n < 18446744073709551616) (h0 : 0 < n) :
    Calls Try.prog 11 #[.agg #[.int .u64 a, .int .u64 n]] w fun e w' => e = .returned (.int .u64 (lastN a n : Nat)) ∧ Grow w w' := by
  have z1 : IntKind.u64.wrap ((n : Int) - 1) = (n : Int) - 1 := by rw [IntKind.wrap_u64]; omega
  have z2 : IntKind.u64.wrap (18446744073709551615 - (a : Int)) = 18446744073709551615 - (a : Int) := by rw [IntKind.wrap_u64]; omega
  by_cases h : (n : Int) - 1 ≤ 18446744073709551615 - (a : Int)
  · have E := Lib.hid (show (lastN a n : Int) = (a : Int) + (n - 1) by unfold lastN; omega)
    go_enter Try.func11, Try.ntmps11
    go_wp2
    go_ret
    exact ⟨ret_int E.out.symm, Grow.of_alloc _ _⟩
  · have E := Lib.hid (show (lastN a n : Int) = (a : Int) + (18446744073709551615 - (a : Int)) by unfold lastN; omega)
    go_enter Try.func11, Try.ntmps11
    go_wp2
    go_ret
    exact ⟨ret_int E.out.symm, Grow.of_alloc _ _⟩

theorem below_any (a n v : Nat) (w : World) (ha : a < 18446744073709551616) (hn : n < 18446744073709551616) :
    Calls Try.prog 13 #[.agg #[.int .u64 a, .int .u64 n], .int .u64 v] w fun e w' => e = .returned (.bool (belowN a n v)) ∧ Grow w w' := by
  by_cases n0 : n = 0
  · subst n0
    have E := Lib.hid (show belowN a 0 v = decide (a ≤ v) by simp [belowN])
    go_enter Try.func13, Try.ntmps13
    go_wp2
    go_ret
    exact ⟨ret_bool (by simp [E.out]), Grow.of_alloc _ _⟩
  · have E := Lib.hid (show belowN a n v = decide (lastN a n < v) by simp [belowN, n0])
    have d1 : ((n : Int) == 0) = false := by simp [n0]
    have hn0 := Lib.hid (Nat.pos_of_ne_zero n0)
    clear n0
    go_enter Try.func13, Try.ntmps13
    go_wp2_with (go_at_call 11; refine (last_any _ _ _ ha hn hn0.out).mono ?_; rintro e w' ⟨rfl, hb⟩; have HB := Lib.hid hb; clear hb)
    go_ret
    exact ⟨ret_bool (by simp [E.out]), (Grow.of_alloc _ _).trans HB.out⟩
end Go.Proofs.Ythhchaoeapnnoaa
