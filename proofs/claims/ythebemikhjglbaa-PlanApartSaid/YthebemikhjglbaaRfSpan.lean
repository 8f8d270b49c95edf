/-
  The contracts of the document's own Last, Meet, Below (layer 2) and Word.
-/
import Derived.Test.YthebemikhjglbaaPlPre
import Derived.OwnWalk
namespace Go.Proofs.Ythebemikhjglbaa
open Go.RowKit

/-- Whether two stretches have a number in common. -/
def meetN (a n b m : Nat) : Bool := decide (0 < n ∧ 0 < m ∧ a ≤ lastN b m ∧ b ≤ lastN a n)
theorem refLast_any (a n : Nat) (w : World) (ha : a < 18446744073709551616) (hn : n < 18446744073709551616) (h0 : 0 < n) :
    Calls Try.prog 18 #[.int .u64 a, .int .u64 n] w fun e w' => e = .returned (.int .u64 (lastN a n : Nat)) ∧ w = w' := by
  rcases Nat.lt_trichotomy (a + n) 18446744073709551616 with h | h | h
  · have E := Lib.hid (show lastN a n = a + n - 1 by unfold lastN; omega)
    have w1 : IntKind.u64.wrap ((a : Int) + n) = (a : Int) + n := by rw [IntKind.wrap_u64]; omega
    have w2 : IntKind.u64.wrap ((a : Int) + n - 1) = (a : Int) + n - 1 := by rw [IntKind.wrap_u64]; omega
    have d : decide ((a : Int) + n - 1 < a) = false := decide_eq_false (by omega)
    go_enter Try.func18, Try.ntmps18
    go_wp2
    go_ret
    exact ⟨ret_int (by rw [E.out]; omega), rfl⟩
  · have E := Lib.hid (show lastN a n = 18446744073709551615 by unfold lastN; omega)
    have w1 : IntKind.u64.wrap ((a : Int) + n) = 0 := by rw [IntKind.wrap_u64]; omega
    have w2 : IntKind.u64.wrap (-1) = 18446744073709551615 := by decide +kernel
    have d : decide ((18446744073709551615 : Int) < a) = false := decide_eq_false (by omega)
    go_enter Try.func18, Try.ntmps18
    go_wp2
    go_ret
    exact ⟨ret_int (by rw [E.out]; rfl), rfl⟩
  · have E := Lib.hid (show lastN a n = 18446744073709551615 by unfold lastN; omega)
    obtain ⟨r, hr⟩ : ∃ r : Nat, a + n = 18446744073709551616 + (r + 1) := ⟨a + n - 18446744073709551616 - 1, by omega⟩
    have w1 : IntKind.u64.wrap ((a : Int) + n) = r + 1 := by rw [IntKind.wrap_u64]; omega
    have w2 : IntKind.u64.wrap (r : Int) = r := by rw [IntKind.wrap_u64]; omega
    have d : decide ((r : Int) < a) = true := decide_eq_true (by omega)
    go_enter Try.func18, Try.ntmps18
    go_wp2
    go_ret
    exact ⟨ret_int (by rw [E.out]; rfl), rfl⟩

theorem meet_ref {a n b m : Nat} (hn : 0 < n) (hm : 0 < m) (ha : a < 18446744073709551616) (hb : b < 18446744073709551616) : meetN a n b m = if a ≤ b then decide (b ≤ lastN a n) else decide (a ≤ lastN b m) := by
  unfold meetN lastN
  split <;> rw [Bool.eq_iff_iff, decide_eq_true_iff, decide_eq_true_iff] <;> omega

theorem lastN_lt (a n : Nat) : lastN a n < 18446744073709551616 := by unfold lastN; omega

theorem refMeet_any (a n b m : Nat) (w : World) (ha : a < 18446744073709551616) (hn : n < 18446744073709551616) (hb : b < 18446744073709551616) (hm : m < 18446744073709551616) :
    Calls Try.prog 13 #[.int .u64 a, .int .u64 n, .int .u64 b, .int .u64 m] w fun e w' => e = .returned (.bool (meetN a n b m)) ∧ w = w' := by
  by_cases n0 : n = 0
  · subst n0
    have E := Lib.hid (show meetN a 0 b m = false by simp [meetN])
    go_enter Try.func13, Try.ntmps13
    go_wp2
    go_ret
    exact ⟨ret_bool E.out.symm, rfl⟩
  by_cases m0 : m = 0
  · subst m0
    have E := Lib.hid (show meetN a n b 0 = false by simp [meetN])
    have d : ((n : Int) == 0) = false := by simp [n0]
    clear n0
    go_enter Try.func13, Try.ntmps13
    go_wp2
    go_ret
    exact ⟨ret_bool E.out.symm, rfl⟩
  have E := Lib.hid (meet_ref (Nat.pos_of_ne_zero n0) (Nat.pos_of_ne_zero m0) ha hb)
  have d1 : ((n : Int) == 0) = false := by simp [n0]
  have d2 : ((m : Int) == 0) = false := by simp [m0]
  have hn0 := Lib.hid (Nat.pos_of_ne_zero n0)
  have hm0 := Lib.hid (Nat.pos_of_ne_zero m0)
  clear n0 m0
  by_cases h : a ≤ b
  · rw [if_pos h] at E
    go_enter Try.func13, Try.ntmps13
    go_wp2_with (go_at_call 18; refine (refLast_any _ _ _ ha hn hn0.out).mono ?_; rintro e w' ⟨rfl, rfl⟩)
    go_ret
    exact ⟨ret_bool (by simp [E.out]), rfl⟩
  · rw [if_neg h] at E
    go_enter Try.func13, Try.ntmps13
    go_wp2_with (go_at_call 18; refine (refLast_any _ _ _ hb hm hm0.out).mono ?_; rintro e w' ⟨rfl, rfl⟩)
    go_ret
    exact ⟨ret_bool (by simp [E.out]), rfl⟩

theorem refBelow_any (a n v : Nat) (w : World) (ha : a < 18446744073709551616) (hn : n < 18446744073709551616) :
    Calls Try.prog 32 #[.int .u64 a, .int .u64 n, .int .u64 v] w fun e w' => e = .returned (.bool (belowN a n v)) ∧ w = w' := by
  by_cases n0 : n = 0
  · subst n0
    have E := Lib.hid (show belowN a 0 v = decide (a ≤ v) by simp [belowN])
    go_enter Try.func32, Try.ntmps32
    go_wp2
    go_ret
    exact ⟨ret_bool (by simp [E.out]), rfl⟩
  · have E := Lib.hid (show belowN a n v = decide (lastN a n < v) by simp [belowN, n0])
    have d1 : ((n : Int) == 0) = false := by simp [n0]
    have hn0 := Lib.hid (Nat.pos_of_ne_zero n0)
    clear n0
    go_enter Try.func32, Try.ntmps32
    go_wp2_with (go_at_call 18; refine (refLast_any _ _ _ ha hn hn0.out).mono ?_; rintro e w' ⟨rfl, rfl⟩)
    go_ret
    exact ⟨ret_bool (by simp [E.out]), rfl⟩


theorem word_any (wide big : Bool) (w : World) : Calls Try.prog 48 #[.agg #[.bool wide, .bool big]] w fun e w' => e = .returned (.int .i64 (byWide wide 4 8 : Nat)) ∧ Grow w w' := by
  cases wide
  · go_enter Try.func48, Try.ntmps48
    go_wp2
    go_ret
    exact ⟨rfl, Grow.of_alloc _ _⟩
  · go_enter Try.func48, Try.ntmps48
    go_wp2
    go_ret
    exact ⟨rfl, Grow.of_alloc _ _⟩
end Go.Proofs.Ythebemikhjglbaa
