/-
  The contracts of the document's own Word, headRow, Sizes; and of Code at the errors that head tells.
-/
import Derived.Test.YtkohkkgfmkocjaaHeadA
import Derived.Test.YtkohkkgfmkocjaaNums
import Derived.OwnWalk
namespace Go.Proofs.Ytkohkkgfmkocjaa
open Go.RowKit

theorem word_any (wide big : Bool) (w : World) : Calls Try.prog 37 #[.agg #[.bool wide, .bool big]] w fun e w' => e = .returned (.int .i64 (byWide wide 4 8 : Nat)) ∧ Grow w w' := by
  cases wide
  · go_enter Try.func37, Try.ntmps37
    go_wp2
    go_ret
    exact ⟨rfl, Grow.of_alloc _ _⟩
  · go_enter Try.func37, Try.ntmps37
    go_wp2
    go_ret
    exact ⟨rfl, Grow.of_alloc _ _⟩

theorem sizes_any (wide big : Bool) (w : World) : Calls Try.prog 6 #[.agg #[.bool wide, .bool big]] w fun e w' =>
    e = .returned (.tuple #[.int .i64 (hSize wide : Nat), .int .i64 (byWide wide 32 56 : Nat), .int .i64 (byWide wide 40 64 : Nat)]) ∧ Grow w w' := by
  cases wide
  · go_enter Try.func6, Try.ntmps6
    go_wp2
    go_ret3
    exact ⟨rfl, Grow.of_alloc _ _⟩
  · go_enter Try.func6, Try.ntmps6
    go_wp2
    go_ret3
    exact ⟨rfl, Grow.of_alloc _ _⟩

theorem headRow_any (wide big : Bool) (w : World) : Calls Try.prog 21 #[.agg #[.bool wide, .bool big]] w fun e w' =>
    ∃ g, e = .returned (.slice (some ⟨g, 0, none⟩) 13 13) ∧ Blk w' g 3 (i64s (hRow wide)) ∧ w.heap.size ≤ g ∧ Grow w w' := by
  go_enter Try.func21, Try.ntmps21
  go_wp2_with fail
  refine (word_any wide big _).mono ?_
  rintro e w1 ⟨rfl, hg⟩
  have HG := Lib.hid ((Grow.of_alloc _ _).trans hg)
  clear hg
  go_wp2
  go_ret
  exact ⟨w1.heap.size, rfl, Blk.new _ _ _, HG.out.size, HG.out.trans (Grow.of_alloc _ _)⟩

/-- Code at no error. -/
theorem code_nil (w : World) : Calls Try.prog 13 #[.nilIface] w fun e w' => e = .returned (.int .i64 0) ∧ w = w' := by
  go_enter Try.func13, Try.ntmps13
  go_wp2
  go_ret
  exact ⟨rfl, rfl⟩

/-- Two of api's errors are the same if their numbers are. -/
theorem eq_codes (a b : Int) (w : World) : (binOp .eql 36 (.iface 58 (.int .i64 a)) (.iface 58 (.int .i64 b))).run Try.prog w = .ok (.bool (a == b)) w := by kernel_rfl

/-- Code at an error that is one of api's, itself. -/
theorem code_some (c : Nat) (h0 : 0 < c) (h1 : c ≤ 12) (w : World) : Calls Try.prog 13 #[.iface 58 (.int .i64 c)] w fun e w' => e = .returned (.int .i64 c) ∧ w = w' := by
  go_enter Try.func13, Try.ntmps13
  go_wp2_with fail
  go_loop [3] (fun i => ∃ k : Nat, 1 ≤ k ∧ k ≤ c ∧ i = .int .i64 k) (fun i => 20 - (intOf i).toNat)
  case atStart => exact ⟨1, by omega, by omega, rfl⟩
  case round =>
    obtain ⟨k, hk1, hk, rfl⟩ := hrel
    have hq := eq_codes c k w
    by_cases e : k = c
    · subst e
      have hne : ((k : Int) == (k : Int)) = true := by simp
      rw [hne] at hq
      go_wp2
      go_ret
      exact ⟨rfl, rfl⟩
    · have hne : ((c : Int) == (k : Int)) = false := by simp; omega
      go_wp2
      go_round
      case rel => exact ⟨k + 1, by omega, by omega, by go_num⟩
      case measure => simp [intOf]; omega
end Go.Proofs.Ytkohkkgfmkocjaa
