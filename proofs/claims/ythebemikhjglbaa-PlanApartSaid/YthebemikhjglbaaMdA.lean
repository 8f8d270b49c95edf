/-
  The contracts of model.width, last, isSeg, isWithin and held: what each returns; nothing that was there has changed.
-/
import Derived.Test.YthebemikhjglbaaRows
import Derived.Test.YthebemikhjglbaaPlPre
import Derived.Test.YthebemikhjglbaaWireA
namespace Go.Proofs.Ythebemikhjglbaa
open Go.RowKit

theorem mWidth_any (wide big : Bool) (w : World) : Calls Try.prog 35 #[.agg #[.bool wide, .bool big]] w fun e w' => e = .returned (.int .i64 (byWide wide 4 8 : Nat)) ∧ Grow w w' := by
  cases wide
  all_goals
    go_enter Try.func35, Try.ntmps35
    go_wp2
    go_ret
    exact ⟨rfl, Grow.of_alloc _ _⟩

theorem mLast_any (wide big : Bool) (w : World) : Calls Try.prog 63 #[.agg #[.bool wide, .bool big]] w fun e w' => e = .returned (.int .u64 (lastA wide : Nat)) ∧ Grow w w' := by
  cases wide
  all_goals
    go_enter Try.func63, Try.ntmps63
    go_wp2
    go_ret
    exact ⟨rfl, Grow.of_alloc _ _⟩

theorem mIsSeg_any (m : Md) (A1 A2 : Option Addr) (n1 c1 n2 c2 : Nat) (i : Int) (w : World) : Calls Try.prog 56 #[.agg (mdC m (.slice A1 n1 c1) (.slice A2 n2 c2)), .int .i64 i] w fun e w' => e = .returned (.bool (isSegN n1 i)) ∧ Grow w w' := by
  unfold mdC
  by_cases h0 : 0 ≤ i
  · have E := Lib.hid (show isSegN n1 i = decide (i < (n1 : Int)) by unfold isSegN; simp [h0])
    go_enter Try.func56, Try.ntmps56
    go_wp2
    go_ret
    exact ⟨ret_bool E.out.symm, Grow.of_alloc _ _⟩
  · have E := Lib.hid (show isSegN n1 i = false by unfold isSegN; simp [h0])
    have h1 : decide (0 ≤ i) = false := decide_eq_false h0
    clear h0
    go_enter Try.func56, Try.ntmps56
    go_wp2
    go_ret
    exact ⟨ret_bool E.out.symm, Grow.of_alloc _ _⟩

theorem mIsWithin_any (p : Pl) (S : Value) (A : Option Addr) (n c : Nat) (w : World) (hn : n ≤ maxLen) : Calls Try.prog 57 #[.agg (plC p S), .slice A n c] w fun e w' => e = .returned (.bool (p.within n)) ∧ Grow w w' := by
  unfold plC
  unfold maxLen at hn
  have z : IntKind.u64.wrap (n : Int) = (n : Int) := by rw [IntKind.wrap_u64]; omega
  have E := Lib.hid (show wthn (p.off : Nat) (p.size : Nat) (n : Nat) = p.within n by unfold wthn Pl.within; rw [Bool.eq_iff_iff, decide_eq_true_iff, decide_eq_true_iff]; omega)
  generalize p.within n = R at E ⊢
  generalize p.off = a at E ⊢
  generalize p.size = b at E ⊢
  generalize p.inn = i
  go_enter Try.func57, Try.ntmps57
  go_wp2_with (go_at_call 62; refine (within_any _ _ _ _ (by omega) (by omega) (by omega)).mono ?_; rintro e w' ⟨rfl, rfl⟩; rw [E.out])
  go_ret
  exact ⟨rfl, Grow.of_alloc _ _⟩

theorem mHeld_any (s : Se) (S : Value) (w : World) : Calls Try.prog 42 #[.agg (seC s S)] w fun e w' => e = .returned (.int .u64 (s.held : Nat)) ∧ Grow w w' := by
  unfold seC
  by_cases h0 : s.typ = 0
  · have E := Lib.hid (show s.held = 0 by unfold Se.held; simp [h0])
    have e0 : ((s.typ : Int) == 0) = true := by simp [h0]
    clear h0
    generalize s.held = R at E ⊢
    generalize s.typ = t at e0 ⊢
    go_enter Try.func42, Try.ntmps42
    go_wp2
    go_ret
    exact ⟨by rw [E.out]; rfl, Grow.of_alloc _ _⟩
  · have e0 : ((s.typ : Int) == 0) = false := by simp [h0]
    by_cases h8 : s.typ = 8
    · have E := Lib.hid (show s.held = 0 by unfold Se.held; simp [h8])
      have e8 : ((s.typ : Int) == 8) = true := by simp [h8]
      clear h0 h8
      generalize s.held = R at E ⊢
      generalize s.typ = t at e0 e8 ⊢
      go_enter Try.func42, Try.ntmps42
      go_wp2
      go_ret
      exact ⟨by rw [E.out]; rfl, Grow.of_alloc _ _⟩
    · have E := Lib.hid (show s.held = s.size by unfold Se.held; simp [h0, h8])
      have e8 : ((s.typ : Int) == 8) = false := by simp; omega
      clear h0 h8
      generalize s.held = R at E ⊢
      generalize s.typ = t at e0 e8 ⊢
      generalize s.size = z at E ⊢
      go_enter Try.func42, Try.ntmps42
      go_wp2
      go_ret
      exact ⟨ret_int (by rw [E.out]), Grow.of_alloc _ _⟩
end Go.Proofs.Ythebemikhjglbaa
