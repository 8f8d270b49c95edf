/-
  Contracts of the document's own Wide (layer 1): what each returns, at every argument; the world stays as it is.
-/
import Derived.Test.YthebemikhjglbaaWireA
namespace Go.Proofs.Ythebemikhjglbaa
open Go.RowKit

theorem wide_any (n : Int) (w : World) : Calls Try.prog 61 #[.int .i64 n] w fun e w' => e = .returned (.bool (wid n)) ∧ w = w' := by
  by_cases h1 : n = 1
  · subst h1
    go_enter Try.func61, Try.ntmps61
    go_wp2
    go_ret
    exact ⟨rfl, rfl⟩
  by_cases h2 : n = 2
  · subst h2
    go_enter Try.func61, Try.ntmps61
    go_wp2
    go_ret
    exact ⟨rfl, rfl⟩
  by_cases h4 : n = 4
  · subst h4
    go_enter Try.func61, Try.ntmps61
    go_wp2
    go_ret
    exact ⟨rfl, rfl⟩
  by_cases h8 : n = 8
  · subst h8
    go_enter Try.func61, Try.ntmps61
    go_wp2
    go_ret
    exact ⟨rfl, rfl⟩
  have e : wid n = false := by unfold wid; simp [h1, h2, h4, h8]
  have b1 : (n == 1) = false := by simp [h1]
  have b2 : (n == 2) = false := by simp [h2]
  have b4 : (n == 4) = false := by simp [h4]
  have b8 : (n == 8) = false := by simp [h8]
  have E := Lib.hid e
  clear e h1 h2 h4 h8
  go_enter Try.func61, Try.ntmps61
  go_wp2
  go_ret
  exact ⟨ret_bool E.out.symm, rfl⟩

end Go.Proofs.Ythebemikhjglbaa
