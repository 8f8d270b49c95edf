/-
  The contract of the document's own Fits (layer 1).
-/
import Derived.Test.YthebemikhjglbaaRefA
namespace Go.Proofs.Ythebemikhjglbaa
open Go.RowKit

theorem refFits_no (v n : Int) (w : World) (h : wid n = false) :
    Calls Try.prog 47 #[.int .u64 v, .int .i64 n] w fun e w' => e = .returned (.bool (fits v n)) ∧ w = w' := by
  have E := Lib.hid (show fits v n = false by simp [fits, h])
  have H := Lib.hid h
  clear h
  by_cases hn : 0 < n
  · go_enter Try.func47, Try.ntmps47
    go_wp2_with (go_at_call 61; refine (wide_any _ _).mono ?_; rintro e w' ⟨rfl, rfl⟩; rw [H.out])
    go_loop [6] (fun i => i = .int .i64 0) (fun _ => 0)
    case atStart => rfl
    case round =>
      obtain rfl := hrel
      go_wp2
      go_ret
      exact ⟨ret_bool E.out.symm, rfl⟩
  · have hd : decide (0 < n) = false := decide_eq_false hn
    go_enter Try.func47, Try.ntmps47
    go_wp2_with (go_at_call 61; refine (wide_any _ _).mono ?_; rintro e w' ⟨rfl, rfl⟩; rw [H.out])
    go_loop [6] (fun i => i = .int .i64 0) (fun _ => 0)
    case atStart => rfl
    case round =>
      obtain rfl := hrel
      go_wp2
      go_ret
      exact ⟨ret_bool E.out.symm, rfl⟩

theorem refFits_yes (v n : Nat) (w : World) (h : wid n = true) (hv : v < 18446744073709551616) :
    Calls Try.prog 47 #[.int .u64 v, .int .i64 n] w fun e w' => e = .returned (.bool (fits v n)) ∧ w = w' := by
  have hn8 : n ≤ 8 := by have := wid_cases h; omega
  have E := Lib.hid (show fits v n = decide (v / 256 ^ n = 0) by
    simp only [fits, h, Bool.true_and, Int.toNat_natCast]
    rw [Bool.eq_iff_iff, decide_eq_true_iff, decide_eq_true_iff]
    have hp : (0 : Nat) < 256 ^ n := Nat.pow_pos (by omega)
    have e : ((256 : Int) ^ n) = ((256 ^ n : Nat) : Int) := by simp
    rw [e, Nat.div_eq_zero_iff]
    omega)
  have H := Lib.hid h
  clear h
  go_enter Try.func47, Try.ntmps47
  go_wp2_with (go_at_call 61; refine (wide_any _ _).mono ?_; rintro e w' ⟨rfl, rfl⟩; rw [H.out])
  go_loop [0, 6] (fun x i => ∃ k : Nat, k ≤ n ∧ i = .int .i64 k ∧ x = .int .u64 (v / 256 ^ k : Nat)) (fun _ i => n - (intOf i).toNat)
  case atStart => exact ⟨0, Nat.zero_le _, rfl, by simp⟩
  case round =>
    obtain ⟨k, hk, rfl, rfl⟩ := hrel
    have hy : v / 256 ^ k ≤ v := Nat.div_le_self _ _
    obtain ⟨y, hy0⟩ : ∃ y, y = v / 256 ^ k := ⟨_, rfl⟩
    rw [← hy0] at hy ⊢
    have HY := Lib.hid hy0
    clear hy0
    by_cases hlt : k < n
    · go_wp2
      go_round
      case rel => exact ⟨k + 1, by omega, by go_num, by rw [Nat.pow_succ, ← Nat.div_div_eq_div_mul, ← HY.out]; go_num⟩
      case measure => simp [intOf]; omega
    · have HE : Hid (fits v n = ((y : Int) == 0)) := by
        have e : k = n := by omega
        rw [E.out, HY.out, e, Bool.eq_iff_iff]; simp only [decide_eq_true_iff, beq_iff_eq]; exact Int.natCast_eq_zero.symm
      go_wp2
      go_ret
      exact ⟨ret_bool (by rw [HE.out]), rfl⟩

theorem refFits_any (v n : Int) (w : World) (h0 : 0 ≤ v) (h1 : v ≤ 18446744073709551615) :
    Calls Try.prog 47 #[.int .u64 v, .int .i64 n] w fun e w' => e = .returned (.bool (fits v n)) ∧ w = w' := by
  cases h : wid n
  · exact refFits_no v n w h
  · obtain ⟨N, rfl⟩ : ∃ N : Nat, n = N := ⟨n.toNat, by have := wid_cases h; omega⟩
    obtain ⟨V, rfl⟩ : ∃ N : Nat, v = N := ⟨v.toNat, by omega⟩
    exact refFits_yes V N w h (by omega)
end Go.Proofs.Ythebemikhjglbaa
