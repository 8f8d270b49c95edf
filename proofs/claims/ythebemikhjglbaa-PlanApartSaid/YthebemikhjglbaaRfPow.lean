/-
  The contracts of the document's own power and next.
-/
import Derived.Test.YthebemikhjglbaaPlWalk
import Derived.Test.YthebemikhjglbaaPlPre
import Derived.WalkKit
namespace Go.Proofs.Ythebemikhjglbaa
open Go.RowKit

/-- Halved as long as it is even and not 1: 0 and powers of two come down to 1 or less. -/
theorem ones_half {x : Nat} (h : x % 2 = 0) (hx : x < 18446744073709551616) : ones (x / 2) = ones x := by
  have e1 := onesF_add 1 63 x
  have e2 : ones x = onesF 1 x + onesF 63 (x / 2) := e1
  have e3 := onesF_add 63 1 (x / 2)
  have e4 : ones (x / 2) = onesF 63 (x / 2) + onesF 1 (x / 2 / 2 ^ 63) := e3
  rw [Nat.div_div_eq_div_mul] at e4
  have e5 : x / (2 * 2 ^ 63) = 0 := by
    rw [show (2 : Nat) * 2 ^ 63 = 18446744073709551616 by decide]
    omega
  rw [e5, onesF_zero] at e4
  have e6 : onesF 1 x = 0 := by simp [onesF, h]
  omega
theorem ones_end {x : Nat} (hx : x < 18446744073709551616) (h : ¬ (1 < x ∧ x % 2 = 0)) : (ones x ≤ 1 ↔ x ≤ 1) := by
  constructor
  · intro h1
    rcases Nat.lt_or_ge 1 x with h2 | h2
    · exact absurd ⟨h2, ones_even hx h1 h2⟩ h
    · exact h2
  · intro h1
    rw [ones_one x hx]
    rcases Nat.lt_or_ge 0 x with h2 | h2
    · exact .inr ⟨0, by omega⟩
    · exact .inl (by omega)

set_option maxHeartbeats 400000 in
theorem rPower_any (v : Nat) (w : World) (hv : v < 18446744073709551616) :
    Calls Try.prog 49 #[.int .u64 (v : Int)] w fun e w' => e = .returned (.bool (decide (ones v ≤ 1))) ∧ w = w' := by
  go_enter Try.func49, Try.ntmps49
  go_wp2_with fail
  go_loop [0] (fun i => ∃ x : Nat, i = .int .u64 (x : Int) ∧ x < 18446744073709551616 ∧ Hid (ones x = ones v)) (fun i => (intOf i).toNat)
  case atStart => exact ⟨v, rfl, hv, Lib.hid rfl⟩
  case round =>
    obtain ⟨x, rfl, hx, HX⟩ := hrel
    by_cases h1 : 1 < x
    · have d1 : decide ((1 : Int) < (x : Int)) = true := decide_eq_true (by omega)
      have d1' : decide (1 < x) = true := decide_eq_true h1
      by_cases h2 : x % 2 = 0
      · have HH : Hid (ones (x / 2) = ones v) := Lib.hid ((ones_half h2 hx).trans HX.out)
        have d2 : (Int.tmod (x : Int) 2 == 0) = true := by
          rw [show Int.tmod (x : Int) 2 = ((x % 2 : Nat) : Int) from rfl, h2]; rfl
        have d3 : Int.tdiv (x : Int) 2 = ((x / 2 : Nat) : Int) := rfl
        have d4 : ((x : Int) % 2 == 0) = true := by simp; omega
        have d5 : (x : Int) / 2 = ((x / 2 : Nat) : Int) := rfl
        have HQ := Lib.hid (show x / 2 < x ∧ x / 2 < 18446744073709551616 by omega)
        generalize x / 2 = y at d3 d5 HH HQ
        clear h2
        go_wp2
        go_round
        case rel => exact ⟨y, by go_num, HQ.out.2, HH⟩
        case measure => have := HQ.out.1; simp [intOf]; omega
      · have E := Lib.hid (show decide (ones v ≤ 1) = decide (x ≤ 1) by rw [← HX.out]; exact decide_eq_decide.2 (ones_end hx (by omega)))
        have d2 : (Int.tmod (x : Int) 2 == 0) = false := by
          rw [show Int.tmod (x : Int) 2 = ((x % 2 : Nat) : Int) from rfl]
          simp
          omega
        have d4 : ((x : Int) % 2 == 0) = false := by simp; omega
        have d5 : decide ((x : Int) ≤ 1) = false := decide_eq_false (by omega)
        have d6 : decide (x ≤ 1) = false := decide_eq_false (by omega)
        rw [d6] at E
        clear h1 h2 hx
        go_wp2
        go_ret
        exact ⟨ret_bool E.out.symm, rfl⟩
    · have E := Lib.hid (show decide (ones v ≤ 1) = decide (x ≤ 1) by rw [← HX.out]; exact decide_eq_decide.2 (ones_end hx (by omega)))
      have d1 : decide ((1 : Int) < (x : Int)) = false := decide_eq_false (by omega)
      have d1' : decide (1 < x) = false := decide_eq_false h1
      have d5 : decide ((x : Int) ≤ 1) = true := decide_eq_true (by omega)
      have d6 : decide (x ≤ 1) = true := decide_eq_true (by omega)
      rw [d6] at E
      clear h1 hx
      go_wp2
      go_ret
      exact ⟨ret_bool E.out.symm, rfl⟩

/-- What the document's own next tells: the next place, as long as it is in the file; else one that is beyond. -/
def NextR (at_ v a : Nat) (r : Nat) : Prop := (nxt at_ v a ≤ 65536 → r = nxt at_ v a) ∧ (65536 < nxt at_ v a → 65536 < r) ∧ r ≤ 9223372036854775808
theorem max_pow {a : Nat} (ha : a < 18446744073709551616) (h1 : ones a ≤ 1) (h : 1 < a) : max a 1 = a ∧ a ≤ 9223372036854775808 := by
  obtain ⟨k, hk, hM⟩ := pow_of ha h1
  refine ⟨by omega, ?_⟩
  have := Nat.pow_le_pow_right (show 0 < 2 by decide) (show k ≤ 63 by omega)
  rw [← hM] at this
  rw [show (2 : Nat) ^ 63 = 9223372036854775808 by decide] at this
  omega

set_option maxHeartbeats 400000 in
theorem rNext_any (at_ v a : Nat) (w : World) (hat : at_ < 18446744073709551616) (ha : a < 18446744073709551616) (h1 : ones a ≤ 1) :
    Calls Try.prog 17 #[.int .u64 (at_ : Int), .int .u64 (v : Int), .int .u64 (a : Int)] w fun e w' => (∃ r : Nat, e = .returned (.int .u64 (r : Int)) ∧ NextR at_ v a r) ∧ w = w' := by
  have hge := nxt_ge at_ v a
  by_cases c1 : 65536 < at_
  · have E : Hid (NextR at_ v a 100000) := Lib.hid ⟨by omega, by omega, by omega⟩
    clear hge h1
    go_enter Try.func17, Try.ntmps17
    go_wp2
    go_ret
    exact ⟨⟨100000, rfl, E.out⟩, rfl⟩
  have d1 : decide (65536 < at_) = false := decide_eq_false c1
  have d1' : decide ((65536 : Int) < (at_ : Int)) = false := decide_eq_false (by omega)
  by_cases c2 : a ≤ 1
  · have E : Hid (NextR at_ v a at_) := Lib.hid (by
      rw [NextR, nxt_one _ _ _ c2]
      exact ⟨fun _ => rfl, by omega, by omega⟩)
    have d2 : decide (a ≤ 1) = true := decide_eq_true c2
    clear hge h1 c1
    go_enter Try.func17, Try.ntmps17
    go_wp2
    go_ret
    exact ⟨⟨at_, rfl, E.out⟩, rfl⟩
  have d2 : decide (a ≤ 1) = false := decide_eq_false c2
  have d2' : decide ((a : Int) ≤ 1) = false := decide_eq_false (by omega)
  obtain ⟨m1, m2⟩ := max_pow ha h1 (by omega)
  have hmod := nxt_mod (v := v) (show at_ ≤ 65537 by omega) ha h1
  have hlt := nxt_lt at_ v a
  have hfst := fun x => nxt_first (v := v) (x := x) (show at_ ≤ 65537 by omega) ha h1
  rw [m1] at hmod hlt
  simp only [m1] at hfst
  have hwl : v % a < a := Nat.mod_lt _ (by omega)
  have t1 : Int.tmod (v : Int) (a : Int) = ((v % a : Nat) : Int) := rfl
  have t2 : (v : Int) % (a : Int) = ((v % a : Nat) : Int) := rfl
  have hz : ((a : Int) == 0) = false := by simp; omega
  have hz' : ¬ ((a : Int) = 0) := by omega
  have hzn : ¬ (a = 0) := by omega
  have hnm : (v % a) % a = v % a := Nat.mod_mod _ _
  obtain ⟨W, hW⟩ : ∃ W, v % a = W := ⟨_, rfl⟩
  rw [hW] at hmod hwl t1 t2 hnm
  simp only [hW] at hfst
  clear hW
  by_cases c3 : 65536 < a
  · have d3 : decide (65536 < a) = true := decide_eq_true c3
    have d3' : decide ((65536 : Int) < (a : Int)) = true := decide_eq_true (by omega)
    by_cases c4 : W < at_
    · have E : Hid (NextR at_ v a 100000) := by
        refine Lib.hid ⟨fun h => ?_, by omega, by omega⟩
        exfalso
        rw [Nat.mod_eq_of_lt (by omega)] at hmod
        omega
      have d4 : decide (W < at_) = true := decide_eq_true c4
      have d4' : decide ((W : Int) < (at_ : Int)) = true := decide_eq_true (by omega)
      clear hge h1 c1 c2 c3 c4 m1 m2 hmod hlt hfst hwl hnm
      go_enter Try.func17, Try.ntmps17
      go_wp2
      go_ret
      exact ⟨⟨100000, rfl, E.out⟩, rfl⟩
    · have E : Hid (NextR at_ v a W) := by
        have h3 := hfst W (by omega) hnm
        have h4 : nxt at_ v a = W := by
          rcases Nat.lt_or_ge (nxt at_ v a) W with h5 | h5
          · rw [Nat.mod_eq_of_lt (by omega)] at hmod
            exact hmod
          · omega
        exact Lib.hid ⟨fun _ => h4.symm, by omega, by omega⟩
      have d4 : decide (W < at_) = false := decide_eq_false c4
      have d4' : decide ((W : Int) < (at_ : Int)) = false := decide_eq_false (by omega)
      clear hge h1 c1 c2 c3 c4 m1 m2 hmod hlt hfst hwl hnm
      go_enter Try.func17, Try.ntmps17
      go_wp2
      go_ret
      exact ⟨⟨W, rfl, E.out⟩, rfl⟩
  · have d3 : decide (65536 < a) = false := decide_eq_false c3
    have d3' : decide ((65536 : Int) < (a : Int)) = false := decide_eq_false (by omega)
    have HN : Hid (NextR at_ v a (nxt at_ v a)) := Lib.hid ⟨fun _ => rfl, fun h => h, by omega⟩
    have HM := Lib.hid hmod
    have HF := Lib.hid hfst
    have HB : Hid (nxt at_ v a < 200000) := Lib.hid (by omega)
    have HA := Lib.hid hge
    clear h1 c1 c2 c3 m1 m2 hmod hlt hfst hwl hnm hge
    go_enter Try.func17, Try.ntmps17
    go_wp2_with fail
    clear t1 t2
    go_loop [0] (fun i => ∃ x : Nat, i = .int .u64 (x : Int) ∧ at_ ≤ x ∧ x ≤ nxt at_ v a) (fun i => nxt at_ v a - (intOf i).toNat)
    case atStart => exact ⟨at_, rfl, Nat.le_refl _, HA.out⟩
    case round =>
      obtain ⟨x, rfl, hx1, hx2⟩ := hrel
      have t1 : Int.tmod (x : Int) (a : Int) = ((x % a : Nat) : Int) := rfl
      have t2 : (x : Int) % (a : Int) = ((x % a : Nat) : Int) := rfl
      have hxb := Lib.hid (show x < 200000 from Nat.lt_of_le_of_lt hx2 HB.out)
      obtain ⟨R, hR⟩ : ∃ R, x % a = R := ⟨_, rfl⟩
      rw [hR] at t1 t2
      by_cases hw : R = W
      · have HE : Hid (x = nxt at_ v a) := Lib.hid (Nat.le_antisymm hx2 (HF.out x hx1 (by rw [hR, hw])))
        have d5 : ((R : Int) != (W : Int)) = false := by simp [hw]
        clear hw hR hx1 hx2
        go_wp2
        go_ret
        exact ⟨⟨x, rfl, by rw [HE.out]; exact HN.out⟩, rfl⟩
      · have HL : Hid (x < nxt at_ v a) := by
          refine Lib.hid (Nat.lt_of_le_of_ne hx2 fun e => hw ?_)
          have := HM.out
          rw [← e, hR] at this
          exact this
        have d5 : ((R : Int) != (W : Int)) = true := by simp; omega
        have d6 : IntKind.u64.wrap ((x : Int) + 1) = (x : Int) + 1 := by have := hxb.out; rw [IntKind.wrap_u64]; omega
        clear hw hR hx2
        go_wp2
        go_round
        case rel => exact ⟨x + 1, by go_num, by omega, HL.out⟩
        case measure => have := HL.out; simp [intOf]; omega
end Go.Proofs.Ythebemikhjglbaa
