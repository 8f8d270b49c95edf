/-
  The contracts of slices.stableCmpFunc and slices.SortStableFunc at []int, under Order's comparison: the keys rise, and each place told is one of those handed in.
-/
import Derived.Test.YthdgkhigekogiaaGnMerge
namespace Go.Proofs.Ythdgkhigekogiaa
open Go.RowKit

/-- What a sort tells. -/
def Sorted (g n : Nat) (key f : Nat → Nat) (w : World) (e : Ending) (w' : World) : Prop :=
  e = .returned (.tuple #[]) ∧ ∃ F, Row w' g n F ∧ Mix 0 n f F ∧ Rise key 0 n F ∧ w.grownBy w' (some g)

/-- The first q pieces of z rise. -/
def Upto (key : Nat → Nat) (z q : Nat) (f : Nat → Nat) : Prop := ∀ k, k < q → Rise key (k * z) ((k + 1) * z) f
/-- From piece q on each of z rises, as far as there are n. -/
def From (key : Nat → Nat) (z n q : Nat) (f : Nat → Nat) : Prop := ∀ k, q ≤ k → Rise key (k * z) (min ((k + 1) * z) n) f

theorem Upto.succ {key : Nat → Nat} {z q : Nat} {f g : Nat → Nat} (h : Upto key z q f) (hm : Mix (q * z) ((q + 1) * z) f g) (hr : Rise key (q * z) ((q + 1) * z) g) : Upto key z (q + 1) g := fun k hk => by
  by_cases e : k = q
  · subst e; exact hr
  · exact (h k (by omega)).of_mix hm (.inl (Nat.mul_le_mul_right z (by omega)))
theorem runs_of {key : Nat → Nat} {z n q : Nat} {f g : Nat → Nat} (h : Upto key z q f) (hm : Mix (q * z) n f g) (hr : Rise key (q * z) n g) (hq : n < (q + 1) * z) : Runs key z n g := fun k => by
  rcases Nat.lt_trichotomy k q with e | e | e
  · have h1 : (k + 1) * z ≤ q * z := Nat.mul_le_mul_right z (by omega)
    have h2 := (h k e).of_mix hm (.inl h1)
    intro x y hx hxy hy
    exact h2 x y hx hxy (by omega)
  · subst e
    intro x y hx hxy hy
    exact hr x y hx hxy (by omega)
  · have h1 : (q + 1) * z ≤ k * z := Nat.mul_le_mul_right z (by omega)
    intro x y hx hxy hy
    omega
theorem From.of_mix {key : Nat → Nat} {z n q p : Nat} {f g : Nat → Nat} {a b : Nat} (h : From key z n q f) (hm : Mix a b f g) (hqp : q ≤ p) (hb : b ≤ p * z) : From key z n p g := fun k hk =>
  (h k (by omega)).of_mix hm (.inr (Nat.le_trans hb (Nat.mul_le_mul_right z hk)))
theorem dbl (q z : Nat) : 2 * q * z = q * (2 * z) ∧ (2 * q + 1) * z = q * (2 * z) + z ∧ (2 * q + 2) * z = (q + 1) * (2 * z) ∧ (q + 1) * (2 * z) = q * (2 * z) + 2 * z := by
  have e : 2 * q * z = q * (2 * z) := by rw [Nat.mul_comm 2 q, Nat.mul_assoc]
  refine ⟨e, ?_, ?_, ?_⟩
  · rw [Nat.add_mul, e, Nat.one_mul]
  · rw [Nat.add_mul, e, Nat.add_mul, Nat.one_mul]
  · rw [Nat.add_mul, Nat.one_mul]
theorem From.two {key : Nat → Nat} {z n q : Nat} {f : Nat → Nat} (h : From key z n (2 * q) f) : Rise key (q * (2 * z)) (min (q * (2 * z) + z) n) f ∧ Rise key (q * (2 * z) + z) (min (q * (2 * z) + 2 * z) n) f := by
  obtain ⟨e1, e2, e3, e4⟩ := dbl q z
  have h1 := h (2 * q) (Nat.le_refl _)
  have h2 := h (2 * q + 1) (by omega)
  rw [show 2 * q + 1 + 1 = 2 * q + 2 by omega, e3, e4, e2] at h2
  rw [e1, e2] at h1
  exact ⟨h1, h2⟩

set_option maxHeartbeats 4000000 in
set_option maxRecDepth 100000 in
theorem stable_any (g n c gb N : Nat) (key f : Nat → Nat) (w : World) (hr : Row w g n f) (hcmp : ∀ W, w.grownBy W (some g) → CmpAt gb N key W) (hf : ∀ x, x < n → f x < N) (hn : n ≤ c) (hc : c ≤ maxLen) (hbig : n < 4611686018427387904) :
    Calls Try.prog 28 #[.slice (some ⟨g, 0, none⟩) n c, .int .i64 n, cmpF gb] w (Sorted g n key f w) := by
  have hcm := Lib.hid hc
  have HR := Lib.hid hr
  have HC := Lib.hid hcmp
  have HN := Lib.hid hf
  have HI := Lib.hid (fun a b F W h1 h2 h3 h4 h5 => insertion_any g n c a b gb N key F W h1 h2 h3 h4 h5 hn hc hbig)
  have HJ := Lib.hid (fun s => sym_any g n c gb N key hn hc hbig s)
  unfold maxLen at hc
  clear hr hcmp hf
  unfold cmpF at HI ⊢
  go_enter Try.func28, Try.ntmps28
  go_wp2
  go_loopw [7, 8] (fun a b wr => ∃ (q A B : Nat) (F : Nat → Nat), a = .int .i64 A ∧ b = .int .i64 B ∧ B = A + 20 ∧ A ≤ n ∧ Hid (A = q * 20) ∧ Row wr g n F ∧ Hid (Mix 0 n f F) ∧ Hid (Upto key 20 q F) ∧ w.grownBy wr (some g)) (fun a _ _ => n - (intOf a).toNat)
  case atStart => exact ⟨0, 0, 20, f, rfl, rfl, rfl, Nat.zero_le _, Lib.hid rfl, HR.out, Lib.hid (Mix.refl _ _ _), Lib.hid fun k hk => absurd hk (by omega), grown_refl _ _⟩
  case round =>
    obtain ⟨q, A, B, F, rfl, rfl, hAB, hAn, HA, hrow, HM, HU, hgr⟩ := hrel
    have HW := Lib.hid hrow
    have HG := Lib.hid hgr
    have HAB := Lib.hid hAB
    clear HR hrow hgr
    by_cases hlt : B ≤ n
    · have K := Lib.hid (HI.out A B F wr HW.out (fun W hW => HC.out W (grown_trans HG.out hW)) (HM.out.lt (Nat.le_refl _) HN.out) (by omega) hlt)
      have s1 : IntKind.i64.wrap ((B : Int) + 20) = (B : Int) + 20 := by rw [IntKind.wrap_i64]; omega
      clear hAB
      go_wp2_with (go_at_call 38; refine K.out.mono ?_; rintro e' w' ⟨rfl, g1, hrow, hmix, hrise, hgr⟩)
      go_roundw
      case rel =>
        have e := HA.out
        have hAB := HAB.out
        refine ⟨q + 1, B, B + 20, g1, rfl, by go_num, rfl, hlt, Lib.hid (by omega), hrow, Lib.hid (HM.out.trans (hmix.mono (Nat.zero_le _) hlt)), Lib.hid (HU.out.succ ?_ ?_), grown_trans HG.out hgr⟩
        · rw [show (q + 1) * 20 = B by omega, ← e]; exact hmix
        · rw [show (q + 1) * 20 = B by omega, ← e]; exact hrise
      case measure => have hAB := HAB.out; simp [intOf]; omega
    · have K := Lib.hid (HI.out A n F wr HW.out (fun W hW => HC.out W (grown_trans HG.out hW)) (HM.out.lt (Nat.le_refl _) HN.out) hAn (Nat.le_refl _))
      have hd : decide ((B : Int) ≤ (n : Int)) = false := decide_eq_false (by omega)
      have hd' : decide (B ≤ n) = false := decide_eq_false hlt
      have HB := Lib.hid hlt
      clear hlt hAB
      go_wp2_with (go_at_call 38; refine K.out.mono ?_; rintro e' w' ⟨rfl, g1, hrow, hmix, hrise, hgr⟩)
      have HRun : Hid (Runs key 20 n g1) := by
        have e := HA.out
        have h1 := HB.out
        have hAB := HAB.out
        rw [e] at hmix hrise
        exact Lib.hid (runs_of HU.out hmix hrise (by omega))
      have HM1 : Hid (Mix 0 n f g1) := Lib.hid (HM.out.trans (hmix.mono (Nat.zero_le _) (Nat.le_refl _)))
      have HW1 := Lib.hid hrow
      have HG1 := Lib.hid (grown_trans HG.out hgr)
      clear HM HU HW HG HA HB HAB K HI hd hd' hrow hmix hrise hgr
      go_loopw [6] (fun z wr => ∃ (Z : Nat) (F : Nat → Nat), z = .int .i64 Z ∧ 0 < Z ∧ Row wr g n F ∧ Hid (Mix 0 n f F) ∧ Hid (Runs key Z n F) ∧ w.grownBy wr (some g)) (fun z _ => n - (intOf z).toNat)
      case atStart => exact ⟨20, g1, rfl, by omega, HW1.out, HM1, HRun, HG1.out⟩
      case round =>
        clear HM1 HRun HW1 HG1
        obtain ⟨Z, F0, rfl, hZ, hrow, HM, HRun, hgr⟩ := hrel
        have HW := Lib.hid hrow
        have HG := Lib.hid hgr
        clear hrow hgr
        by_cases hzn : Z < n
        · have s1 : IntKind.i64.wrap (2 * (Z : Int)) = 2 * (Z : Int) := by rw [IntKind.wrap_i64]; omega
          go_wp2
          go_loopw [7, 8] (fun a b wr2 => ∃ (q A B : Nat) (F : Nat → Nat), a = .int .i64 A ∧ b = .int .i64 B ∧ B = A + 2 * Z ∧ A ≤ n ∧ Hid (A = q * (2 * Z)) ∧ Row wr2 g n F ∧ Hid (Mix 0 n f F) ∧ Hid (Upto key (2 * Z) q F) ∧ Hid (From key Z n (2 * q) F) ∧ w.grownBy wr2 (some g)) (fun a _ _ => n - (intOf a).toNat)
          case atStart => exact ⟨0, 0, 2 * Z, F0, rfl, by go_num, by omega, Nat.zero_le _, Lib.hid (by omega), HW.out, HM, Lib.hid fun k hk => absurd hk (by omega), Lib.hid fun k _ => HRun.out k, HG.out⟩
          case round =>
            clear HM HRun HW HG
            obtain ⟨q, A, B, F, rfl, rfl, hAB, hAn, HA, hrow, HM, HU, HF, hgr⟩ := hrel
            have HW := Lib.hid hrow
            have HG := Lib.hid hgr
            have HB := Lib.hid hAB
            have h2 := HF.out.two
            rw [← HA.out] at h2
            clear hrow hgr
            obtain ⟨T, hT⟩ : ∃ T, T = A + Z := ⟨_, rfl⟩
            have s2 : IntKind.i64.wrap ((A : Int) + (Z : Int)) = (T : Int) := by rw [IntKind.wrap_i64]; omega
            by_cases hlt : B ≤ n
            · have K := Lib.hid (HJ.out (B - A) A T B F wr (Nat.le_refl _) HW.out (fun W hW => HC.out W (grown_trans HG.out hW)) (HM.out.lt (Nat.le_refl _) HN.out) (by omega) (by omega) hlt
                (by have := h2.1; rwa [Nat.min_eq_left (by omega), ← hT] at this) (by have := h2.2; rwa [Nat.min_eq_left (by omega), ← hT, ← hAB] at this))
              unfold cmpF at K
              have s3 : IntKind.i64.wrap ((B : Int) + 2 * (Z : Int)) = (B : Int) + 2 * (Z : Int) := by rw [IntKind.wrap_i64]; omega
              clear h2 hT hAB
              go_wp2_with (go_at_call 39; refine K.out.mono ?_; rintro e' w' ⟨rfl, g1, hrow, hmix, hrise, hgr⟩)
              go_roundw
              case rel =>
                have e := HA.out
                have hAB := HB.out
                obtain ⟨d1, d2, d3, d4⟩ := dbl q Z
                refine ⟨q + 1, B, B + 2 * Z, g1, rfl, by go_num, rfl, hlt, Lib.hid (by omega), hrow, Lib.hid (HM.out.trans (hmix.mono (Nat.zero_le _) hlt)), Lib.hid (HU.out.succ ?_ ?_), Lib.hid (HF.out.of_mix hmix (by omega) ?_), grown_trans HG.out hgr⟩
                · rw [show (q + 1) * (2 * Z) = B by omega, ← e]; exact hmix
                · rw [show (q + 1) * (2 * Z) = B by omega, ← e]; exact hrise
                · rw [show 2 * (q + 1) = 2 * q + 2 by omega, d3]; omega
              case measure => have hAB := HB.out; simp [intOf]; omega
            · have hd : decide ((B : Int) ≤ (n : Int)) = false := decide_eq_false (by omega)
              have hd' : decide (B ≤ n) = false := decide_eq_false hlt
              have HL := Lib.hid hlt
              have s3 : IntKind.i64.wrap ((Z : Int) * 2) = (Z : Int) * 2 := by rw [IntKind.wrap_i64]; omega
              by_cases hmn : T < n
              · have K := Lib.hid (HJ.out (n - A) A T n F wr (Nat.le_refl _) HW.out (fun W hW => HC.out W (grown_trans HG.out hW)) (HM.out.lt (Nat.le_refl _) HN.out) (by omega) hmn (Nat.le_refl _)
                  (by have := h2.1; rwa [Nat.min_eq_left (by omega), ← hT] at this) (by have := h2.2; rwa [Nat.min_eq_right (by omega), ← hT] at this))
                unfold cmpF at K
                clear h2 hT hAB hlt
                go_wp2_with (go_at_call 39; refine K.out.mono ?_; rintro e' w' ⟨rfl, g1, hrow, hmix, hrise, hgr⟩)
                go_roundw
                case rel =>
                  have e := HA.out
                  have hAB := HB.out
                  have h1 := HL.out
                  obtain ⟨d1, d2, d3, d4⟩ := dbl q Z
                  rw [e] at hmix hrise
                  refine ⟨2 * Z, g1, by go_num, by omega, hrow, Lib.hid (HM.out.trans (hmix.mono (Nat.zero_le _) (Nat.le_refl _))), Lib.hid (runs_of HU.out hmix hrise (by omega)), grown_trans HG.out hgr⟩
                case measure => simp [intOf]; omega
              · have hr1 : Hid (Rise key A n F) := Lib.hid (by have := h2.1; rwa [Nat.min_eq_right (by omega)] at this)
                have z1 : decide ((T : Int) < (n : Int)) = false := decide_eq_false (by omega)
                have z2 : decide (T < n) = false := decide_eq_false hmn
                clear h2 hT hAB hlt hmn
                go_wp2
                go_roundw
                case rel =>
                  have e := HA.out
                  have hAB := HB.out
                  have h1 := HL.out
                  obtain ⟨d1, d2, d3, d4⟩ := dbl q Z
                  rw [e] at hr1
                  exact ⟨2 * Z, F, by go_num, by omega, HW.out, HM, Lib.hid (runs_of HU.out (Mix.refl _ _ _) hr1.out (by omega)), HG.out⟩
                case measure => simp [intOf]; omega
        · have hd : decide ((Z : Int) < (n : Int)) = false := decide_eq_false (by omega)
          have hd' : decide (Z < n) = false := decide_eq_false hzn
          have HX : Hid (Rise key 0 n F0) := Lib.hid (runs_all HRun.out (by omega))
          clear hzn
          go_wp2
          go_end0
          exact ⟨rfl, F0, HW.out, HM.out, HX.out, HG.out⟩

theorem sortStable_any (g n c gb N : Nat) (key f : Nat → Nat) (w : World) (hr : Row w g n f) (hcmp : ∀ W, w.grownBy W (some g) → CmpAt gb N key W) (hf : ∀ x, x < n → f x < N) (hn : n ≤ c) (hc : c ≤ maxLen) (hbig : n < 4611686018427387904) :
    Calls Try.prog 13 #[.slice (some ⟨g, 0, none⟩) n c, cmpF gb] w (Sorted g n key f w) := by
  have K := Lib.hid (stable_any g n c gb N key f w hr hcmp hf hn hc hbig)
  clear hr hcmp hf
  unfold maxLen at hc
  unfold cmpF at K ⊢
  go_enter Try.func13, Try.ntmps13
  go_wp2_with (go_at_call 28; refine K.out.mono ?_; rintro e' w' ⟨rfl, hh⟩)
  go_end0
  exact ⟨rfl, hh⟩
end Go.Proofs.Ythdgkhigekogiaa
