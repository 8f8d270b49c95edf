/-
  Several texts in one: How many ones a number of 64 bits has, as math/bits; Names in a table, as plain lists of bytes; A slice of strings that reads as a list of names; Plain mathematics of layer 1; Plain mathematics of rows; Slices of numbers.
-/
import Derived.Lib.Bytealg
import Derived.Test.YtfglppjilcaafaaGreatDoorTbH1
import Derived.WalkKit
import Derived.Lib.Hide
import Derived.Laws.Strings
import Derived.Maps.AppendAt
namespace Go.Proofs.YtfglppjilcaafaaGreatDoor
def onesF : Nat → Nat → Nat
 | 0, _ => 0
 | f + 1, x => x % 2 + onesF f (x / 2)
def ones (x : Nat) : Nat := onesF 64 x
theorem and_split (k a m s : Nat) (hs : s < 2 ^ k) : a &&& (2 ^ k * m + s) = 2 ^ k * ((a / 2 ^ k) &&& m) + ((a % 2 ^ k) &&& s) := by
 have h1 : (a % 2 ^ k) &&& s < 2 ^ k := Nat.and_lt_two_pow _ hs
 have h2 : a % 2 ^ k < 2 ^ k := Nat.mod_lt _ (Nat.two_pow_pos k)
 apply Nat.eq_of_testBit_eq
 intro i
 rw [Nat.testBit_and, Nat.testBit_two_pow_mul_add _ hs, Nat.testBit_two_pow_mul_add _ h1]
 by_cases h : i < k
 ·rw [if_pos h, if_pos h, Nat.testBit_and, Nat.testBit_mod_two_pow]
  simp [h]
 ·rw [if_neg h, if_neg h, Nat.testBit_and, Nat.testBit_div_two_pow]
  have : i - k + k = i := by omega
  rw [this]
def mask (m : Nat) : Nat → Nat
 | 0 => 0
 | n + 1 => 256 * mask m n + m
def bytesF (f : Nat → Nat) : Nat → Nat → Nat
 | 0, _ => 0
 | n + 1, x => 256 * bytesF f n (x / 256) + f (x % 256)
def s1 (r : Nat) : Nat := ((r / 2) &&& 85) + (r &&& 85)
def s2 (r : Nat) : Nat := ((r / 4) &&& 51) + (r &&& 51)
theorem s1_lt : ∀ r : Fin 256, s1 r.val ≤ 170 := by decide +kernel
theorem s2_le : ∀ r : Fin 256, s2 (s1 r.val) % 16 ≤ 4 ∧ s2 (s1 r.val) / 16 ≤ 4 := by decide +kernel
theorem s3_eq : ∀ r : Fin 256, s2 (s1 r.val) % 16 + s2 (s1 r.val) / 16 = onesF 8 r.val := by decide +kernel
theorem s1_and (x : Nat) : ((x / 2) % 256) &&& 85 = ((x % 256) / 2) &&& 85 := by
 have h : ∀ r : Fin 512, ((r.val / 2) % 256) &&& 85 = ((r.val % 256) / 2) &&& 85 := by decide +kernel
 have := h ⟨x % 512, Nat.mod_lt _ (by decide)⟩
 simp only at this
 have e1 : x % 512 / 2 % 256 = x / 2 % 256 := by omega
 have e2 : x % 512 % 256 = x % 256 := by omega
 rw [e1, e2] at this
 exact this
theorem s2_and (x : Nat) : ((x / 4) % 256) &&& 51 = ((x % 256) / 4) &&& 51 := by
 have h : ∀ r : Fin 1024, ((r.val / 4) % 256) &&& 51 = ((r.val % 256) / 4) &&& 51 := by decide +kernel
 have := h ⟨x % 1024, Nat.mod_lt _ (by decide)⟩
 simp only at this
 have e1 : x % 1024 / 4 % 256 = x / 4 % 256 := by omega
 have e2 : x % 1024 % 256 = x % 256 := by omega
 rw [e1, e2] at this
 exact this
theorem step1 : ∀ n x, ((x / 2) &&& mask 85 n) + (x &&& mask 85 n) = bytesF s1 n x
 | 0, x => by simp [mask, bytesF]
 | n + 1, x => by
  have ih := step1 n (x / 256)
  have a1 := and_split 8 (x / 2) (mask 85 n) 85 (by decide)
  have a2 := and_split 8 x (mask 85 n) 85 (by decide)
  have e : x / 2 / 2 ^ 8 = x / 256 / 2 := by omega
  rw [e] at a1
  have e2 := s1_and x
  rw [show (2 : Nat) ^ 8 = 256 from rfl] at a1 a2
  rw [mask, bytesF, a1, a2, ← ih, s1, e2]
  omega
theorem step2 : ∀ n x, ((x / 4) &&& mask 51 n) + (x &&& mask 51 n) = bytesF s2 n x
 | 0, x => by simp [mask, bytesF]
 | n + 1, x => by
  have ih := step2 n (x / 256)
  have a1 := and_split 8 (x / 4) (mask 51 n) 51 (by decide)
  have a2 := and_split 8 x (mask 51 n) 51 (by decide)
  have e : x / 4 / 2 ^ 8 = x / 256 / 4 := by omega
  rw [e] at a1
  have e2 := s2_and x
  rw [show (2 : Nat) ^ 8 = 256 from rfl] at a1 a2
  rw [mask, bytesF, a1, a2, ← ih, s2, e2]
  omega
theorem bytesF_div (f : Nat → Nat) (hf : ∀ r, r < 256 → f r < 256) (n x : Nat) : bytesF f (n + 1) x / 256 = bytesF f n (x / 256) ∧ bytesF f (n + 1) x % 256 = f (x % 256) := by
 have := hf (x % 256) (Nat.mod_lt _ (by decide))
 rw [bytesF]
 omega
theorem bytesF_comp (f g : Nat → Nat) (hf : ∀ r, r < 256 → f r < 256) : ∀ n x, bytesF g n (bytesF f n x) = bytesF (fun r => g (f r)) n x
 | 0, x => rfl
 | n + 1, x => by
  obtain ⟨h1, h2⟩ := bytesF_div f hf n x
  have ih := bytesF_comp f g hf n (x / 256)
  show 256 * bytesF g n (bytesF f (n + 1) x / 256) + g (bytesF f (n + 1) x % 256) = 256 * bytesF (fun r => g (f r)) n (x / 256) + g (f (x % 256))
  rw [h1, h2, ih]
def s21 (r : Nat) : Nat := s2 (s1 r)
theorem s1_lt' (r : Nat) (h : r < 256) : s1 r < 256 := by have := s1_lt ⟨r, h⟩; simp only at this; omega
theorem s21_le (r : Nat) (h : r < 256) : s21 r % 16 ≤ 4 ∧ s21 r / 16 ≤ 4 := s2_le ⟨r, h⟩
theorem s21_eq (r : Nat) (h : r < 256) : s21 r % 16 + s21 r / 16 = onesF 8 r := s3_eq ⟨r, h⟩
theorem fifteen (y : Nat) : y &&& 15 = y % 16 := Nat.and_two_pow_sub_one_eq_mod y 4
theorem step3 : ∀ n x, (bytesF s21 n x / 16 + bytesF s21 n x) &&& mask 15 n = bytesF (fun r => onesF 8 r) n x
 | 0, x => by simp [mask, bytesF]
 | n + 1, x => by
  have ih := step3 n (x / 256)
  have hr : x % 256 < 256 := Nat.mod_lt _ (by decide)
  have hr2 : x / 256 % 256 < 256 := Nat.mod_lt _ (by decide)
  obtain ⟨l1, l2⟩ := s21_le _ hr
  have e1 := s21_eq _ hr
  obtain ⟨l3, -⟩ := s21_le _ hr2
  have hy : bytesF s21 n (x / 256) % 16 ≤ 4 := by
   cases n with
   | zero => simp [bytesF]
   | succ m => rw [bytesF]; omega
  have a1 := and_split 8 (bytesF s21 (n + 1) x / 16 + bytesF s21 (n + 1) x) (mask 15 n) 15 (by decide)
  rw [show (2 : Nat) ^ 8 = 256 from rfl] at a1
  have b1 : bytesF s21 (n + 1) x = 256 * bytesF s21 n (x / 256) + s21 (x % 256) := rfl
  have b2 : bytesF (fun r => onesF 8 r) (n + 1) x = 256 * bytesF (fun r => onesF 8 r) n (x / 256) + onesF 8 (x % 256) := rfl
  rw [mask, b2, a1]
  have e2 : (bytesF s21 (n + 1) x / 16 + bytesF s21 (n + 1) x) / 256 = bytesF s21 n (x / 256) / 16 + bytesF s21 n (x / 256) := by omega
  rw [e2, ih, fifteen]
  congr 1
  omega
theorem onesF_le : ∀ f x, onesF f x ≤ f
 | 0, _ => Nat.le_refl _
 | f + 1, x => by have := onesF_le f (x / 2); rw [onesF]; omega
theorem onesF_add : ∀ f g x, onesF (f + g) x = onesF f x + onesF g (x / 2 ^ f)
 | 0, g, x => by simp [onesF]
 | f + 1, g, x => by
  have := onesF_add f g (x / 2)
  rw [show f + 1 + g = f + g + 1 by omega, onesF, this, onesF, Nat.div_div_eq_div_mul, Nat.pow_succ, Nat.mul_comm 2 (2 ^ f)]
  omega
theorem onesF_mod : ∀ f x, onesF f (x % 2 ^ f) = onesF f x
 | 0, _ => rfl
 | f + 1, x => by
  have ih := onesF_mod f (x / 2)
  have e1 : x % 2 ^ (f + 1) % 2 = x % 2 := Nat.mod_mod_of_dvd _ ⟨2 ^ f, by rw [Nat.pow_succ, Nat.mul_comm]⟩
  have e2 : x % 2 ^ (f + 1) / 2 = x / 2 % 2 ^ f := by rw [Nat.pow_succ, Nat.mul_comm, Nat.mod_mul_right_div_self]
  rw [onesF, onesF, e1, e2, ih]
theorem bytesF_bit (x : Nat) : ∃ c0 c1 c2 c3 c4 c5 c6 c7 : Nat, c0 ≤ 8 ∧ c1 ≤ 8 ∧ c2 ≤ 8 ∧ c3 ≤ 8 ∧ c4 ≤ 8 ∧ c5 ≤ 8 ∧ c6 ≤ 8 ∧ c7 ≤ 8 ∧
  bytesF (fun r => onesF 8 r) 8 x = c0 + 256 * c1 + 65536 * c2 + 16777216 * c3 + 4294967296 * c4 + 1099511627776 * c5 + 281474976710656 * c6 + 72057594037927936 * c7 ∧ ones x = c0 + c1 + c2 + c3 + c4 + c5 + c6 + c7 := by
 have e : ∀ y, onesF 8 (y % 256) = onesF 8 y := onesF_mod 8
 have s : ∀ g y, onesF (8 + g) y = onesF 8 y + onesF g (y / 256) := fun g y => onesF_add 8 g y
 refine ⟨onesF 8 x, onesF 8 (x / 256), onesF 8 (x / 256 / 256), onesF 8 (x / 256 / 256 / 256), onesF 8 (x / 256 / 256 / 256 / 256), onesF 8 (x / 256 / 256 / 256 / 256 / 256), onesF 8 (x / 256 / 256 / 256 / 256 / 256 / 256), onesF 8 (x / 256 / 256 / 256 / 256 / 256 / 256 / 256),
  onesF_le _ _, onesF_le _ _, onesF_le _ _, onesF_le _ _, onesF_le _ _, onesF_le _ _, onesF_le _ _, onesF_le _ _, ?_, ?_⟩
 ·simp only [bytesF, e]
  omega
 ·unfold ones
  rw [show (64 : Nat) = 8 + (8 + (8 + (8 + (8 + (8 + (8 + (8 + 0))))))) from rfl]
  rw [s, s, s, s, s, s, s, s]
  simp only [onesF]
  omega
theorem div_of (q r k n : Nat) (h : n = r + k * q) (hr : r < k) : n / k = q := by
 subst h
 rw [Nat.add_mul_div_left _ _ (by omega), Nat.div_eq_of_lt hr, Nat.zero_add]
theorem fold8 (c0 c1 c2 c3 c4 c5 c6 c7 : Nat) (k0 : c0 ≤ 8) (k1 : c1 ≤ 8) (k2 : c2 ≤ 8) (k3 : c3 ≤ 8) (k4 : c4 ≤ 8) (k5 : c5 ≤ 8) (k6 : c6 ≤ 8) (k7 : c7 ≤ 8) :
  ∃ d e f : Nat, (c0 + 256 * c1 + 65536 * c2 + 16777216 * c3 + 4294967296 * c4 + 1099511627776 * c5 + 281474976710656 * c6 + 72057594037927936 * c7) + (c0 + 256 * c1 + 65536 * c2 + 16777216 * c3 + 4294967296 * c4 + 1099511627776 * c5 + 281474976710656 * c6 + 72057594037927936 * c7) / 256 = d ∧ d + d / 65536 = e ∧ e + e / 4294967296 = f ∧ f % 128 = c0 + c1 + c2 + c3 + c4 + c5 + c6 + c7 ∧ d < 2305843009213693952 ∧ e < 2305843009213693952 ∧ f < 2305843009213693952 := by
 refine ⟨(c0 + c1) + 256 * (c1 + c2) + 65536 * (c2 + c3) + 16777216 * (c3 + c4) + 4294967296 * (c4 + c5) + 1099511627776 * (c5 + c6) + 281474976710656 * (c6 + c7) + 72057594037927936 * c7, (c0 + c1 + c2 + c3) + 256 * (c1 + c2 + c3 + c4) + 65536 * (c2 + c3 + c4 + c5) + 16777216 * (c3 + c4 + c5 + c6) + 4294967296 * (c4 + c5 + c6 + c7) + 1099511627776 * (c5 + c6 + c7) + 281474976710656 * (c6 + c7) + 72057594037927936 * c7, (c0 + c1 + c2 + c3 + c4 + c5 + c6 + c7) + 128 * (2 * ((c1 + c2 + c3 + c4 + c5 + c6 + c7) + 256 * (c2 + c3 + c4 + c5 + c6 + c7) + 65536 * (c3 + c4 + c5 + c6 + c7) + 16777216 * (c4 + c5 + c6 + c7) + 4294967296 * (c5 + c6 + c7) + 1099511627776 * (c6 + c7) + 281474976710656 * c7)), ?_, ?_, ?_, ?_, ?_, ?_, ?_⟩
 ·have q : (c0 + 256 * c1 + 65536 * c2 + 16777216 * c3 + 4294967296 * c4 + 1099511627776 * c5 + 281474976710656 * c6 + 72057594037927936 * c7) / 256 = c1 + 256 * c2 + 65536 * c3 + 16777216 * c4 + 4294967296 * c5 + 1099511627776 * c6 + 281474976710656 * c7 := div_of _ c0 _ _ (by omega) (by omega)
  rw [q]
  clear q
  omega
 ·have q : ((c0 + c1) + 256 * (c1 + c2) + 65536 * (c2 + c3) + 16777216 * (c3 + c4) + 4294967296 * (c4 + c5) + 1099511627776 * (c5 + c6) + 281474976710656 * (c6 + c7) + 72057594037927936 * c7) / 65536 = (c2 + c3) + 256 * (c3 + c4) + 65536 * (c4 + c5) + 16777216 * (c5 + c6) + 4294967296 * (c6 + c7) + 1099511627776 * c7 := div_of _ ((c0 + c1) + 256 * (c1 + c2)) _ _ (by omega) (by omega)
  rw [q]
  clear q
  omega
 ·have q : ((c0 + c1 + c2 + c3) + 256 * (c1 + c2 + c3 + c4) + 65536 * (c2 + c3 + c4 + c5) + 16777216 * (c3 + c4 + c5 + c6) + 4294967296 * (c4 + c5 + c6 + c7) + 1099511627776 * (c5 + c6 + c7) + 281474976710656 * (c6 + c7) + 72057594037927936 * c7) / 4294967296 = (c4 + c5 + c6 + c7) + 256 * (c5 + c6 + c7) + 65536 * (c6 + c7) + 16777216 * c7 := div_of _ ((c0 + c1 + c2 + c3) + 256 * (c1 + c2 + c3 + c4) + 65536 * (c2 + c3 + c4 + c5) + 16777216 * (c3 + c4 + c5 + c6)) _ _ (by omega) (by omega)
  rw [q]
  clear q
  omega
 ·rw [Nat.add_mul_mod_self_left, Nat.mod_eq_of_lt (by omega)]
 all_goals omega
theorem ones_steps (x a b c : Nat) (ha : ((x / 2) &&& 6148914691236517205) + (x &&& 6148914691236517205) = a) (hb : ((a / 4) &&& 3689348814741910323) + (a &&& 3689348814741910323) = b) (hc : (b / 16 + b) &&& 1085102592571150095 = c) :
  ∃ d e f : Nat, c + c / 256 = d ∧ d + d / 65536 = e ∧ e + e / 4294967296 = f ∧ f % 128 = ones x ∧ c < 2305843009213693952 ∧ d < 2305843009213693952 ∧ e < 2305843009213693952 ∧ f < 2305843009213693952 ∧ b < 9223372036854775808 ∧ a < 13835058055282163712 := by
 have la : a < 13835058055282163712 := by
  have u : (x / 2) &&& 6148914691236517205 ≤ 6148914691236517205 := Nat.and_le_right
  have v : x &&& 6148914691236517205 ≤ 6148914691236517205 := Nat.and_le_right
  omega
 have lb : b < 9223372036854775808 := by
  have u : (a / 4) &&& 3689348814741910323 ≤ 3689348814741910323 := Nat.and_le_right
  have v : a &&& 3689348814741910323 ≤ 3689348814741910323 := Nat.and_le_right
  omega
 have lc : c < 2305843009213693952 := by
  have u : (b / 16 + b) &&& 1085102592571150095 ≤ 1085102592571150095 := Nat.and_le_right
  omega
 have m1 : mask 85 8 = 6148914691236517205 := by decide
 have m2 : mask 51 8 = 3689348814741910323 := by decide
 have m3 : mask 15 8 = 1085102592571150095 := by decide
 have h1 := step1 8 x
 rw [m1, ha] at h1
 have h2 := step2 8 a
 rw [m2, hb, h1, bytesF_comp s1 s2 s1_lt'] at h2
 have h3 := step3 8 x
 rw [m3] at h3
 have h2' : b = bytesF s21 8 x := h2
 rw [← h2', hc] at h3
 obtain ⟨c0, c1, c2, c3, c4, c5, c6, c7, k0, k1, k2, k3, k4, k5, k6, k7, hC, hO⟩ := bytesF_bit x
 rw [hC] at h3
 obtain ⟨d, e, f, hd, he, hf, hm, ld, le, lf⟩ := fold8 c0 c1 c2 c3 c4 c5 c6 c7 k0 k1 k2 k3 k4 k5 k6 k7
 rw [← h3] at hd
 exact ⟨d, e, f, hd, he, hf, hm.trans hO.symm, lc, ld, le, lf, lb, la⟩
theorem onesF_zero : ∀ f, onesF f 0 = 0
 | 0 => rfl
 | f + 1 => by rw [onesF, onesF_zero f]
theorem onesF_pos : ∀ f x, 0 < x → x < 2 ^ f → 0 < onesF f x
 | 0, x, h0, h => by simp at h; omega
 | f + 1, x, h0, h => by
  rw [onesF]
  by_cases e : x % 2 = 0
  ·have := onesF_pos f (x / 2) (by omega) (by rw [Nat.pow_succ] at h; omega)
   omega
  ·omega
theorem onesF_one : ∀ f x, x < 2 ^ f → (onesF f x ≤ 1 ↔ x = 0 ∨ ∃ k, x = 2 ^ k)
 | 0, x, h => by simp at h; subst h; simp [onesF]
 | f + 1, x, h => by
  have hx : x / 2 < 2 ^ f := by rw [Nat.pow_succ] at h; omega
  have ih := onesF_one f (x / 2) hx
  rw [onesF]
  by_cases e : x % 2 = 0
  ·rw [e, Nat.zero_add, ih]
   constructor
   ·rintro (h0 | ⟨k, hk⟩)
    ·exact .inl (by omega)
    ·exact .inr ⟨k + 1, by rw [Nat.pow_succ]; omega⟩
   ·rintro (h0 | ⟨k, hk⟩)
    ·exact .inl (by omega)
    ·cases k with
     | zero => rw [Nat.pow_zero] at hk; omega
     | succ k => exact .inr ⟨k, by rw [Nat.pow_succ] at hk; omega⟩
  ·have e1 : x % 2 = 1 := by omega
   rw [e1]
   constructor
   ·intro hle
    by_cases h0 : x / 2 = 0
    ·exact .inr ⟨0, by rw [Nat.pow_zero]; omega⟩
    ·have := onesF_pos f (x / 2) (by omega) hx
     omega
   ·rintro (h0 | ⟨k, hk⟩)
    ·omega
    ·cases k with
     | zero =>
      rw [Nat.pow_zero] at hk
      have : x / 2 = 0 := by omega
      rw [this, onesF_zero]
      omega
     | succ k => rw [Nat.pow_succ] at hk; omega
theorem ones_one (x : Nat) (h : x < 18446744073709551616) : ones x ≤ 1 ↔ x = 0 ∨ ∃ k, x = 2 ^ k := onesF_one 64 x h
theorem ones_even {x : Nat} (h : x < 18446744073709551616) (h1 : ones x ≤ 1) (h2 : 1 < x) : x % 2 = 0 := by
 rcases (ones_one x h).1 h1 with h0 | ⟨k, hk⟩
 ·omega
 ·cases k with
  | zero => rw [Nat.pow_zero] at hk; omega
  | succ k => rw [Nat.pow_succ] at hk; omega
theorem ones_le (x : Nat) : ones x ≤ 64 := onesF_le 64 x
abbrev Bs := List UInt8
def cut0 : Bs → Option Bs
 | [] => none
 | b :: r => if b = 0 then some [] else (cut0 r).map (b :: ·)
def nameAt (l : Bs) (off : Nat) : Option Bs := cut0 (l.drop off)
theorem cut0_some : ∀ {l s : Bs}, cut0 l = some s → s.length < l.length ∧ l.take s.length = s ∧ l[s.length]? = some 0
 | [], s, h => by cases h
 | b :: r, s, h => by
  unfold cut0 at h
  split at h
  ·rename_i hb
   subst hb
   injection h with h
   subst h
   simp
  ·obtain ⟨x, hx, rfl⟩ := Option.map_eq_some_iff.1 h
   obtain ⟨h1, h2, h3⟩ := cut0_some hx
   exact ⟨by simpa using h1, by simp [h2], by simpa using h3⟩
theorem cut0_none : ∀ {l : Bs}, cut0 l = none ↔ ∀ b ∈ l, b ≠ 0
 | [] => by simp [cut0]
 | b :: r => by
  unfold cut0
  split
  ·rename_i hb; subst hb; simp
  ·rename_i hb
   rw [Option.map_eq_none_iff, cut0_none]
   simp [hb]
theorem cut0_at {l : Bs} {k : Nat} (h0 : ∀ j, j < k → l[j]? ≠ some 0) (hk : l[k]? = some 0) : cut0 l = some (l.take k) := by
 induction l generalizing k with
 | nil => simp at hk
 | cons b l ih =>
  unfold cut0
  cases k with
  | zero =>
   have : b = 0 := by simpa using hk
   rw [if_pos this]; rfl
  | succ k =>
   have hb : b ≠ 0 := fun e => h0 0 (by omega) (by simp [e])
   rw [if_neg hb, ih (fun j hj => by have := h0 (j + 1) (Nat.succ_lt_succ hj); simpa using this) (by simpa using hk)]
   rfl
theorem indexByte_cut (l : Bs) : Lib.indexByte l 0 = match cut0 l with | some s => (s.length : Int) | none => -1 := by
 induction l with
 | nil => rfl
 | cons b r ih =>
  unfold Lib.indexByte cut0
  by_cases hb : b = 0
  ·subst hb
   rfl
  ·have e : (b == 0) = false := by simpa using hb
   rw [if_neg hb, e, ih]
   cases cut0 r with
   | none => rfl
   | some s =>
    have : ((s.length : Int) == -1) = false := by rw [beq_eq_false_iff_ne]; omega
    simp [this]
section
variable {L : List Bs} {k : Nat}
end
end Go.Proofs.YtfglppjilcaafaaGreatDoor
namespace Go.Proofs.YtfglppjilcaafaaGreatDoor
open Go.RowKit
def bstr (s : Bs) : ByteArray := ⟨s.toArray⟩
section
variable {w w' : World} {B : Nat} {A : Option Addr} {n c : Nat} {L : List Bs}
end
end Go.Proofs.YtfglppjilcaafaaGreatDoor
namespace Go.Proofs.YtfglppjilcaafaaGreatDoor
def num : List UInt8 → Nat
 | [] => 0
 | b :: r => b.toNat + 256 * num r
def low : Nat → Nat → List UInt8
 | 0, _ => []
 | n + 1, v => UInt8.ofNat v :: low n (v / 256)
def ord (big : Bool) (l : List UInt8) : List UInt8 := if big then l.reverse else l
def getB (l : List UInt8) (big : Bool) : Nat := num (ord big l)
def putB (v n : Nat) (big : Bool) : List UInt8 := ord big (low n v)
def rank (i n : Nat) (big : Bool) : Nat := if big then n - 1 - i else i
theorem length_low : ∀ n v : Nat, (low n v).length = n
 | 0, _ => rfl
 | n + 1, v => by simp [low, length_low n]
theorem length_ord (big : Bool) (l : List UInt8) : (ord big l).length = l.length := by cases big <;> simp [ord]
theorem length_putB (v n : Nat) (big : Bool) : (putB v n big).length = n := by simp [putB, length_ord, length_low]
theorem toNat_ofNat8 (v : Nat) : (UInt8.ofNat v).toNat = v % 256 := by simp [UInt8.toNat_ofNat']
theorem num_lt : ∀ l : List UInt8, num l < 256 ^ l.length
 | [] => by simp [num]
 | b :: r => by
  have h1 := num_lt r
  have h2 : b.toNat < 256 := b.toNat_lt
  simp only [num, List.length_cons, Nat.pow_succ]
  omega
theorem num_low : ∀ n v : Nat, num (low n v) = v % 256 ^ n
 | 0, v => by simp [low, num, Nat.mod_one]
 | n + 1, v => by
  simp only [low, num, num_low n, toNat_ofNat8]
  rw [Nat.pow_succ, Nat.mul_comm (256 ^ n) 256, Nat.mod_mul]
theorem num_append : ∀ a b : List UInt8, num (a ++ b) = num a + 256 ^ a.length * num b
 | [], b => by simp [num]
 | x :: a, b => by
  simp only [List.cons_append, num, num_append a b, List.length_cons, Nat.pow_succ, Nat.mul_add]
  rw [Nat.mul_comm (256 ^ a.length) 256, Nat.mul_assoc]
  omega
theorem low_at : ∀ (n v i : Nat), i < n → (low n v)[i]? = some (UInt8.ofNat (v / 256 ^ i))
 | 0, _, _, h => by omega
 | n + 1, v, 0, _ => by simp [low]
 | n + 1, v, i + 1, h => by
  rw [low, List.getElem?_cons_succ, low_at n (v / 256) i (by omega), Nat.div_div_eq_div_mul, Nat.pow_succ, Nat.mul_comm 256]
theorem putB_at (v n i : Nat) (big : Bool) (h : i < n) : (putB v n big)[i]? = some (UInt8.ofNat (v / 256 ^ rank i n big)) := by
 cases big
 ·simp [putB, ord, rank, low_at n v i h]
 ·simp only [putB, ord, rank, if_true]
  rw [List.getElem?_reverse (by rw [length_low]; exact h), length_low, low_at n v _ (by omega)]
theorem rank_lt (i n : Nat) (big : Bool) (h : i < n) : rank i n big < n := by unfold rank; split <;> omega
theorem getB_putB (v n : Nat) (big : Bool) : getB (putB v n big) big = v % 256 ^ n := by
 cases big <;> simp [getB, putB, ord, num_low]
theorem getB_lt (l : List UInt8) (big : Bool) : getB l big < 256 ^ l.length := by
 have := num_lt (ord big l)
 rwa [length_ord] at this
def part (l : List UInt8) (big : Bool) (k : Nat) : Nat := if big then 256 ^ (l.length - k) * num (l.take k).reverse else num (l.take k)
theorem part_zero (l : List UInt8) (big : Bool) : part l big 0 = 0 := by cases big <;> simp [part, num]
theorem part_all (l : List UInt8) (big : Bool) : part l big l.length = getB l big := by
 cases big <;> simp [part, getB, ord]
theorem pow256 (n : Nat) : 256 ^ n = 2 ^ (8 * n) := by rw [Nat.pow_mul]
theorem or_low (x y i : Nat) (hx : x < 2 ^ i) (hy : y % 2 ^ i = 0) : x ||| y = x + y := by
 have e : y = 2 ^ i * (y / 2 ^ i) := by have := Nat.div_add_mod y (2 ^ i); omega
 rw [Nat.or_comm, e, ← Nat.two_pow_add_eq_or_of_lt hx]; omega
theorem take_snoc' (l : List UInt8) (k : Nat) (h : k < l.length) : l.take (k + 1) = l.take k ++ [l[k]] := by
 rw [List.take_succ_eq_append_getElem h]
theorem part_succ (l : List UInt8) (big : Bool) (k : Nat) (h : k < l.length) :
  part l big (k + 1) = part l big k ||| (l[k].toNat * 2 ^ (8 * rank k l.length big)) := by
 have hb : l[k].toNat < 256 := l[k].toNat_lt
 cases big
 ·have e : (l.take k).length = k := by simp; omega
  have hlt := num_lt (l.take k)
  rw [e, pow256] at hlt
  simp only [part, rank, Bool.false_eq_true, if_false]
  rw [or_low _ _ (8 * k) hlt (Nat.mul_mod_left _ _), take_snoc' l k h, num_append, e, pow256]
  simp [num, Nat.mul_comm]
 ·have e : l.length - k = l.length - 1 - k + 1 := by omega
  have hsmall : l[k].toNat * 2 ^ (8 * (l.length - 1 - k)) < 2 ^ (8 * (l.length - k)) := by
   rw [e, Nat.mul_add, Nat.pow_add, Nat.mul_comm]
   exact Nat.mul_lt_mul_of_pos_left hb (Nat.two_pow_pos _)
  simp only [part, rank, if_true]
  rw [Nat.or_comm, or_low _ _ (8 * (l.length - k)) hsmall (by rw [pow256]; exact Nat.mul_mod_right _ _), take_snoc' l k h, List.reverse_append]
  simp only [List.reverse_cons, List.reverse_nil, List.nil_append, List.singleton_append, num]
  rw [show l.length - (k + 1) = l.length - 1 - k by omega, pow256, pow256, e, Nat.mul_add 8, Nat.pow_add, Nat.mul_add, ← Nat.mul_assoc, Nat.mul_comm (l[k].toNat)]
theorem part_lt (l : List UInt8) (big : Bool) (k : Nat) (h : k ≤ l.length) : part l big k < 256 ^ l.length := by
 cases big
 ·have := num_lt (l.take k)
  simp only [part, Bool.false_eq_true, if_false]
  exact Nat.lt_of_lt_of_le this (Nat.pow_le_pow_right (by omega) (by simp; omega))
 ·have := num_lt (l.take k).reverse
  simp only [part, if_true]
  rw [List.length_reverse, List.length_take, Nat.min_eq_left h] at this
  have e : (256 : Nat) ^ l.length = 256 ^ (l.length - k) * 256 ^ k := by rw [← Nat.pow_add]; congr 1; omega
  rw [e]
  exact Nat.mul_lt_mul_of_pos_left this (Nat.pow_pos (by omega))
def sumN : List Nat → Nat
 | [] => 0
 | n :: r => n + sumN r
def rowB (big : Bool) : List (Nat × Nat) → List UInt8
 | [] => []
 | q :: r => putB q.1 q.2 big ++ rowB big r
def rowF : List (Nat × Nat) → Bool
 | [] => true
 | q :: r => decide (q.1 < 256 ^ q.2) && rowF r
def nums (l : List UInt8) (big : Bool) : Nat → List Nat → List Nat
 | _, [] => []
 | p, n :: r => getB ((l.drop p).take n) big :: nums l big (p + n) r
theorem rowB_append (big : Bool) : ∀ a b : List (Nat × Nat), rowB big (a ++ b) = rowB big a ++ rowB big b
 | [], _ => rfl
 | q :: a, b => by simp [rowB, rowB_append big a b]
theorem rowF_append : ∀ a b : List (Nat × Nat), rowF (a ++ b) = (rowF a && rowF b)
 | [], _ => by simp [rowF]
 | q :: a, b => by simp [rowF, rowF_append a b, Bool.and_assoc]
theorem length_rowB (big : Bool) : ∀ q : List (Nat × Nat), (rowB big q).length = sumN (q.map (·.2))
 | [] => rfl
 | x :: q => by simp [rowB, length_putB, sumN, length_rowB big q]
theorem length_nums (l : List UInt8) (big : Bool) : ∀ (n : List Nat) (p : Nat), (nums l big p n).length = n.length
 | [], _ => rfl
 | n :: r, p => by simp [nums, length_nums l big r]
theorem take_snoc_pair (q : List (Nat × Nat)) (k : Nat) (h : k < q.length) : q.take (k + 1) = q.take k ++ [q[k]] := by
 rw [List.take_succ_eq_append_getElem h]
theorem rowB_succ (big : Bool) (q : List (Nat × Nat)) (k : Nat) (h : k < q.length) : rowB big (q.take (k + 1)) = rowB big (q.take k) ++ putB q[k].1 q[k].2 big := by
 rw [take_snoc_pair q k h, rowB_append]; simp [rowB]
theorem rowF_succ (q : List (Nat × Nat)) (k : Nat) (h : k < q.length) : rowF (q.take (k + 1)) = (rowF (q.take k) && decide (q[k].1 < 256 ^ q[k].2)) := by
 rw [take_snoc_pair q k h, rowF_append]; simp [rowF]
theorem nums_append (l : List UInt8) (big : Bool) : ∀ (a b : List Nat) (p : Nat), nums l big p (a ++ b) = nums l big p a ++ nums l big (p + sumN a) b
 | [], b, p => by simp [nums, sumN]
 | n :: a, b, p => by simp [nums, nums_append l big a b, sumN, Nat.add_assoc]
theorem sumN_append : ∀ a b : List Nat, sumN (a ++ b) = sumN a + sumN b
 | [], b => by simp [sumN]
 | n :: a, b => by simp [sumN, sumN_append a b, Nat.add_assoc]
theorem take_snoc_nat (q : List Nat) (k : Nat) (h : k < q.length) : q.take (k + 1) = q.take k ++ [q[k]] := by
 rw [List.take_succ_eq_append_getElem h]
theorem nums_succ (l : List UInt8) (big : Bool) (n : List Nat) (p k : Nat) (h : k < n.length) : nums l big p (n.take (k + 1)) = nums l big p (n.take k) ++ [getB ((l.drop (p + sumN (n.take k))).take n[k]) big] := by
 rw [take_snoc_nat n k h, nums_append]; simp [nums]
theorem sumN_succ (n : List Nat) (k : Nat) (h : k < n.length) : sumN (n.take (k + 1)) = sumN (n.take k) + n[k] := by
 rw [take_snoc_nat n k h, sumN_append]; simp [sumN]
theorem sumN_le (n : List Nat) (k : Nat) : sumN (n.take k) ≤ sumN n := by
 have := sumN_append (n.take k) (n.drop k)
 rw [List.take_append_drop] at this
 omega
theorem nums_rowB (big : Bool) (post : List UInt8) : ∀ (q : List (Nat × Nat)) (pre : List UInt8), rowF q = true → nums (pre ++ rowB big q ++ post) big pre.length (q.map (·.2)) = q.map (·.1)
 | [], _, _ => rfl
 | x :: q, pre, h => by
  simp only [rowF, Bool.and_eq_true, decide_eq_true_eq] at h
  have h1 := nums_rowB big post q (pre ++ putB x.1 x.2 big) h.2
  have e : pre ++ rowB big (x :: q) ++ post = pre ++ putB x.1 x.2 big ++ rowB big q ++ post := by simp [rowB]
  rw [List.length_append, length_putB] at h1
  simp only [List.map_cons, nums, e, h1]
  congr 1
  rw [List.append_assoc, List.append_assoc, List.drop_append_of_le_length (Nat.le_refl _), List.drop_length, List.nil_append, List.take_append_of_le_length (by rw [length_putB]; exact Nat.le_refl _), List.take_of_length_le (by rw [length_putB]; exact Nat.le_refl _), getB_putB, Nat.mod_eq_of_lt h.1]
theorem nums_lt (l : List UInt8) (big : Bool) : ∀ (n : List Nat) (p k : Nat) (h : k < (nums l big p n).length), (nums l big p n)[k] < 256 ^ (n.getD k 0)
 | [], _, _, h => absurd h (by simp [nums])
 | n :: r, p, 0, _ => by
  simp only [nums, List.getElem_cons_zero, List.getD_cons_zero]
  have := getB_lt ((l.drop p).take n) big
  refine Nat.lt_of_lt_of_le this (Nat.pow_le_pow_right (by omega) (by simp; omega))
 | n :: r, p, k + 1, h => by
  simp only [nums, List.getElem_cons_succ, List.getD_cons_succ]
  exact nums_lt l big r (p + n) k _
end Go.Proofs.YtfglppjilcaafaaGreatDoor
namespace Go.Proofs.YtfglppjilcaafaaGreatDoor
open Go.RowKit
def ival (k : IntKind) (n : Nat) : Value := .int k (n : Int)
structure NS (w : World) (B : Nat) (k : IntKind) (A : Option Addr) (n c : Nat) (l : List Nat) : Prop where
 len : n = l.length
 cap : n ≤ c
 max : c ≤ maxLen
 pos : 0 < n → ∃ b off, A = some ⟨b, off, none⟩ ∧ b < B ∧ ∀ j (h : j < l.length), w.cell? ⟨b, off + j, none⟩ = some (.int k (l[j] : Int))
section
variable {w w' : World} {B : Nat} {k : IntKind} {A : Option Addr} {n c : Nat} {l : List Nat}
theorem NS.keep (h : NS w B k A n c l) (hk : ∀ p : Addr, p.block < B → w'.cell? p = w.cell? p) : NS w' B k A n c l :=
 ⟨h.len, h.cap, h.max, fun hn => by
  obtain ⟨b, off, e, hb, hc⟩ := h.pos hn
  exact ⟨b, off, e, hb, fun j hj => (hk ⟨b, off + j, none⟩ hb).trans (hc j hj)⟩⟩
theorem NS.belowAt {B0 : Nat} (h : NS w B k A n c l) (hb : Below B0 w w') (hB : B ≤ B0) : NS w' B k A n c l := h.keep fun _ hp => hb.cell (by omega)
theorem NS.more {B' : Nat} (h : NS w B k A n c l) (hB : B ≤ B') : NS w B' k A n c l :=
 ⟨h.len, h.cap, h.max, fun hn => by
  obtain ⟨b, off, e, hb, hc⟩ := h.pos hn
  exact ⟨b, off, e, by omega, hc⟩⟩
theorem NS.of_blk {g : Nat} {t : TypeId} {cs : Array Value} (h : Blk w g t cs) (hcs : cs = (l.map (ival k)).toArray) (hB : g < B) (hm : l.length ≤ maxLen) : NS w B k (some ⟨g, 0, none⟩) l.length l.length l :=
 ⟨rfl, Nat.le_refl _, hm, fun _ => ⟨g, 0, rfl, hB, fun j hj => by rw [Nat.zero_add, h.at, hcs]; simp [hj, ival]⟩⟩
theorem NS.first {m : Nat} (h : NS w B k A n c l) (hm : m ≤ n) : NS w B k A m c (l.take m) :=
 ⟨by have := h.len; simp; omega, by have := h.cap; omega, h.max, fun hp => by
  obtain ⟨b, off, e, hb, hc⟩ := h.pos (by omega)
  exact ⟨b, off, e, hb, fun j hj => by
   have hj2 : j < l.length := by simp at hj; omega
   rw [hc j hj2]; simp⟩⟩
end
def ON (w : World) (base : Nat) (e : TypeId) (k : IntKind) (A : Option Addr) (n c : Nat) (l : List Nat) : Prop :=
 w.ownsRow base e 1 (.slice A n c) n (l.map (ival k))
section
variable {w : World} {base : Nat} {e : TypeId} {k : IntKind} {A : Option Addr} {n c : Nat} {l : List Nat}
theorem ON.nil : ON w base e k none 0 0 [] := World.ownsRow_nil _ _ _ _
theorem ON.keep {w' : World} (h : ON w base e k A n c l) (hb : Below w.heap.size w w') : ON w' base e k A n c l := by
 refine ⟨h.1, ?_⟩
 rcases h.2 with h0 | ⟨g, cap, cur, hv, hg, hh, r⟩
 ·exact .inl h0
 ·refine .inr ⟨g, cap, cur, hv, hg, ?_, r⟩
  rw [hb.block g ?_]
  ·exact hh
  ·rcases Nat.lt_or_ge g w.heap.size with h1 | h1
   ·exact h1
   ·rw [Array.getElem?_eq_none h1] at hh; cases hh
theorem ON.ns (h : ON w base e k A n c l) : NS w w.heap.size k A n c l := by
 have hl : n = l.length := by have := h.1; simp at this; omega
 rcases h.2 with ⟨e0, h0⟩ | ⟨g, cap, cur, hv, _, hh, hnc, hcm, hsz, htk⟩
 ·injection e0 with e1 e2 e3
  subst e1; subst e3
  exact ⟨hl, by omega, Nat.zero_le _, fun hp => by omega⟩
 ·injection hv with hA _ hc
  subst hA; subst hc
  refine ⟨hl, hnc, hcm, fun _ => ⟨g, 0, rfl, ?_, fun j hj => ?_⟩⟩
  ·rcases Nat.lt_or_ge g w.heap.size with h1 | h1
   ·exact h1
   ·rw [Array.getElem?_eq_none h1] at hh; cases hh
  ·rw [cell_of_row w g (0 + j) cur e (0, 0) hh, Nat.zero_add]
   have e1 : (cur.toList.take (n * 1))[j]? = some (Value.int k (l[j] : Int)) := by
    rw [htk]; simp [hj, ival]
   rw [List.getElem?_take_of_lt (by omega)] at e1
   simpa using e1
end
theorem run_append1 {P : Program} (w : World) (base : Nat) (t ty e : TypeId) (k : IntKind) (bytes : Nat) (ht : P.underlying t = some (.slice e))
  (hinfo : (P.info? e).map (fun i => (i.zero, i.size, i.bytes)) = some (some (.int k 0), 1, bytes))
  (A : Option Addr) (n c : Nat) (l : List Nat) (hown : ON w base e k A n c l) (g : Nat) (t' : TypeId) (x : Nat) (hr : Blk w g t' #[.int k (x : Int)])
  (h63 : n + 1 ≤ maxLen) (hsz : (n + 1) * bytes ≤ 140737488355328) (hbase : base ≤ w.heap.size) :
  ∃ A2 c2 w', (Builtin.append_ #[t, t] ty #[.slice A n c, .slice (some ⟨g, 0, none⟩) 1 1]).run P w = .ok (.slice A2 (n + 1) c2) w' ∧ ON w' base e k A2 (n + 1) c2 (l ++ [x]) ∧ Below base w w' := by
 obtain ⟨i, hi, hz, hs, hby⟩ := info_parts hinfo
 obtain ⟨v', w', hrun, h2, h3, _, _⟩ := run_append_own_at (P := P) w base t ty e i (.int k 0) 1 bytes ht hi hz hs hby rfl (by omega) _ n _ hown ⟨g, 0, none⟩ 1 1 [.int k (x : Int)]
  rfl (fun j u hj => by
   have hj0 : j = 0 := by
    rcases Nat.eq_zero_or_pos j with h0 | h0
    ·exact h0
    ·rw [List.getElem?_eq_none (by simp; omega)] at hj; cases hj
   subst hj0
   have e2 : (⟨g, 0, none⟩ : Addr).add 0 = ⟨g, 0, none⟩ := by unfold Addr.add; split <;> simp_all
   rw [e2, hr.at]
   simpa using hj) (by intro u hu; simp at hu; subst hu; rfl) h63 hsz hbase
 have hv : ∃ A2 c2, v' = .slice A2 (n + 1) c2 := by
  rcases h2.2 with ⟨h0, h1⟩ | ⟨g, cap, cur, h0, _⟩
  ·omega
  ·exact ⟨_, _, h0⟩
 obtain ⟨A2, c2, rfl⟩ := hv
 exact ⟨A2, c2, w', hrun, by simpa [ON, ival] using h2, (Below.refl base w).grown h3 hbase fun k hk => (World.ownsRow.lt hown k hk).1⟩
theorem wpList_append1 {P : Program} (w : World) {ops : Array Oper} {rest : List Oper} {o : Oper} {a : Act} {Q : Exit → Act → World → Prop} (hgd : o.guard = none) (s x : Operand) (t : TypeId)
  (ho : o.op = .call { callee := .builtin .append, args := #[s, x], argTypes := #[t, t] })
  (base : Nat) (e : TypeId) (k : IntKind) (bytes : Nat) (ht : P.underlying t = some (.slice e)) (hinfo : (P.info? e).map (fun i => (i.zero, i.size, i.bytes)) = some (some (.int k 0), 1, bytes))
  (A : Option Addr) (n c : Nat) (l : List Nat) (hs : a.eval s = .slice A n c) (hown : ON w base e k A n c l)
  (g : Nat) (t' : TypeId) (y : Nat) (hx : a.eval x = .slice (some ⟨g, 0, none⟩) 1 1) (hr : Blk w g t' #[.int k (y : Int)])
  (h63 : n + 1 ≤ maxLen) (hsz : (n + 1) * bytes ≤ 140737488355328) (hbase : base ≤ w.heap.size)
  (h : ∀ A2 c2 w', ON w' base e k A2 (n + 1) c2 (l ++ [y]) → Below base w w' → wpList P ops Q rest (a.put o.dst (.slice A2 (n + 1) c2)) w') : wpList P ops Q (o :: rest) a w := by
 refine wpList_plain hgd fun K hK => ?_
 obtain ⟨A2, c2, w', hrun, h2, h3⟩ := run_append1 (P := P) w base t o.type e k bytes ht hinfo A n c l hown g t' y hr h63 hsz hbase
 unfold Oper.wp execOp
 simp only [ho, resolve, invoke, builtin, Sem.run_bind, Sem.run_pure, Result.andThen_ok, List.map_toArray, List.map_cons, List.map_nil, hs, hx, hrun]
 exact hK _ _ (h A2 c2 w' h2 h3)
end Go.Proofs.YtfglppjilcaafaaGreatDoor
