/-
  Several texts in one: How many ones a number of 64 bits has, as math/bits; Names in a table, as plain lists of bytes; A slice of strings that reads as a list of names; Plain mathematics of layer 1.
-/
import Derived.Lib.Bytealg
import Derived.Test.YtfbimboemahhhaaGreatDoorTfG1
import Derived.WalkKit
import Derived.Lib.Hide
import Derived.Laws.Strings
namespace Go.Proofs.YtfbimboemahhhaaGreatDoor
def onesF : Nat → Nat → Nat
 | 0, _ => 0
 | f + 1, x => x % 2 + onesF f (x / 2)
def ones (x : Nat) : Nat := onesF 64 x
theorem and_split (k a m s : Nat) (hs : s < 2 ^ k) : a &&& (2 ^ k * m + s) = 2 ^ k * ((a / 2 ^ k) &&& m) + ((a % 2 ^ k) &&& s) := by
 have h1 : (a % 2 ^ k) &&& s < 2 ^ k := Nat.and_lt_two_pow _ hs
 have h2 : a % 2 ^ k < 2 ^ k := Nat.mod_lt _ (Nat.two_pow_pos k)
 apply Nat.eq_of_testBit_eq
 intro i
 rw [Nat.testBit_and, Nat.testBit_two_pow_mul_add _ hs, Nat.testBit_two_pow_mul_add _ h1]
 by_cases h : i < k
 ·rw [if_pos h, if_pos h, Nat.testBit_and, Nat.testBit_mod_two_pow]
  simp [h]
 ·rw [if_neg h, if_neg h, Nat.testBit_and, Nat.testBit_div_two_pow]
  have : i - k + k = i := by omega
  rw [this]
def mask (m : Nat) : Nat → Nat
 | 0 => 0
 | n + 1 => 256 * mask m n + m
def bytesF (f : Nat → Nat) : Nat → Nat → Nat
 | 0, _ => 0
 | n + 1, x => 256 * bytesF f n (x / 256) + f (x % 256)
def s1 (r : Nat) : Nat := ((r / 2) &&& 85) + (r &&& 85)
def s2 (r : Nat) : Nat := ((r / 4) &&& 51) + (r &&& 51)
theorem s1_lt : ∀ r : Fin 256, s1 r.val ≤ 170 := by decide +kernel
theorem s2_le : ∀ r : Fin 256, s2 (s1 r.val) % 16 ≤ 4 ∧ s2 (s1 r.val) / 16 ≤ 4 := by decide +kernel
theorem s3_eq : ∀ r : Fin 256, s2 (s1 r.val) % 16 + s2 (s1 r.val) / 16 = onesF 8 r.val := by decide +kernel
theorem s1_and (x : Nat) : ((x / 2) % 256) &&& 85 = ((x % 256) / 2) &&& 85 := by
 have h : ∀ r : Fin 512, ((r.val / 2) % 256) &&& 85 = ((r.val % 256) / 2) &&& 85 := by decide +kernel
 have := h ⟨x % 512, Nat.mod_lt _ (by decide)⟩
 simp only at this
 have e1 : x % 512 / 2 % 256 = x / 2 % 256 := by omega
 have e2 : x % 512 % 256 = x % 256 := by omega
 rw [e1, e2] at this
 exact this
theorem s2_and (x : Nat) : ((x / 4) % 256) &&& 51 = ((x % 256) / 4) &&& 51 := by
 have h : ∀ r : Fin 1024, ((r.val / 4) % 256) &&& 51 = ((r.val % 256) / 4) &&& 51 := by decide +kernel
 have := h ⟨x % 1024, Nat.mod_lt _ (by decide)⟩
 simp only at this
 have e1 : x % 1024 / 4 % 256 = x / 4 % 256 := by omega
 have e2 : x % 1024 % 256 = x % 256 := by omega
 rw [e1, e2] at this
 exact this
theorem step1 : ∀ n x, ((x / 2) &&& mask 85 n) + (x &&& mask 85 n) = bytesF s1 n x
 | 0, x => by simp [mask, bytesF]
 | n + 1, x => by
  have ih := step1 n (x / 256)
  have a1 := and_split 8 (x / 2) (mask 85 n) 85 (by decide)
  have a2 := and_split 8 x (mask 85 n) 85 (by decide)
  have e : x / 2 / 2 ^ 8 = x / 256 / 2 := by omega
  rw [e] at a1
  have e2 := s1_and x
  rw [show (2 : Nat) ^ 8 = 256 from rfl] at a1 a2
  rw [mask, bytesF, a1, a2, ← ih, s1, e2]
  omega
theorem step2 : ∀ n x, ((x / 4) &&& mask 51 n) + (x &&& mask 51 n) = bytesF s2 n x
 | 0, x => by simp [mask, bytesF]
 | n + 1, x => by
  have ih := step2 n (x / 256)
  have a1 := and_split 8 (x / 4) (mask 51 n) 51 (by decide)
  have a2 := and_split 8 x (mask 51 n) 51 (by decide)
  have e : x / 4 / 2 ^ 8 = x / 256 / 4 := by omega
  rw [e] at a1
  have e2 := s2_and x
  rw [show (2 : Nat) ^ 8 = 256 from rfl] at a1 a2
  rw [mask, bytesF, a1, a2, ← ih, s2, e2]
  omega
theorem bytesF_div (f : Nat → Nat) (hf : ∀ r, r < 256 → f r < 256) (n x : Nat) : bytesF f (n + 1) x / 256 = bytesF f n (x / 256) ∧ bytesF f (n + 1) x % 256 = f (x % 256) := by
 have := hf (x % 256) (Nat.mod_lt _ (by decide))
 rw [bytesF]
 omega
theorem bytesF_comp (f g : Nat → Nat) (hf : ∀ r, r < 256 → f r < 256) : ∀ n x, bytesF g n (bytesF f n x) = bytesF (fun r => g (f r)) n x
 | 0, x => rfl
 | n + 1, x => by
  obtain ⟨h1, h2⟩ := bytesF_div f hf n x
  have ih := bytesF_comp f g hf n (x / 256)
  show 256 * bytesF g n (bytesF f (n + 1) x / 256) + g (bytesF f (n + 1) x % 256) = 256 * bytesF (fun r => g (f r)) n (x / 256) + g (f (x % 256))
  rw [h1, h2, ih]
def s21 (r : Nat) : Nat := s2 (s1 r)
theorem s1_lt' (r : Nat) (h : r < 256) : s1 r < 256 := by have := s1_lt ⟨r, h⟩; simp only at this; omega
theorem s21_le (r : Nat) (h : r < 256) : s21 r % 16 ≤ 4 ∧ s21 r / 16 ≤ 4 := s2_le ⟨r, h⟩
theorem s21_eq (r : Nat) (h : r < 256) : s21 r % 16 + s21 r / 16 = onesF 8 r := s3_eq ⟨r, h⟩
theorem fifteen (y : Nat) : y &&& 15 = y % 16 := Nat.and_two_pow_sub_one_eq_mod y 4
theorem step3 : ∀ n x, (bytesF s21 n x / 16 + bytesF s21 n x) &&& mask 15 n = bytesF (fun r => onesF 8 r) n x
 | 0, x => by simp [mask, bytesF]
 | n + 1, x => by
  have ih := step3 n (x / 256)
  have hr : x % 256 < 256 := Nat.mod_lt _ (by decide)
  have hr2 : x / 256 % 256 < 256 := Nat.mod_lt _ (by decide)
  obtain ⟨l1, l2⟩ := s21_le _ hr
  have e1 := s21_eq _ hr
  obtain ⟨l3, -⟩ := s21_le _ hr2
  have hy : bytesF s21 n (x / 256) % 16 ≤ 4 := by
   cases n with
   | zero => simp [bytesF]
   | succ m => rw [bytesF]; omega
  have a1 := and_split 8 (bytesF s21 (n + 1) x / 16 + bytesF s21 (n + 1) x) (mask 15 n) 15 (by decide)
  rw [show (2 : Nat) ^ 8 = 256 from rfl] at a1
  have b1 : bytesF s21 (n + 1) x = 256 * bytesF s21 n (x / 256) + s21 (x % 256) := rfl
  have b2 : bytesF (fun r => onesF 8 r) (n + 1) x = 256 * bytesF (fun r => onesF 8 r) n (x / 256) + onesF 8 (x % 256) := rfl
  rw [mask, b2, a1]
  have e2 : (bytesF s21 (n + 1) x / 16 + bytesF s21 (n + 1) x) / 256 = bytesF s21 n (x / 256) / 16 + bytesF s21 n (x / 256) := by omega
  rw [e2, ih, fifteen]
  congr 1
  omega
theorem onesF_le : ∀ f x, onesF f x ≤ f
 | 0, _ => Nat.le_refl _
 | f + 1, x => by have := onesF_le f (x / 2); rw [onesF]; omega
theorem onesF_add : ∀ f g x, onesF (f + g) x = onesF f x + onesF g (x / 2 ^ f)
 | 0, g, x => by simp [onesF]
 | f + 1, g, x => by
  have := onesF_add f g (x / 2)
  rw [show f + 1 + g = f + g + 1 by omega, onesF, this, onesF, Nat.div_div_eq_div_mul, Nat.pow_succ, Nat.mul_comm 2 (2 ^ f)]
  omega
theorem onesF_mod : ∀ f x, onesF f (x % 2 ^ f) = onesF f x
 | 0, _ => rfl
 | f + 1, x => by
  have ih := onesF_mod f (x / 2)
  have e1 : x % 2 ^ (f + 1) % 2 = x % 2 := Nat.mod_mod_of_dvd _ ⟨2 ^ f, by rw [Nat.pow_succ, Nat.mul_comm]⟩
  have e2 : x % 2 ^ (f + 1) / 2 = x / 2 % 2 ^ f := by rw [Nat.pow_succ, Nat.mul_comm, Nat.mod_mul_right_div_self]
  rw [onesF, onesF, e1, e2, ih]
theorem bytesF_bit (x : Nat) : ∃ c0 c1 c2 c3 c4 c5 c6 c7 : Nat, c0 ≤ 8 ∧ c1 ≤ 8 ∧ c2 ≤ 8 ∧ c3 ≤ 8 ∧ c4 ≤ 8 ∧ c5 ≤ 8 ∧ c6 ≤ 8 ∧ c7 ≤ 8 ∧
  bytesF (fun r => onesF 8 r) 8 x = c0 + 256 * c1 + 65536 * c2 + 16777216 * c3 + 4294967296 * c4 + 1099511627776 * c5 + 281474976710656 * c6 + 72057594037927936 * c7 ∧ ones x = c0 + c1 + c2 + c3 + c4 + c5 + c6 + c7 := by
 have e : ∀ y, onesF 8 (y % 256) = onesF 8 y := onesF_mod 8
 have s : ∀ g y, onesF (8 + g) y = onesF 8 y + onesF g (y / 256) := fun g y => onesF_add 8 g y
 refine ⟨onesF 8 x, onesF 8 (x / 256), onesF 8 (x / 256 / 256), onesF 8 (x / 256 / 256 / 256), onesF 8 (x / 256 / 256 / 256 / 256), onesF 8 (x / 256 / 256 / 256 / 256 / 256), onesF 8 (x / 256 / 256 / 256 / 256 / 256 / 256), onesF 8 (x / 256 / 256 / 256 / 256 / 256 / 256 / 256),
  onesF_le _ _, onesF_le _ _, onesF_le _ _, onesF_le _ _, onesF_le _ _, onesF_le _ _, onesF_le _ _, onesF_le _ _, ?_, ?_⟩
 ·simp only [bytesF, e]
  omega
 ·unfold ones
  rw [show (64 : Nat) = 8 + (8 + (8 + (8 + (8 + (8 + (8 + (8 + 0))))))) from rfl]
  rw [s, s, s, s, s, s, s, s]
  simp only [onesF]
  omega
theorem div_of (q r k n : Nat) (h : n = r + k * q) (hr : r < k) : n / k = q := by
 subst h
 rw [Nat.add_mul_div_left _ _ (by omega), Nat.div_eq_of_lt hr, Nat.zero_add]
theorem fold8 (c0 c1 c2 c3 c4 c5 c6 c7 : Nat) (k0 : c0 ≤ 8) (k1 : c1 ≤ 8) (k2 : c2 ≤ 8) (k3 : c3 ≤ 8) (k4 : c4 ≤ 8) (k5 : c5 ≤ 8) (k6 : c6 ≤ 8) (k7 : c7 ≤ 8) :
  ∃ d e f : Nat, (c0 + 256 * c1 + 65536 * c2 + 16777216 * c3 + 4294967296 * c4 + 1099511627776 * c5 + 281474976710656 * c6 + 72057594037927936 * c7) + (c0 + 256 * c1 + 65536 * c2 + 16777216 * c3 + 4294967296 * c4 + 1099511627776 * c5 + 281474976710656 * c6 + 72057594037927936 * c7) / 256 = d ∧ d + d / 65536 = e ∧ e + e / 4294967296 = f ∧ f % 128 = c0 + c1 + c2 + c3 + c4 + c5 + c6 + c7 ∧ d < 2305843009213693952 ∧ e < 2305843009213693952 ∧ f < 2305843009213693952 := by
 refine ⟨(c0 + c1) + 256 * (c1 + c2) + 65536 * (c2 + c3) + 16777216 * (c3 + c4) + 4294967296 * (c4 + c5) + 1099511627776 * (c5 + c6) + 281474976710656 * (c6 + c7) + 72057594037927936 * c7, (c0 + c1 + c2 + c3) + 256 * (c1 + c2 + c3 + c4) + 65536 * (c2 + c3 + c4 + c5) + 16777216 * (c3 + c4 + c5 + c6) + 4294967296 * (c4 + c5 + c6 + c7) + 1099511627776 * (c5 + c6 + c7) + 281474976710656 * (c6 + c7) + 72057594037927936 * c7, (c0 + c1 + c2 + c3 + c4 + c5 + c6 + c7) + 128 * (2 * ((c1 + c2 + c3 + c4 + c5 + c6 + c7) + 256 * (c2 + c3 + c4 + c5 + c6 + c7) + 65536 * (c3 + c4 + c5 + c6 + c7) + 16777216 * (c4 + c5 + c6 + c7) + 4294967296 * (c5 + c6 + c7) + 1099511627776 * (c6 + c7) + 281474976710656 * c7)), ?_, ?_, ?_, ?_, ?_, ?_, ?_⟩
 ·have q : (c0 + 256 * c1 + 65536 * c2 + 16777216 * c3 + 4294967296 * c4 + 1099511627776 * c5 + 281474976710656 * c6 + 72057594037927936 * c7) / 256 = c1 + 256 * c2 + 65536 * c3 + 16777216 * c4 + 4294967296 * c5 + 1099511627776 * c6 + 281474976710656 * c7 := div_of _ c0 _ _ (by omega) (by omega)
  rw [q]
  clear q
  omega
 ·have q : ((c0 + c1) + 256 * (c1 + c2) + 65536 * (c2 + c3) + 16777216 * (c3 + c4) + 4294967296 * (c4 + c5) + 1099511627776 * (c5 + c6) + 281474976710656 * (c6 + c7) + 72057594037927936 * c7) / 65536 = (c2 + c3) + 256 * (c3 + c4) + 65536 * (c4 + c5) + 16777216 * (c5 + c6) + 4294967296 * (c6 + c7) + 1099511627776 * c7 := div_of _ ((c0 + c1) + 256 * (c1 + c2)) _ _ (by omega) (by omega)
  rw [q]
  clear q
  omega
 ·have q : ((c0 + c1 + c2 + c3) + 256 * (c1 + c2 + c3 + c4) + 65536 * (c2 + c3 + c4 + c5) + 16777216 * (c3 + c4 + c5 + c6) + 4294967296 * (c4 + c5 + c6 + c7) + 1099511627776 * (c5 + c6 + c7) + 281474976710656 * (c6 + c7) + 72057594037927936 * c7) / 4294967296 = (c4 + c5 + c6 + c7) + 256 * (c5 + c6 + c7) + 65536 * (c6 + c7) + 16777216 * c7 := div_of _ ((c0 + c1 + c2 + c3) + 256 * (c1 + c2 + c3 + c4) + 65536 * (c2 + c3 + c4 + c5) + 16777216 * (c3 + c4 + c5 + c6)) _ _ (by omega) (by omega)
  rw [q]
  clear q
  omega
 ·rw [Nat.add_mul_mod_self_left, Nat.mod_eq_of_lt (by omega)]
 all_goals omega
theorem ones_steps (x a b c : Nat) (ha : ((x / 2) &&& 6148914691236517205) + (x &&& 6148914691236517205) = a) (hb : ((a / 4) &&& 3689348814741910323) + (a &&& 3689348814741910323) = b) (hc : (b / 16 + b) &&& 1085102592571150095 = c) :
  ∃ d e f : Nat, c + c / 256 = d ∧ d + d / 65536 = e ∧ e + e / 4294967296 = f ∧ f % 128 = ones x ∧ c < 2305843009213693952 ∧ d < 2305843009213693952 ∧ e < 2305843009213693952 ∧ f < 2305843009213693952 ∧ b < 9223372036854775808 ∧ a < 13835058055282163712 := by
 have la : a < 13835058055282163712 := by
  have u : (x / 2) &&& 6148914691236517205 ≤ 6148914691236517205 := Nat.and_le_right
  have v : x &&& 6148914691236517205 ≤ 6148914691236517205 := Nat.and_le_right
  omega
 have lb : b < 9223372036854775808 := by
  have u : (a / 4) &&& 3689348814741910323 ≤ 3689348814741910323 := Nat.and_le_right
  have v : a &&& 3689348814741910323 ≤ 3689348814741910323 := Nat.and_le_right
  omega
 have lc : c < 2305843009213693952 := by
  have u : (b / 16 + b) &&& 1085102592571150095 ≤ 1085102592571150095 := Nat.and_le_right
  omega
 have m1 : mask 85 8 = 6148914691236517205 := by decide
 have m2 : mask 51 8 = 3689348814741910323 := by decide
 have m3 : mask 15 8 = 1085102592571150095 := by decide
 have h1 := step1 8 x
 rw [m1, ha] at h1
 have h2 := step2 8 a
 rw [m2, hb, h1, bytesF_comp s1 s2 s1_lt'] at h2
 have h3 := step3 8 x
 rw [m3] at h3
 have h2' : b = bytesF s21 8 x := h2
 rw [← h2', hc] at h3
 obtain ⟨c0, c1, c2, c3, c4, c5, c6, c7, k0, k1, k2, k3, k4, k5, k6, k7, hC, hO⟩ := bytesF_bit x
 rw [hC] at h3
 obtain ⟨d, e, f, hd, he, hf, hm, ld, le, lf⟩ := fold8 c0 c1 c2 c3 c4 c5 c6 c7 k0 k1 k2 k3 k4 k5 k6 k7
 rw [← h3] at hd
 exact ⟨d, e, f, hd, he, hf, hm.trans hO.symm, lc, ld, le, lf, lb, la⟩
theorem onesF_zero : ∀ f, onesF f 0 = 0
 | 0 => rfl
 | f + 1 => by rw [onesF, onesF_zero f]
theorem onesF_pos : ∀ f x, 0 < x → x < 2 ^ f → 0 < onesF f x
 | 0, x, h0, h => by simp at h; omega
 | f + 1, x, h0, h => by
  rw [onesF]
  by_cases e : x % 2 = 0
  ·have := onesF_pos f (x / 2) (by omega) (by rw [Nat.pow_succ] at h; omega)
   omega
  ·omega
theorem onesF_one : ∀ f x, x < 2 ^ f → (onesF f x ≤ 1 ↔ x = 0 ∨ ∃ k, x = 2 ^ k)
 | 0, x, h => by simp at h; subst h; simp [onesF]
 | f + 1, x, h => by
  have hx : x / 2 < 2 ^ f := by rw [Nat.pow_succ] at h; omega
  have ih := onesF_one f (x / 2) hx
  rw [onesF]
  by_cases e : x % 2 = 0
  ·rw [e, Nat.zero_add, ih]
   constructor
   ·rintro (h0 | ⟨k, hk⟩)
    ·exact .inl (by omega)
    ·exact .inr ⟨k + 1, by rw [Nat.pow_succ]; omega⟩
   ·rintro (h0 | ⟨k, hk⟩)
    ·exact .inl (by omega)
    ·cases k with
     | zero => rw [Nat.pow_zero] at hk; omega
     | succ k => exact .inr ⟨k, by rw [Nat.pow_succ] at hk; omega⟩
  ·have e1 : x % 2 = 1 := by omega
   rw [e1]
   constructor
   ·intro hle
    by_cases h0 : x / 2 = 0
    ·exact .inr ⟨0, by rw [Nat.pow_zero]; omega⟩
    ·have := onesF_pos f (x / 2) (by omega) hx
     omega
   ·rintro (h0 | ⟨k, hk⟩)
    ·omega
    ·cases k with
     | zero =>
      rw [Nat.pow_zero] at hk
      have : x / 2 = 0 := by omega
      rw [this, onesF_zero]
      omega
     | succ k => rw [Nat.pow_succ] at hk; omega
theorem ones_one (x : Nat) (h : x < 18446744073709551616) : ones x ≤ 1 ↔ x = 0 ∨ ∃ k, x = 2 ^ k := onesF_one 64 x h
theorem ones_le (x : Nat) : ones x ≤ 64 := onesF_le 64 x
abbrev Bs := List UInt8
def cut0 : Bs → Option Bs
 | [] => none
 | b :: r => if b = 0 then some [] else (cut0 r).map (b :: ·)
def nameAt (l : Bs) (off : Nat) : Option Bs := cut0 (l.drop off)
def noZero (s : Bs) : Bool := (cut0 s).isNone
def areN (L : List Bs) : Bool := L.all noZero
theorem cut0_some : ∀ {l s : Bs}, cut0 l = some s → s.length < l.length ∧ l.take s.length = s ∧ l[s.length]? = some 0
 | [], s, h => by cases h
 | b :: r, s, h => by
  unfold cut0 at h
  split at h
  ·rename_i hb
   subst hb
   injection h with h
   subst h
   simp
  ·obtain ⟨x, hx, rfl⟩ := Option.map_eq_some_iff.1 h
   obtain ⟨h1, h2, h3⟩ := cut0_some hx
   exact ⟨by simpa using h1, by simp [h2], by simpa using h3⟩
theorem cut0_none : ∀ {l : Bs}, cut0 l = none ↔ ∀ b ∈ l, b ≠ 0
 | [] => by simp [cut0]
 | b :: r => by
  unfold cut0
  split
  ·rename_i hb; subst hb; simp
  ·rename_i hb
   rw [Option.map_eq_none_iff, cut0_none]
   simp [hb]
theorem cut0_append {l s : Bs} (r : Bs) (h : cut0 l = some s) : cut0 (l ++ r) = some s := by
 induction l generalizing s with
 | nil => cases h
 | cons b l ih =>
  unfold cut0 at h
  rw [List.cons_append]
  unfold cut0
  split at h
  ·rename_i hb; rw [if_pos hb]; exact h
  ·rename_i hb
   rw [if_neg hb]
   obtain ⟨x, hx, rfl⟩ := Option.map_eq_some_iff.1 h
   rw [ih hx]; rfl
theorem cut0_name {s : Bs} (r : Bs) (h : noZero s = true) : cut0 (s ++ 0 :: r) = some s := by
 induction s with
 | nil => simp [cut0]
 | cons b s ih =>
  have hz := cut0_none.1 (Option.isNone_iff_eq_none.1 h)
  rw [List.cons_append]
  unfold cut0
  rw [if_neg (hz b (by simp)), ih (by rw [noZero, Option.isNone_iff_eq_none, cut0_none]; exact fun x hx => hz x (by simp [hx]))]
  rfl
theorem indexByte_cut (l : Bs) : Lib.indexByte l 0 = match cut0 l with | some s => (s.length : Int) | none => -1 := by
 induction l with
 | nil => rfl
 | cons b r ih =>
  unfold Lib.indexByte cut0
  by_cases hb : b = 0
  ·subst hb
   rfl
  ·have e : (b == 0) = false := by simpa using hb
   rw [if_neg hb, e, ih]
   cases cut0 r with
   | none => rfl
   | some s =>
    have : ((s.length : Int) == -1) = false := by rw [beq_eq_false_iff_ne]; omega
    simp [this]
theorem indexByte_name (s : Bs) : (Lib.indexByte s 0 < 0) ↔ noZero s = true := by
 rw [indexByte_cut, noZero]
 cases cut0 s with
 | none => decide
 | some s =>
  have : ¬ ((s.length : Int) < 0) := by omega
  simp [this]
def find : List Bs → List Nat → Bs → Option Nat
 | x :: L, p :: a, s => if x = s then some p else find L a s
 | _, _, _ => none
def look (L : List Bs) (a : List Nat) (s : Bs) : Option Nat := if s = [] then some 0 else find L a s
theorem find_snoc : ∀ {L : List Bs} {a : List Nat} (x : Bs) (p : Nat) (s : Bs), L.length = a.length → find (L ++ [x]) (a ++ [p]) s = match find L a s with | some q => some q | none => if x = s then some p else none
 | [], [], x, p, s, _ => by simp [find]
 | y :: L, q :: a, x, p, s, h => by
  simp only [List.cons_append, find]
  split
  ·rfl
  ·exact find_snoc x p s (by simpa using h)
 | [], _ :: _, _, _, _, h => by cases h
 | _ :: _, [], _, _, _, h => by cases h
theorem look_snoc {L : List Bs} {a : List Nat} (x : Bs) (p : Nat) (s : Bs) (h : L.length = a.length) : look (L ++ [x]) (a ++ [p]) s = match look L a s with | some q => some q | none => if x = s then some p else none := by
 unfold look
 split
 ·rfl
 ·exact find_snoc x p s h
theorem look_nil (s : Bs) : look [] [] s = if s = [] then some 0 else none := by unfold look; split <;> simp_all [find]
def tabs (L : List Bs) : Nat → Bs × List Nat
 | 0 => ([0], [])
 | k + 1 => match look (L.take k) (tabs L k).2 (L.getD k []) with
  | some p => ((tabs L k).1, (tabs L k).2 ++ [p])
  | none => ((tabs L k).1 ++ (L.getD k [] ++ [0]), (tabs L k).2 ++ [(tabs L k).1.length])
def tab (L : List Bs) (k : Nat) : Bs := (tabs L k).1
def ats (L : List Bs) (k : Nat) : List Nat := (tabs L k).2
section
variable {L : List Bs} {k : Nat}
theorem tab_zero : tab L 0 = [0] := rfl
theorem ats_zero : ats L 0 = [] := rfl
theorem tab_old {p : Nat} (h : look (L.take k) (ats L k) (L.getD k []) = some p) : tab L (k + 1) = tab L k ∧ ats L (k + 1) = ats L k ++ [p] := by
 unfold tab ats at *
 simp only [tabs, h, and_self]
theorem tab_new (h : look (L.take k) (ats L k) (L.getD k []) = none) : tab L (k + 1) = tab L k ++ (L.getD k [] ++ [0]) ∧ ats L (k + 1) = ats L k ++ [(tab L k).length] := by
 unfold tab ats at *
 simp only [tabs, h, and_self]
theorem tab_step (L : List Bs) (k : Nat) : (∃ p, look (L.take k) (ats L k) (L.getD k []) = some p ∧ tab L (k + 1) = tab L k ∧ ats L (k + 1) = ats L k ++ [p]) ∨
  (look (L.take k) (ats L k) (L.getD k []) = none ∧ tab L (k + 1) = tab L k ++ (L.getD k [] ++ [0]) ∧ ats L (k + 1) = ats L k ++ [(tab L k).length]) := by
 cases h : look (L.take k) (ats L k) (L.getD k []) with
 | some p => exact .inl ⟨p, rfl, tab_old h⟩
 | none => exact .inr ⟨rfl, tab_new h⟩
theorem ats_len : ∀ k, (ats L k).length = k
 | 0 => rfl
 | k + 1 => by
  rcases tab_step L k with ⟨p, _, _, e⟩ | ⟨_, _, e⟩ <;> rw [e, List.length_append, ats_len k] <;> rfl
theorem tab_le {m : Nat} (hm : ∀ s ∈ L, s.length ≤ m) : ∀ k, (tab L k).length ≤ 1 + k * (m + 1)
 | 0 => by simp [tab_zero]
 | k + 1 => by
  have ih := tab_le hm k
  rw [Nat.add_mul, Nat.one_mul]
  rcases tab_step L k with ⟨p, _, e, _⟩ | ⟨_, e, _⟩
  ·rw [e]; omega
  ·have hs : (L.getD k []).length ≤ m := by
    by_cases hk : k < L.length
    ·rw [List.getD_eq_getElem?_getD, List.getElem?_eq_getElem hk]
     exact hm _ (List.getElem_mem hk)
    ·rw [List.getD_eq_getElem?_getD, List.getElem?_eq_none (by omega)]; simp
   rw [e, List.length_append, List.length_append]
   simp only [List.length_singleton]
   omega
theorem tab_pos : ∀ k, 0 < (tab L k).length
 | 0 => by simp [tab_zero]
 | k + 1 => by
  have ih := tab_pos k
  rcases tab_step L k with ⟨p, _, e, _⟩ | ⟨_, e, _⟩ <;> rw [e]
  ·exact ih
  ·rw [List.length_append]; omega
theorem tab_first : ∀ k, (tab L k)[0]? = some 0
 | 0 => by simp [tab_zero]
 | k + 1 => by
  have ih := tab_first k
  rcases tab_step L k with ⟨p, _, e, _⟩ | ⟨_, e, _⟩ <;> rw [e]
  ·exact ih
  ·rw [List.getElem?_append_left (tab_pos k)]; exact ih
theorem take_snoc (hk : k < L.length) : L.take (k + 1) = L.take k ++ [L.getD k []] := by
 rw [List.take_succ_eq_append_getElem hk, List.getD_eq_getElem?_getD, List.getElem?_eq_getElem hk]; rfl
theorem look_new (hk : k < L.length) (h : look (L.take k) (ats L k) (L.getD k []) = none) (s : Bs) : look (L.take (k + 1)) (ats L (k + 1)) s = if L.getD k [] = s then some (tab L k).length else look (L.take k) (ats L k) s := by
 have hl : (L.take k).length = (ats L k).length := by rw [ats_len, List.length_take]; omega
 rw [take_snoc hk, (tab_new h).2, look_snoc _ _ _ hl]
 generalize L.getD k [] = x at h ⊢
 by_cases e : x = s
 ·subst e
  rw [h]
 ·simp only [if_neg e]
  cases look (L.take k) (ats L k) s <;> rfl
theorem look_old (hk : k < L.length) {p : Nat} (h : look (L.take k) (ats L k) (L.getD k []) = some p) (s : Bs) : look (L.take (k + 1)) (ats L (k + 1)) s = look (L.take k) (ats L k) s := by
 have hl : (L.take k).length = (ats L k).length := by rw [ats_len, List.length_take]; omega
 rw [take_snoc hk, (tab_old h).2, look_snoc _ _ _ hl]
 generalize L.getD k [] = x at h ⊢
 by_cases e : x = s
 ·subst e
  rw [h]
 ·simp only [if_neg e]
  cases look (L.take k) (ats L k) s <;> rfl
theorem ats_pre : ∀ {m k j : Nat}, k ≤ m → j < k → (ats L m)[j]? = (ats L k)[j]?
 | 0, _, _, h1, h2 => by omega
 | m + 1, k, j, h1, h2 => by
  by_cases e : k = m + 1
  ·rw [e]
  ·rw [← ats_pre (m := m) (k := k) (by omega) h2]
   have hlen := ats_len (L := L) m
   rcases tab_step L m with ⟨q, _, _, e2⟩ | ⟨_, _, e2⟩ <;> rw [e2, List.getElem?_append_left (by omega)]
theorem ats_at_old {m p : Nat} (hk : k < m) (h : look (L.take k) (ats L k) (L.getD k []) = some p) : (ats L m)[k]? = some p := by
 rw [ats_pre (k := k + 1) hk (by omega), (tab_old h).2, List.getElem?_append_right (by rw [ats_len]; omega), ats_len]; simp
theorem ats_at_new {m : Nat} (hk : k < m) (h : look (L.take k) (ats L k) (L.getD k []) = none) : (ats L m)[k]? = some (tab L k).length := by
 rw [ats_pre (k := k + 1) hk (by omega), (tab_new h).2, List.getElem?_append_right (by rw [ats_len]; omega), ats_len]; simp
theorem find_in : ∀ {L : List Bs} {a : List Nat} {s : Bs} {p : Nat}, find L a s = some p → p ∈ a
 | x :: L, q :: a, s, p, h => by
  unfold find at h
  split at h
  ·injection h with h
   subst h
   simp
  ·exact List.mem_cons_of_mem _ (find_in h)
 | [], _, _, _, h => by simp [find] at h
 | _ :: _, [], _, _, h => by simp [find] at h
theorem ats_lt : ∀ {k p : Nat}, p ∈ ats L k → p < (tab L k).length
 | 0, _, h => by simp [ats_zero] at h
 | k + 1, p, h => by
  rcases tab_step L k with ⟨q, hq, e1, e2⟩ | ⟨_, e1, e2⟩
  ·rw [e2, List.mem_append] at h
   rw [e1]
   rcases h with h | h
   ·exact ats_lt h
   ·have : p = q := by simpa using h
    subst this
    unfold look at hq
    split at hq
    ·injection hq with hq
     subst hq
     exact tab_pos k
    ·exact ats_lt (find_in hq)
  ·rw [e2, List.mem_append] at h
   rw [e1, List.length_append, List.length_append]
   rcases h with h | h
   ·have := ats_lt h
    omega
   ·have : p = (tab L k).length := by simpa using h
    simp
    omega
theorem find_mem : ∀ {L : List Bs} {a : List Nat} {s : Bs} {p : Nat}, find L a s = some p → ∃ i : Nat, a[i]? = some p ∧ L[i]? = some s
 | x :: L, q :: a, s, p, h => by
  unfold find at h
  split at h
  ·rename_i e
   injection h with h
   subst h; subst e
   exact ⟨0, rfl, rfl⟩
  ·obtain ⟨i, h1, h2⟩ := find_mem h
   exact ⟨i + 1, by simpa using h1, by simpa using h2⟩
 | [], _, _, _, h => by simp [find] at h
 | _ :: _, [], _, _, h => by simp [find] at h
theorem got_at (hz : areN L = true) : ∀ k, k ≤ L.length → ∀ j p, (ats L k)[j]? = some p → p < (tab L k).length ∧ nameAt (tab L k) p = some (L.getD j [])
 | 0, _, _, _, h => by simp [ats_zero] at h
 | k + 1, hk, j, p, h => by
  have hlen := ats_len (L := L) k
  have hs : noZero (L.getD k []) = true := by
   rw [List.getD_eq_getElem?_getD, List.getElem?_eq_getElem (by omega)]
   exact List.all_eq_true.1 hz _ (List.getElem_mem _)
  have keep : ∀ (r : Bs) j p, (ats L k)[j]? = some p → p < (tab L k ++ r).length ∧ nameAt (tab L k ++ r) p = some (L.getD j []) := by
   intro r j p h
   obtain ⟨h1, h2⟩ := got_at hz k (by omega) j p h
   refine ⟨by rw [List.length_append]; omega, ?_⟩
   unfold nameAt at h2 ⊢
   rw [List.drop_append_of_le_length (by omega)]
   exact cut0_append r h2
  rcases tab_step L k with ⟨q, hq, e1, e2⟩ | ⟨hq, e1, e2⟩
  ·rw [e1]
   rw [e2] at h
   have keep0 : ∀ j p, (ats L k)[j]? = some p → p < (tab L k).length ∧ nameAt (tab L k) p = some (L.getD j []) := fun j p h => by simpa using keep [] j p h
   by_cases ej : j < k
   ·exact keep0 j p (by rwa [List.getElem?_append_left (by omega)] at h)
   ·have ejk : j = k := by
     have := (List.getElem?_eq_some_iff.1 h).1
     rw [List.length_append, hlen] at this
     simp at this
     omega
    subst ejk
    rw [List.getElem?_append_right (by omega), hlen] at h
    have hp : q = p := by simpa using h
    subst hp
    unfold look at hq
    split at hq
    ·rename_i hnil
     injection hq with hq
     subst hq
     rw [hnil]
     refine ⟨tab_pos j, ?_⟩
     have hf := tab_first (L := L) j
     unfold nameAt
     rw [List.drop_zero]
     revert hf
     cases tab L j with
     | nil => intro hf; simp at hf
     | cons b r => intro hf; have : b = 0 := by simpa using hf
                   subst this; simp [cut0]
    ·obtain ⟨i, hi, hx⟩ := find_mem hq
     have hij : (L.take j)[i]? = some (L.getD j []) := hx
     have hi2 := keep0 i q hi
     rw [List.getElem?_take] at hij
     split at hij
     ·rw [show L.getD i [] = L.getD j [] from by rw [List.getD_eq_getElem?_getD, hij]; rfl] at hi2
      exact hi2
     ·cases hij
  ·rw [e1]
   rw [e2] at h
   by_cases ej : j < k
   ·exact keep _ j p (by rwa [List.getElem?_append_left (by omega)] at h)
   ·have ejk : j = k := by
     have := (List.getElem?_eq_some_iff.1 h).1
     rw [List.length_append, hlen] at this
     simp at this
     omega
    subst ejk
    rw [List.getElem?_append_right (by omega), hlen] at h
    have hp : (tab L j).length = p := by simpa using h
    subst hp
    refine ⟨by rw [List.length_append, List.length_append]; simp, ?_⟩
    unfold nameAt
    rw [List.drop_append_of_le_length (Nat.le_refl _), List.drop_length, List.nil_append]
    exact cut0_name [] hs
end
end Go.Proofs.YtfbimboemahhhaaGreatDoor
namespace Go.Proofs.YtfbimboemahhhaaGreatDoor
open Go.RowKit
def bstr (s : Bs) : ByteArray := ⟨s.toArray⟩
theorem bstr_size (s : Bs) : (bstr s).size = s.length := by simp [bstr, ByteArray.size]
theorem bstr_list (s : Bs) : (bstr s).data.toList = s := by simp [bstr]
theorem bstr_of (s : ByteArray) : bstr s.data.toList = s := by cases s; simp [bstr]
theorem bstr_toList (s : Bs) : (bstr s).toList = s := by rw [ByteArray.toList_eq, bstr_list]
theorem bstr_at {S : ByteArray} {s : Bs} (hS : S = bstr s) (m : Nat) (h : m < S.size) : s[m]? = some S[m] := by
 subst hS
 have h' : m < s.length := by rw [← bstr_size]; exact h
 rw [List.getElem?_eq_getElem h']
 rfl
theorem bstr_eq {S S' : ByteArray} {s s' : Bs} (hS : S = bstr s) (hS' : S' = bstr s') (h : s = s') : (S.toList == S'.toList) = true := by rw [hS, hS', bstr_toList, bstr_toList, h]; exact beq_self_eq_true _
theorem bstr_ne {S S' : ByteArray} {s s' : Bs} (hS : S = bstr s) (hS' : S' = bstr s') (h : s ≠ s') : (S.toList == S'.toList) = false := by rw [hS, hS', bstr_toList, bstr_toList]; exact beq_eq_false_iff_ne.2 h
structure SS (w : World) (B : Nat) (A : Option Addr) (n c : Nat) (L : List Bs) : Prop where
 len : n = L.length
 cap : n ≤ c
 max : c ≤ maxLen
 each : ∀ s ∈ L, s.length ≤ maxLen
 pos : 0 < n → ∃ b off, A = some ⟨b, off, none⟩ ∧ b < B ∧ ∀ j, j < L.length → w.cell? ⟨b, off + j, none⟩ = some (.string (bstr (L.getD j [])))
section
variable {w w' : World} {B : Nat} {A : Option Addr} {n c : Nat} {L : List Bs}
theorem SS.keep (h : SS w B A n c L) (hk : ∀ p : Addr, p.block < B → w'.cell? p = w.cell? p) : SS w' B A n c L :=
 ⟨h.len, h.cap, h.max, h.each, fun hn => by
  obtain ⟨b, off, e, hb, hc⟩ := h.pos hn
  exact ⟨b, off, e, hb, fun j hj => (hk ⟨b, off + j, none⟩ hb).trans (hc j hj)⟩⟩
theorem SS.belowAt {B0 : Nat} (h : SS w B A n c L) (hb : Below B0 w w') (hB : B ≤ B0) : SS w' B A n c L := h.keep fun _ hp => hb.cell (by omega)
theorem SS.more {B' : Nat} (h : SS w B A n c L) (hB : B ≤ B') : SS w B' A n c L :=
 ⟨h.len, h.cap, h.max, h.each, fun hn => by
  obtain ⟨b, off, e, hb, hc⟩ := h.pos hn
  exact ⟨b, off, e, by omega, hc⟩⟩
theorem SS.grow (h : SS w w.heap.size A n c L) (hg : Grow w w') : SS w' w'.heap.size A n c L := (h.belowAt hg (Nat.le_refl _)).more hg.size
theorem SS.size (h : SS w B A n c L) (j : Nat) : (L.getD j []).length ≤ maxLen := by
 by_cases hj : j < L.length
 ·rw [List.getD_eq_getElem?_getD, List.getElem?_eq_getElem hj]
  exact h.each _ (List.getElem_mem hj)
 ·rw [List.getD_eq_getElem?_getD, List.getElem?_eq_none (by omega)]
  exact Nat.zero_le _
end
theorem all_of_getD {L : List Bs} {p : Bs → Prop} (h : ∀ j, j < L.length → p (L.getD j [])) : ∀ s ∈ L, p s := by
 intro s hs
 obtain ⟨j, hj⟩ := List.getElem?_of_mem hs
 have h1 := (List.getElem?_eq_some_iff.1 hj).1
 have := h j h1
 rw [List.getD_eq_getElem?_getD, hj] at this
 exact this
theorem getD_mem {L : List Bs} {j : Nat} (hj : j < L.length) : L.getD j [] ∈ L := by
 rw [List.getD_eq_getElem?_getD, List.getElem?_eq_getElem hj]
 exact List.getElem_mem hj
end Go.Proofs.YtfbimboemahhhaaGreatDoor
namespace Go.Proofs.YtfbimboemahhhaaGreatDoor
def num : List UInt8 → Nat
 | [] => 0
 | b :: r => b.toNat + 256 * num r
def low : Nat → Nat → List UInt8
 | 0, _ => []
 | n + 1, v => UInt8.ofNat v :: low n (v / 256)
def ord (big : Bool) (l : List UInt8) : List UInt8 := if big then l.reverse else l
def getB (l : List UInt8) (big : Bool) : Nat := num (ord big l)
def putB (v n : Nat) (big : Bool) : List UInt8 := ord big (low n v)
def rank (i n : Nat) (big : Bool) : Nat := if big then n - 1 - i else i
theorem length_low : ∀ n v : Nat, (low n v).length = n
 | 0, _ => rfl
 | n + 1, v => by simp [low, length_low n]
theorem length_ord (big : Bool) (l : List UInt8) : (ord big l).length = l.length := by cases big <;> simp [ord]
theorem length_putB (v n : Nat) (big : Bool) : (putB v n big).length = n := by simp [putB, length_ord, length_low]
theorem toNat_ofNat8 (v : Nat) : (UInt8.ofNat v).toNat = v % 256 := by simp [UInt8.toNat_ofNat']
theorem num_lt : ∀ l : List UInt8, num l < 256 ^ l.length
 | [] => by simp [num]
 | b :: r => by
  have h1 := num_lt r
  have h2 : b.toNat < 256 := b.toNat_lt
  simp only [num, List.length_cons, Nat.pow_succ]
  omega
theorem num_low : ∀ n v : Nat, num (low n v) = v % 256 ^ n
 | 0, v => by simp [low, num, Nat.mod_one]
 | n + 1, v => by
  simp only [low, num, num_low n, toNat_ofNat8]
  rw [Nat.pow_succ, Nat.mul_comm (256 ^ n) 256, Nat.mod_mul]
theorem num_append : ∀ a b : List UInt8, num (a ++ b) = num a + 256 ^ a.length * num b
 | [], b => by simp [num]
 | x :: a, b => by
  simp only [List.cons_append, num, num_append a b, List.length_cons, Nat.pow_succ, Nat.mul_add]
  rw [Nat.mul_comm (256 ^ a.length) 256, Nat.mul_assoc]
  omega
theorem low_at : ∀ (n v i : Nat), i < n → (low n v)[i]? = some (UInt8.ofNat (v / 256 ^ i))
 | 0, _, _, h => by omega
 | n + 1, v, 0, _ => by simp [low]
 | n + 1, v, i + 1, h => by
  rw [low, List.getElem?_cons_succ, low_at n (v / 256) i (by omega), Nat.div_div_eq_div_mul, Nat.pow_succ, Nat.mul_comm 256]
theorem putB_at (v n i : Nat) (big : Bool) (h : i < n) : (putB v n big)[i]? = some (UInt8.ofNat (v / 256 ^ rank i n big)) := by
 cases big
 ·simp [putB, ord, rank, low_at n v i h]
 ·simp only [putB, ord, rank, if_true]
  rw [List.getElem?_reverse (by rw [length_low]; exact h), length_low, low_at n v _ (by omega)]
theorem rank_lt (i n : Nat) (big : Bool) (h : i < n) : rank i n big < n := by unfold rank; split <;> omega
theorem getB_putB (v n : Nat) (big : Bool) : getB (putB v n big) big = v % 256 ^ n := by
 cases big <;> simp [getB, putB, ord, num_low]
theorem getB_lt (l : List UInt8) (big : Bool) : getB l big < 256 ^ l.length := by
 have := num_lt (ord big l)
 rwa [length_ord] at this
def part (l : List UInt8) (big : Bool) (k : Nat) : Nat := if big then 256 ^ (l.length - k) * num (l.take k).reverse else num (l.take k)
theorem part_zero (l : List UInt8) (big : Bool) : part l big 0 = 0 := by cases big <;> simp [part, num]
theorem part_all (l : List UInt8) (big : Bool) : part l big l.length = getB l big := by
 cases big <;> simp [part, getB, ord]
theorem pow256 (n : Nat) : 256 ^ n = 2 ^ (8 * n) := by rw [Nat.pow_mul]
theorem or_low (x y i : Nat) (hx : x < 2 ^ i) (hy : y % 2 ^ i = 0) : x ||| y = x + y := by
 have e : y = 2 ^ i * (y / 2 ^ i) := by have := Nat.div_add_mod y (2 ^ i); omega
 rw [Nat.or_comm, e, ← Nat.two_pow_add_eq_or_of_lt hx]; omega
theorem take_snoc' (l : List UInt8) (k : Nat) (h : k < l.length) : l.take (k + 1) = l.take k ++ [l[k]] := by
 rw [List.take_succ_eq_append_getElem h]
theorem part_succ (l : List UInt8) (big : Bool) (k : Nat) (h : k < l.length) :
  part l big (k + 1) = part l big k ||| (l[k].toNat * 2 ^ (8 * rank k l.length big)) := by
 have hb : l[k].toNat < 256 := l[k].toNat_lt
 cases big
 ·have e : (l.take k).length = k := by simp; omega
  have hlt := num_lt (l.take k)
  rw [e, pow256] at hlt
  simp only [part, rank, Bool.false_eq_true, if_false]
  rw [or_low _ _ (8 * k) hlt (Nat.mul_mod_left _ _), take_snoc' l k h, num_append, e, pow256]
  simp [num, Nat.mul_comm]
 ·have e : l.length - k = l.length - 1 - k + 1 := by omega
  have hsmall : l[k].toNat * 2 ^ (8 * (l.length - 1 - k)) < 2 ^ (8 * (l.length - k)) := by
   rw [e, Nat.mul_add, Nat.pow_add, Nat.mul_comm]
   exact Nat.mul_lt_mul_of_pos_left hb (Nat.two_pow_pos _)
  simp only [part, rank, if_true]
  rw [Nat.or_comm, or_low _ _ (8 * (l.length - k)) hsmall (by rw [pow256]; exact Nat.mul_mod_right _ _), take_snoc' l k h, List.reverse_append]
  simp only [List.reverse_cons, List.reverse_nil, List.nil_append, List.singleton_append, num]
  rw [show l.length - (k + 1) = l.length - 1 - k by omega, pow256, pow256, e, Nat.mul_add 8, Nat.pow_add, Nat.mul_add, ← Nat.mul_assoc, Nat.mul_comm (l[k].toNat)]
theorem part_lt (l : List UInt8) (big : Bool) (k : Nat) (h : k ≤ l.length) : part l big k < 256 ^ l.length := by
 cases big
 ·have := num_lt (l.take k)
  simp only [part, Bool.false_eq_true, if_false]
  exact Nat.lt_of_lt_of_le this (Nat.pow_le_pow_right (by omega) (by simp; omega))
 ·have := num_lt (l.take k).reverse
  simp only [part, if_true]
  rw [List.length_reverse, List.length_take, Nat.min_eq_left h] at this
  have e : (256 : Nat) ^ l.length = 256 ^ (l.length - k) * 256 ^ k := by rw [← Nat.pow_add]; congr 1; omega
  rw [e]
  exact Nat.mul_lt_mul_of_pos_left this (Nat.pow_pos (by omega))
end Go.Proofs.YtfbimboemahhhaaGreatDoor
