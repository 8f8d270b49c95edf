/-
  Several texts in one: Contracts of span; How many ones a number of 64 bits has, as math/bits; Names in a table, as plain lists of bytes; A slice of strings that reads as a list of names; Slices of numbers; Small words that the layers behind head share; Models, as plain data.
-/
import Derived.Test.YtfbimboemahhhaaRows
import Derived.Test.YtfbimboemahhhaaSbG1
import Derived.Lib.Bytealg
import Derived.WalkKit
import Derived.Lib.Hide
import Derived.Laws.Strings
import Derived.Maps.AppendAt
namespace Go.Proofs.Ytfbimboemahhhaa
open Go.Lib (hid)
open Go.RowKit
def lastN (a n : Nat) : Nat := min (a + n - 1) 18446744073709551615
def belowN (a n v : Nat) : Bool := if n = 0 then decide (a ≤ v) else decide (lastN a n < v)
theorem last_any (a n : Nat) (w : World) (ha : a < 18446744073709551616) (hn : n < 18446744073709551616) (h0 : 0 < n) :
  Calls Try.prog 79 #[.agg #[.int .u64 a, .int .u64 n]] w fun e w' => e = .returned (.int .u64 (lastN a n : Nat)) ∧ Grow w w' := by
 have z1 : IntKind.u64.wrap ((n : Int) - 1) = (n : Int) - 1 := by rw [IntKind.wrap_u64]; omega
 have z2 : IntKind.u64.wrap (18446744073709551615 - (a : Int)) = 18446744073709551615 - (a : Int) := by rw [IntKind.wrap_u64]; omega
 by_cases h : (n : Int) - 1 ≤ 18446744073709551615 - (a : Int)
 ·have E := hid (show (lastN a n : Int) = (a : Int) + (n - 1) by unfold lastN; omega)
  go_enter Try.func79, Try.ntmps79
  go_wp2
  go_ret
  exact ⟨ret_int E.out.symm, Grow.of_alloc _ _⟩
 ·have E := hid (show (lastN a n : Int) = (a : Int) + (18446744073709551615 - (a : Int)) by unfold lastN; omega)
  go_enter Try.func79, Try.ntmps79
  go_wp2
  go_ret
  exact ⟨ret_int E.out.symm, Grow.of_alloc _ _⟩
theorem below_any (a n v : Nat) (w : World) (ha : a < 18446744073709551616) (hn : n < 18446744073709551616) :
  Calls Try.prog 69 #[.agg #[.int .u64 a, .int .u64 n], .int .u64 v] w fun e w' => e = .returned (.bool (belowN a n v)) ∧ Grow w w' := by
 by_cases n0 : n = 0
 ·subst n0
  have E := hid (show belowN a 0 v = decide (a ≤ v) by simp [belowN])
  go_enter Try.func69, Try.ntmps69
  go_wp2
  go_ret
  exact ⟨ret_bool (by simp [E.out]), Grow.of_alloc _ _⟩
 ·have E := hid (show belowN a n v = decide (lastN a n < v) by simp [belowN, n0])
  have d1 : ((n : Int) == 0) = false := by simp [n0]
  have hn0 := hid (Nat.pos_of_ne_zero n0)
  clear n0
  go_enter Try.func69, Try.ntmps69
  go_wp2_with (go_at_call 79; refine (last_any _ _ _ ha hn hn0.out).mono ?_; rintro e w' ⟨rfl, hb⟩; have HB := hid hb; clear hb)
  go_ret
  exact ⟨ret_bool (by simp [E.out]), (Grow.of_alloc _ _).trans HB.out⟩
def spC (x : Nat × Nat) : Array Value := #[.int .u64 (x.1 : Nat), .int .u64 (x.2 : Nat)]
def belowAt (l : List (Nat × Nat)) (i k : Nat) : Bool := belowN (l.getD i (0, 0)).1 (l.getD i (0, 0)).2 (l.getD k (0, 0)).1
def Up (l : List (Nat × Nat)) : Prop := ∀ k, 0 < k → k < l.length → belowAt l (k - 1) k = true
def rises (l : List (Nat × Nat)) : Bool := (List.range l.length).all fun k => decide (k = 0) || belowAt l (k - 1) k
theorem rises_iff (l : List (Nat × Nat)) : rises l = true ↔ Up l := by
 unfold rises Up
 rw [List.all_eq_true]
 constructor
 ·intro h k h0 hk
  have := h k (by simpa using hk)
  rw [Bool.or_eq_true, decide_eq_true_iff] at this
  rcases this with h | h
  ·omega
  ·exact h
 ·intro h k hk
  rw [Bool.or_eq_true, decide_eq_true_iff]
  rcases Nat.eq_zero_or_pos k with h0 | h0
  ·exact .inl h0
  ·exact .inr (h k h0 (by simpa using hk))
theorem up_no {l : List (Nat × Nat)} {k : Nat} (h0 : 0 < k) (hk : k < l.length) (h : belowAt l (k - 1) k = false) : rises l = false := by
 cases hr : rises l
 ·rfl
 ·have := (rises_iff l).1 hr k h0 hk
  rw [h] at this
  cases this
theorem up_step {l : List (Nat × Nat)} {k : Nat} (hu : ∀ j, 0 < j → j < k → belowAt l (j - 1) j = true) (h : belowAt l (k - 1) k = true) : ∀ j, 0 < j → j < k + 1 → belowAt l (j - 1) j = true := fun j h1 h2 => by
 rcases Nat.lt_or_ge j k with h3 | h3
 ·exact hu j h1 h3
 ·obtain rfl : j = k := by omega
  exact h
set_option maxHeartbeats 800000 in
theorem rising_any (A : Option Addr) (n c : Nat) (l : List (Nat × Nat)) (w : World) (h : ZS w w.heap.size 2 A n c (l.map spC)) (hs : ∀ x ∈ l, x.1 < 18446744073709551616 ∧ x.2 < 18446744073709551616) :
  Calls Try.prog 56 #[.slice A n c] w fun e w' => e = .returned (.bool (rises l)) ∧ Grow w w' := by
 have hc := h.cap
 have hm := h.max
 have hlen : n = l.length := by have := h.len; simpa using this
 have HL := hid hlen
 unfold maxLen at hm
 by_cases hn : n ≤ 1
 ·have HU := hid (show rises l = true from (rises_iff l).2 (by intro k h1 h2; rw [← hlen] at h2; omega))
  clear h hlen
  go_enter Try.func56, Try.ntmps56
  go_wp2
  go_loop [3] (fun i => i = .int .i64 1) (fun _ => 0)
  case atStart => rfl
  case round =>
   obtain rfl := hrel
   go_wp2
   go_ret
   exact ⟨ret_bool HU.out.symm, Grow.refl _⟩
 ·obtain ⟨b, off, rfl, hb, hcell⟩ := h.pos (by omega)
  have hat : ∀ j (_ : j < l.length), w.cell? ⟨b, off + j * 2, none⟩ = some (.int .u64 ((l.getD j (0, 0)).1 : Nat)) ∧ w.cell? ⟨b, off + j * 2 + 1, none⟩ = some (.int .u64 ((l.getD j (0, 0)).2 : Nat)) := by
   intro j hj
   have e : l.getD j (0, 0) = l[j] := by simp [List.getD_eq_getElem?_getD, hj]
   rw [e]
   exact ⟨hcell j (by simpa using hj) 0 _ (by simp [spC]), hcell j (by simpa using hj) 1 _ (by simp [spC])⟩
  have hsm : ∀ j (_ : j < l.length), (l.getD j (0, 0)).1 < 18446744073709551616 ∧ (l.getD j (0, 0)).2 < 18446744073709551616 := by
   intro j hj
   have e : l.getD j (0, 0) = l[j] := by simp [List.getD_eq_getElem?_getD, hj]
   rw [e]
   exact hs _ (List.getElem_mem hj)
  have HC := hid hat
  have HS := hid hsm
  have HB := hid (show b < w.heap.size by omega)
  clear h hcell hb hat hsm hs hlen
  go_enter Try.func56, Try.ntmps56
  go_wp2
  go_loopw [3] (fun i wr => ∃ k : Nat, 0 < k ∧ k ≤ n ∧ i = .int .i64 k ∧ (∀ j, 0 < j → j < k → belowAt l (j - 1) j = true) ∧ Grow w wr) (fun i _ => n - (intOf i).toNat)
  case atStart => exact ⟨1, by omega, by omega, rfl, fun j h1 h2 => by omega, Grow.refl _⟩
  case round =>
   obtain ⟨k, h0, hk, rfl, hup, hg⟩ := hrel
   have HG := hid hg
   have HU := hid hup
   clear hg hup
   by_cases hlt : k < n
   ·obtain ⟨x, hx⟩ : ∃ x, x = l.getD (k - 1) (0, 0) := ⟨_, rfl⟩
    obtain ⟨y, hy⟩ : ∃ y, y = l.getD k (0, 0) := ⟨_, rfl⟩
    have hkl : k < l.length := by rw [← HL.out]; exact hlt
    have c0 : ∀ W, Grow wr.drew W → W.cell? ⟨b, off + (k - 1) * 2, none⟩ = some (.int .u64 (x.1 : Nat)) := fun W hW => by rw [Below.cell (HG.out.trans ((Grow.of_drew _).trans hW)) HB.out, hx]; exact (HC.out (k - 1) (by omega)).1
    have c1 : ∀ W, Grow wr.drew W → W.cell? ⟨b, off + (k - 1) * 2 + 1, none⟩ = some (.int .u64 (x.2 : Nat)) := fun W hW => by rw [Below.cell (HG.out.trans ((Grow.of_drew _).trans hW)) HB.out, hx]; exact (HC.out (k - 1) (by omega)).2
    have c2 : ∀ W, Grow wr.drew W → W.cell? ⟨b, off + k * 2, none⟩ = some (.int .u64 (y.1 : Nat)) := fun W hW => by rw [Below.cell (HG.out.trans ((Grow.of_drew _).trans hW)) HB.out, hy]; exact (HC.out k (by omega)).1
    have HE := hid (show belowAt l (k - 1) k = belowN x.1 x.2 y.1 by rw [hx, hy]; rfl)
    have sx := HS.out (k - 1) (by omega)
    rw [← hx] at sx
    clear hx hy
    go_wp2_with fail
    refine wp_region_chain [(0, true), (1, true), (2, true), (3, true), (4, true), (5, true), (6, true), (7, true), (8, true), (9, true), (10, false), (11, true)] (by kernel_rfl) (by kernel_rfl) (by kernel_rfl) ?_
    have HD : Hid (Grow w wr.drew) := HG.out.trans (Grow.of_drew _)
    generalize wr.drew = w1 at HD c0 c1 c2 ⊢
    have z1 : IntKind.i64.wrap ((k : Int) - 1) = (k : Int) - 1 := IntWalk.i64_in _ (by omega)
    have z2 : (1 : Int) ≤ (k : Int) := by omega
    have z3 : ((k : Int) - 1).toNat = k - 1 := by omega
    have z4 : (k : Int) - 1 < (n : Int) := by omega
    repeat ((first | (refine chain_take rfl (by rfl) ?_ (fun W hG => ?_) ?_; rotate_left; (go_simp; rfl)) | refine chain_skip rfl (by rfl) ?_); simp only [Act.put, List.setIfInBounds_toArray, List.set_cons_zero, List.set_cons_succ])
    refine chain_only rfl (by rfl) (fun K hK => ?_)
    go_simp
    refine (below_any _ _ _ _ sx.1 sx.2).mono ?_
    rintro e w2 ⟨rfl, hb⟩
    refine hK _ _ hb ?_
    have HF : Hid (Grow w w2) := HD.out.trans hb
    clear hK K hb z1 z2 z3 z4 c0 c1 c2 sx
    cases hr : belowN x.1 x.2 y.1
    ·rw [hr] at HE
     clear hr
     repeat ((first | (refine chain_take rfl (by rfl) ?_ (fun W hG => ?_) ?_; rotate_left; (go_simp; rfl)) | refine chain_skip rfl (by rfl) ?_); simp only [Act.put, List.setIfInBounds_toArray, List.set_cons_zero, List.set_cons_succ])
     refine chain_done ?_
     go_wp2
     go_ret
     exact ⟨ret_bool (up_no h0 hkl HE.out).symm, HF.out⟩
    ·rw [hr] at HE
     clear hr
     repeat ((first | (refine chain_take rfl (by rfl) ?_ (fun W hG => ?_) ?_; rotate_left; (go_simp; rfl)) | refine chain_skip rfl (by rfl) ?_); simp only [Act.put, List.setIfInBounds_toArray, List.set_cons_zero, List.set_cons_succ])
     refine chain_done ?_
     go_wp2
     go_roundw
     case rel => exact ⟨k + 1, by omega, by omega, by go_num, up_step HU.out HE.out, HF.out⟩
     case measure => simp [intOf]; omega
   ·have HU2 := hid (show rises l = true from (rises_iff l).2 fun j h1 h2 => HU.out j h1 (by have := HL.out; omega))
    go_wp2
    go_ret
    exact ⟨ret_bool HU2.out.symm, HG.out⟩
end Go.Proofs.Ytfbimboemahhhaa
namespace Go.Proofs.Ytfbimboemahhhaa
open Go.Lib (hid)
def onesF : Nat → Nat → Nat
 | 0, _ => 0
 | f + 1, x => x % 2 + onesF f (x / 2)
def ones (x : Nat) : Nat := onesF 64 x
theorem and_split (k a m s : Nat) (hs : s < 2 ^ k) : a &&& (2 ^ k * m + s) = 2 ^ k * ((a / 2 ^ k) &&& m) + ((a % 2 ^ k) &&& s) := by
 have h1 : (a % 2 ^ k) &&& s < 2 ^ k := Nat.and_lt_two_pow _ hs
 have h2 : a % 2 ^ k < 2 ^ k := Nat.mod_lt _ (Nat.two_pow_pos k)
 apply Nat.eq_of_testBit_eq
 intro i
 rw [Nat.testBit_and, Nat.testBit_two_pow_mul_add _ hs, Nat.testBit_two_pow_mul_add _ h1]
 by_cases h : i < k
 ·rw [if_pos h, if_pos h, Nat.testBit_and, Nat.testBit_mod_two_pow]
  simp [h]
 ·rw [if_neg h, if_neg h, Nat.testBit_and, Nat.testBit_div_two_pow]
  have : i - k + k = i := by omega
  rw [this]
def mask (m : Nat) : Nat → Nat
 | 0 => 0
 | n + 1 => 256 * mask m n + m
def bytesF (f : Nat → Nat) : Nat → Nat → Nat
 | 0, _ => 0
 | n + 1, x => 256 * bytesF f n (x / 256) + f (x % 256)
def s1 (r : Nat) : Nat := ((r / 2) &&& 85) + (r &&& 85)
def s2 (r : Nat) : Nat := ((r / 4) &&& 51) + (r &&& 51)
theorem s1_lt : ∀ r : Fin 256, s1 r.val ≤ 170 := by decide +kernel
theorem s2_le : ∀ r : Fin 256, s2 (s1 r.val) % 16 ≤ 4 ∧ s2 (s1 r.val) / 16 ≤ 4 := by decide +kernel
theorem s3_eq : ∀ r : Fin 256, s2 (s1 r.val) % 16 + s2 (s1 r.val) / 16 = onesF 8 r.val := by decide +kernel
theorem s1_and (x : Nat) : ((x / 2) % 256) &&& 85 = ((x % 256) / 2) &&& 85 := by
 have h : ∀ r : Fin 512, ((r.val / 2) % 256) &&& 85 = ((r.val % 256) / 2) &&& 85 := by decide +kernel
 have := h ⟨x % 512, Nat.mod_lt _ (by decide)⟩
 simp only at this
 have e1 : x % 512 / 2 % 256 = x / 2 % 256 := by omega
 have e2 : x % 512 % 256 = x % 256 := by omega
 rw [e1, e2] at this
 exact this
theorem s2_and (x : Nat) : ((x / 4) % 256) &&& 51 = ((x % 256) / 4) &&& 51 := by
 have h : ∀ r : Fin 1024, ((r.val / 4) % 256) &&& 51 = ((r.val % 256) / 4) &&& 51 := by decide +kernel
 have := h ⟨x % 1024, Nat.mod_lt _ (by decide)⟩
 simp only at this
 have e1 : x % 1024 / 4 % 256 = x / 4 % 256 := by omega
 have e2 : x % 1024 % 256 = x % 256 := by omega
 rw [e1, e2] at this
 exact this
theorem step1 : ∀ n x, ((x / 2) &&& mask 85 n) + (x &&& mask 85 n) = bytesF s1 n x
 | 0, x => by simp [mask, bytesF]
 | n + 1, x => by
  have ih := step1 n (x / 256)
  have a1 := and_split 8 (x / 2) (mask 85 n) 85 (by decide)
  have a2 := and_split 8 x (mask 85 n) 85 (by decide)
  have e : x / 2 / 2 ^ 8 = x / 256 / 2 := by omega
  rw [e] at a1
  have e2 := s1_and x
  rw [show (2 : Nat) ^ 8 = 256 from rfl] at a1 a2
  rw [mask, bytesF, a1, a2, ← ih, s1, e2]
  omega
theorem step2 : ∀ n x, ((x / 4) &&& mask 51 n) + (x &&& mask 51 n) = bytesF s2 n x
 | 0, x => by simp [mask, bytesF]
 | n + 1, x => by
  have ih := step2 n (x / 256)
  have a1 := and_split 8 (x / 4) (mask 51 n) 51 (by decide)
  have a2 := and_split 8 x (mask 51 n) 51 (by decide)
  have e : x / 4 / 2 ^ 8 = x / 256 / 4 := by omega
  rw [e] at a1
  have e2 := s2_and x
  rw [show (2 : Nat) ^ 8 = 256 from rfl] at a1 a2
  rw [mask, bytesF, a1, a2, ← ih, s2, e2]
  omega
theorem bytesF_div (f : Nat → Nat) (hf : ∀ r, r < 256 → f r < 256) (n x : Nat) : bytesF f (n + 1) x / 256 = bytesF f n (x / 256) ∧ bytesF f (n + 1) x % 256 = f (x % 256) := by
 have := hf (x % 256) (Nat.mod_lt _ (by decide))
 rw [bytesF]
 omega
theorem bytesF_comp (f g : Nat → Nat) (hf : ∀ r, r < 256 → f r < 256) : ∀ n x, bytesF g n (bytesF f n x) = bytesF (fun r => g (f r)) n x
 | 0, x => rfl
 | n + 1, x => by
  obtain ⟨h1, h2⟩ := bytesF_div f hf n x
  have ih := bytesF_comp f g hf n (x / 256)
  show 256 * bytesF g n (bytesF f (n + 1) x / 256) + g (bytesF f (n + 1) x % 256) = 256 * bytesF (fun r => g (f r)) n (x / 256) + g (f (x % 256))
  rw [h1, h2, ih]
def s21 (r : Nat) : Nat := s2 (s1 r)
theorem s1_lt' (r : Nat) (h : r < 256) : s1 r < 256 := by have := s1_lt ⟨r, h⟩; simp only at this; omega
theorem s21_le (r : Nat) (h : r < 256) : s21 r % 16 ≤ 4 ∧ s21 r / 16 ≤ 4 := s2_le ⟨r, h⟩
theorem s21_eq (r : Nat) (h : r < 256) : s21 r % 16 + s21 r / 16 = onesF 8 r := s3_eq ⟨r, h⟩
theorem fifteen (y : Nat) : y &&& 15 = y % 16 := Nat.and_two_pow_sub_one_eq_mod y 4
theorem step3 : ∀ n x, (bytesF s21 n x / 16 + bytesF s21 n x) &&& mask 15 n = bytesF (fun r => onesF 8 r) n x
 | 0, x => by simp [mask, bytesF]
 | n + 1, x => by
  have ih := step3 n (x / 256)
  have hr : x % 256 < 256 := Nat.mod_lt _ (by decide)
  have hr2 : x / 256 % 256 < 256 := Nat.mod_lt _ (by decide)
  obtain ⟨l1, l2⟩ := s21_le _ hr
  have e1 := s21_eq _ hr
  obtain ⟨l3, -⟩ := s21_le _ hr2
  have hy : bytesF s21 n (x / 256) % 16 ≤ 4 := by
   cases n with
   | zero => simp [bytesF]
   | succ m => rw [bytesF]; omega
  have a1 := and_split 8 (bytesF s21 (n + 1) x / 16 + bytesF s21 (n + 1) x) (mask 15 n) 15 (by decide)
  rw [show (2 : Nat) ^ 8 = 256 from rfl] at a1
  have b1 : bytesF s21 (n + 1) x = 256 * bytesF s21 n (x / 256) + s21 (x % 256) := rfl
  have b2 : bytesF (fun r => onesF 8 r) (n + 1) x = 256 * bytesF (fun r => onesF 8 r) n (x / 256) + onesF 8 (x % 256) := rfl
  rw [mask, b2, a1]
  have e2 : (bytesF s21 (n + 1) x / 16 + bytesF s21 (n + 1) x) / 256 = bytesF s21 n (x / 256) / 16 + bytesF s21 n (x / 256) := by omega
  rw [e2, ih, fifteen]
  congr 1
  omega
theorem onesF_le : ∀ f x, onesF f x ≤ f
 | 0, _ => Nat.le_refl _
 | f + 1, x => by have := onesF_le f (x / 2); rw [onesF]; omega
theorem onesF_add : ∀ f g x, onesF (f + g) x = onesF f x + onesF g (x / 2 ^ f)
 | 0, g, x => by simp [onesF]
 | f + 1, g, x => by
  have := onesF_add f g (x / 2)
  rw [show f + 1 + g = f + g + 1 by omega, onesF, this, onesF, Nat.div_div_eq_div_mul, Nat.pow_succ, Nat.mul_comm 2 (2 ^ f)]
  omega
theorem onesF_mod : ∀ f x, onesF f (x % 2 ^ f) = onesF f x
 | 0, _ => rfl
 | f + 1, x => by
  have ih := onesF_mod f (x / 2)
  have e1 : x % 2 ^ (f + 1) % 2 = x % 2 := Nat.mod_mod_of_dvd _ ⟨2 ^ f, by rw [Nat.pow_succ, Nat.mul_comm]⟩
  have e2 : x % 2 ^ (f + 1) / 2 = x / 2 % 2 ^ f := by rw [Nat.pow_succ, Nat.mul_comm, Nat.mod_mul_right_div_self]
  rw [onesF, onesF, e1, e2, ih]
theorem bytesF_bit (x : Nat) : ∃ c0 c1 c2 c3 c4 c5 c6 c7 : Nat, c0 ≤ 8 ∧ c1 ≤ 8 ∧ c2 ≤ 8 ∧ c3 ≤ 8 ∧ c4 ≤ 8 ∧ c5 ≤ 8 ∧ c6 ≤ 8 ∧ c7 ≤ 8 ∧
  bytesF (fun r => onesF 8 r) 8 x = c0 + 256 * c1 + 65536 * c2 + 16777216 * c3 + 4294967296 * c4 + 1099511627776 * c5 + 281474976710656 * c6 + 72057594037927936 * c7 ∧ ones x = c0 + c1 + c2 + c3 + c4 + c5 + c6 + c7 := by
 have e : ∀ y, onesF 8 (y % 256) = onesF 8 y := onesF_mod 8
 have s : ∀ g y, onesF (8 + g) y = onesF 8 y + onesF g (y / 256) := fun g y => onesF_add 8 g y
 refine ⟨onesF 8 x, onesF 8 (x / 256), onesF 8 (x / 256 / 256), onesF 8 (x / 256 / 256 / 256), onesF 8 (x / 256 / 256 / 256 / 256), onesF 8 (x / 256 / 256 / 256 / 256 / 256), onesF 8 (x / 256 / 256 / 256 / 256 / 256 / 256), onesF 8 (x / 256 / 256 / 256 / 256 / 256 / 256 / 256),
  onesF_le _ _, onesF_le _ _, onesF_le _ _, onesF_le _ _, onesF_le _ _, onesF_le _ _, onesF_le _ _, onesF_le _ _, ?_, ?_⟩
 ·simp only [bytesF, e]
  omega
 ·unfold ones
  rw [show (64 : Nat) = 8 + (8 + (8 + (8 + (8 + (8 + (8 + (8 + 0))))))) from rfl]
  rw [s, s, s, s, s, s, s, s]
  simp only [onesF]
  omega
theorem div_of (q r k n : Nat) (h : n = r + k * q) (hr : r < k) : n / k = q := by
 subst h
 rw [Nat.add_mul_div_left _ _ (by omega), Nat.div_eq_of_lt hr, Nat.zero_add]
theorem fold8 (c0 c1 c2 c3 c4 c5 c6 c7 : Nat) (k0 : c0 ≤ 8) (k1 : c1 ≤ 8) (k2 : c2 ≤ 8) (k3 : c3 ≤ 8) (k4 : c4 ≤ 8) (k5 : c5 ≤ 8) (k6 : c6 ≤ 8) (k7 : c7 ≤ 8) :
  ∃ d e f : Nat, (c0 + 256 * c1 + 65536 * c2 + 16777216 * c3 + 4294967296 * c4 + 1099511627776 * c5 + 281474976710656 * c6 + 72057594037927936 * c7) + (c0 + 256 * c1 + 65536 * c2 + 16777216 * c3 + 4294967296 * c4 + 1099511627776 * c5 + 281474976710656 * c6 + 72057594037927936 * c7) / 256 = d ∧ d + d / 65536 = e ∧ e + e / 4294967296 = f ∧ f % 128 = c0 + c1 + c2 + c3 + c4 + c5 + c6 + c7 ∧ d < 2305843009213693952 ∧ e < 2305843009213693952 ∧ f < 2305843009213693952 := by
 refine ⟨(c0 + c1) + 256 * (c1 + c2) + 65536 * (c2 + c3) + 16777216 * (c3 + c4) + 4294967296 * (c4 + c5) + 1099511627776 * (c5 + c6) + 281474976710656 * (c6 + c7) + 72057594037927936 * c7, (c0 + c1 + c2 + c3) + 256 * (c1 + c2 + c3 + c4) + 65536 * (c2 + c3 + c4 + c5) + 16777216 * (c3 + c4 + c5 + c6) + 4294967296 * (c4 + c5 + c6 + c7) + 1099511627776 * (c5 + c6 + c7) + 281474976710656 * (c6 + c7) + 72057594037927936 * c7, (c0 + c1 + c2 + c3 + c4 + c5 + c6 + c7) + 128 * (2 * ((c1 + c2 + c3 + c4 + c5 + c6 + c7) + 256 * (c2 + c3 + c4 + c5 + c6 + c7) + 65536 * (c3 + c4 + c5 + c6 + c7) + 16777216 * (c4 + c5 + c6 + c7) + 4294967296 * (c5 + c6 + c7) + 1099511627776 * (c6 + c7) + 281474976710656 * c7)), ?_, ?_, ?_, ?_, ?_, ?_, ?_⟩
 ·have q : (c0 + 256 * c1 + 65536 * c2 + 16777216 * c3 + 4294967296 * c4 + 1099511627776 * c5 + 281474976710656 * c6 + 72057594037927936 * c7) / 256 = c1 + 256 * c2 + 65536 * c3 + 16777216 * c4 + 4294967296 * c5 + 1099511627776 * c6 + 281474976710656 * c7 := div_of _ c0 _ _ (by omega) (by omega)
  rw [q]
  clear q
  omega
 ·have q : ((c0 + c1) + 256 * (c1 + c2) + 65536 * (c2 + c3) + 16777216 * (c3 + c4) + 4294967296 * (c4 + c5) + 1099511627776 * (c5 + c6) + 281474976710656 * (c6 + c7) + 72057594037927936 * c7) / 65536 = (c2 + c3) + 256 * (c3 + c4) + 65536 * (c4 + c5) + 16777216 * (c5 + c6) + 4294967296 * (c6 + c7) + 1099511627776 * c7 := div_of _ ((c0 + c1) + 256 * (c1 + c2)) _ _ (by omega) (by omega)
  rw [q]
  clear q
  omega
 ·have q : ((c0 + c1 + c2 + c3) + 256 * (c1 + c2 + c3 + c4) + 65536 * (c2 + c3 + c4 + c5) + 16777216 * (c3 + c4 + c5 + c6) + 4294967296 * (c4 + c5 + c6 + c7) + 1099511627776 * (c5 + c6 + c7) + 281474976710656 * (c6 + c7) + 72057594037927936 * c7) / 4294967296 = (c4 + c5 + c6 + c7) + 256 * (c5 + c6 + c7) + 65536 * (c6 + c7) + 16777216 * c7 := div_of _ ((c0 + c1 + c2 + c3) + 256 * (c1 + c2 + c3 + c4) + 65536 * (c2 + c3 + c4 + c5) + 16777216 * (c3 + c4 + c5 + c6)) _ _ (by omega) (by omega)
  rw [q]
  clear q
  omega
 ·rw [Nat.add_mul_mod_self_left, Nat.mod_eq_of_lt (by omega)]
 all_goals omega
theorem ones_steps (x a b c : Nat) (ha : ((x / 2) &&& 6148914691236517205) + (x &&& 6148914691236517205) = a) (hb : ((a / 4) &&& 3689348814741910323) + (a &&& 3689348814741910323) = b) (hc : (b / 16 + b) &&& 1085102592571150095 = c) :
  ∃ d e f : Nat, c + c / 256 = d ∧ d + d / 65536 = e ∧ e + e / 4294967296 = f ∧ f % 128 = ones x ∧ c < 2305843009213693952 ∧ d < 2305843009213693952 ∧ e < 2305843009213693952 ∧ f < 2305843009213693952 ∧ b < 9223372036854775808 ∧ a < 13835058055282163712 := by
 have la : a < 13835058055282163712 := by
  have u : (x / 2) &&& 6148914691236517205 ≤ 6148914691236517205 := Nat.and_le_right
  have v : x &&& 6148914691236517205 ≤ 6148914691236517205 := Nat.and_le_right
  omega
 have lb : b < 9223372036854775808 := by
  have u : (a / 4) &&& 3689348814741910323 ≤ 3689348814741910323 := Nat.and_le_right
  have v : a &&& 3689348814741910323 ≤ 3689348814741910323 := Nat.and_le_right
  omega
 have lc : c < 2305843009213693952 := by
  have u : (b / 16 + b) &&& 1085102592571150095 ≤ 1085102592571150095 := Nat.and_le_right
  omega
 have m1 : mask 85 8 = 6148914691236517205 := by decide
 have m2 : mask 51 8 = 3689348814741910323 := by decide
 have m3 : mask 15 8 = 1085102592571150095 := by decide
 have h1 := step1 8 x
 rw [m1, ha] at h1
 have h2 := step2 8 a
 rw [m2, hb, h1, bytesF_comp s1 s2 s1_lt'] at h2
 have h3 := step3 8 x
 rw [m3] at h3
 have h2' : b = bytesF s21 8 x := h2
 rw [← h2', hc] at h3
 obtain ⟨c0, c1, c2, c3, c4, c5, c6, c7, k0, k1, k2, k3, k4, k5, k6, k7, hC, hO⟩ := bytesF_bit x
 rw [hC] at h3
 obtain ⟨d, e, f, hd, he, hf, hm, ld, le, lf⟩ := fold8 c0 c1 c2 c3 c4 c5 c6 c7 k0 k1 k2 k3 k4 k5 k6 k7
 rw [← h3] at hd
 exact ⟨d, e, f, hd, he, hf, hm.trans hO.symm, lc, ld, le, lf, lb, la⟩
theorem ones_le (x : Nat) : ones x ≤ 64 := onesF_le 64 x
abbrev Bs := List UInt8
def cut0 : Bs → Option Bs
 | [] => none
 | b :: r => if b = 0 then some [] else (cut0 r).map (b :: ·)
def nameAt (l : Bs) (off : Nat) : Option Bs := cut0 (l.drop off)
theorem cut0_some : ∀ {l s : Bs}, cut0 l = some s → s.length < l.length ∧ l.take s.length = s ∧ l[s.length]? = some 0
 | [], s, h => by cases h
 | b :: r, s, h => by
  unfold cut0 at h
  split at h
  ·rename_i hb
   subst hb
   injection h with h
   subst h
   simp
  ·obtain ⟨x, hx, rfl⟩ := Option.map_eq_some_iff.1 h
   obtain ⟨h1, h2, h3⟩ := cut0_some hx
   exact ⟨by simpa using h1, by simp [h2], by simpa using h3⟩
theorem cut0_none : ∀ {l : Bs}, cut0 l = none ↔ ∀ b ∈ l, b ≠ 0
 | [] => by simp [cut0]
 | b :: r => by
  unfold cut0
  split
  ·rename_i hb; subst hb; simp
  ·rename_i hb
   rw [Option.map_eq_none_iff, cut0_none]
   simp [hb]
theorem indexByte_cut (l : Bs) : Lib.indexByte l 0 = match cut0 l with | some s => (s.length : Int) | none => -1 := by
 induction l with
 | nil => rfl
 | cons b r ih =>
  unfold Lib.indexByte cut0
  by_cases hb : b = 0
  ·subst hb
   rfl
  ·have e : (b == 0) = false := by simpa using hb
   rw [if_neg hb, e, ih]
   cases cut0 r with
   | none => rfl
   | some s =>
    have : ((s.length : Int) == -1) = false := by rw [beq_eq_false_iff_ne]; omega
    simp [this]
section
variable {L : List Bs} {k : Nat}
end
end Go.Proofs.Ytfbimboemahhhaa
namespace Go.Proofs.Ytfbimboemahhhaa
open Go.Lib (hid)
open Go.RowKit
def bstr (s : Bs) : ByteArray := ⟨s.toArray⟩
theorem bstr_size (s : Bs) : (bstr s).size = s.length := by simp [bstr, ByteArray.size]
theorem bstr_list (s : Bs) : (bstr s).data.toList = s := by simp [bstr]
theorem bstr_toList (s : Bs) : (bstr s).toList = s := by rw [ByteArray.toList_eq, bstr_list]
section
variable {w w' : World} {B : Nat} {A : Option Addr} {n c : Nat} {L : List Bs}
end
def ival (k : IntKind) (n : Nat) : Value := .int k (n : Int)
structure NS (w : World) (B : Nat) (k : IntKind) (A : Option Addr) (n c : Nat) (l : List Nat) : Prop where
 len : n = l.length
 cap : n ≤ c
 max : c ≤ maxLen
 pos : 0 < n → ∃ b off, A = some ⟨b, off, none⟩ ∧ b < B ∧ ∀ j (h : j < l.length), w.cell? ⟨b, off + j, none⟩ = some (.int k (l[j] : Int))
section
variable {w w' : World} {B : Nat} {k : IntKind} {A : Option Addr} {n c : Nat} {l : List Nat}
end
def ON (w : World) (base : Nat) (e : TypeId) (k : IntKind) (A : Option Addr) (n c : Nat) (l : List Nat) : Prop :=
 w.ownsRow base e 1 (.slice A n c) n (l.map (ival k))
section
variable {w : World} {base : Nat} {e : TypeId} {k : IntKind} {A : Option Addr} {n c : Nat} {l : List Nat}
theorem ON.keep {w' : World} (h : ON w base e k A n c l) (hb : Below w.heap.size w w') : ON w' base e k A n c l := by
 refine ⟨h.1, ?_⟩
 rcases h.2 with h0 | ⟨g, cap, cur, hv, hg, hh, r⟩
 ·exact .inl h0
 ·refine .inr ⟨g, cap, cur, hv, hg, ?_, r⟩
  rw [hb.block g ?_]
  ·exact hh
  ·rcases Nat.lt_or_ge g w.heap.size with h1 | h1
   ·exact h1
   ·rw [Array.getElem?_eq_none h1] at hh; cases hh
theorem ON.ns (h : ON w base e k A n c l) : NS w w.heap.size k A n c l := by
 have hl : n = l.length := by have := h.1; simp at this; omega
 rcases h.2 with ⟨e0, h0⟩ | ⟨g, cap, cur, hv, _, hh, hnc, hcm, hsz, htk⟩
 ·injection e0 with e1 e2 e3
  subst e1; subst e3
  exact ⟨hl, by omega, Nat.zero_le _, fun hp => by omega⟩
 ·injection hv with hA _ hc
  subst hA; subst hc
  refine ⟨hl, hnc, hcm, fun _ => ⟨g, 0, rfl, ?_, fun j hj => ?_⟩⟩
  ·rcases Nat.lt_or_ge g w.heap.size with h1 | h1
   ·exact h1
   ·rw [Array.getElem?_eq_none h1] at hh; cases hh
  ·rw [cell_of_row w g (0 + j) cur e (0, 0) hh, Nat.zero_add]
   have e1 : (cur.toList.take (n * 1))[j]? = some (Value.int k (l[j] : Int)) := by
    rw [htk]; simp [hj, ival]
   rw [List.getElem?_take_of_lt (by omega)] at e1
   simpa using e1
end
def byWide (wide : Bool) (x y : Nat) : Nat := if wide then y else x
theorem OB.of_blk {w : World} {base g : Nat} {e : TypeId} {l : List UInt8} (h : Blk w g e (l.map byt).toArray) (hb : base ≤ g) (hm : l.length ≤ maxLen) : OB w base e (some ⟨g, 0, none⟩) l.length l.length l :=
 ⟨by simp, .inr ⟨g, l.length, (l.map byt).toArray, rfl, hb, h, Nat.le_refl _, hm, by simp, by simp [List.take_of_length_le]⟩⟩
theorem RB.grow {w w' : World} {A : Option Addr} {n c : Nat} {l : List UInt8} (h : RB w w.heap.size A n c l) (hg : Grow w w') : RB w' w'.heap.size A n c l := (h.belowAt hg (Nat.le_refl _)).more hg.size
theorem RB.first {w : World} {B : Nat} {A : Option Addr} {n c m : Nat} {l : List UInt8} (h : RB w B A n c l) (hm : m ≤ n) : RB w B A m c (l.take m) :=
 ⟨by have := h.len; simp; omega, by have := h.cap; omega, h.max, fun hp => by
  obtain ⟨b, off, e, hb, hc⟩ := h.pos (by omega)
  exact ⟨b, off, e, hb, fun j hj => by
   have hj2 : j < l.length := by simp at hj; omega
   rw [hc j hj2]; simp⟩⟩
theorem Blk.c10 {w : World} {g : Nat} {t : TypeId} {a0 a1 a2 a3 a4 a5 a6 a7 a8 a9 : Value} (h : Blk w g t #[a0, a1, a2, a3, a4, a5, a6, a7, a8, a9]) :
  w.cell? ⟨g, 0, none⟩ = some a0 ∧ w.cell? ⟨g, 1, none⟩ = some a1 ∧ w.cell? ⟨g, 2, none⟩ = some a2 ∧ w.cell? ⟨g, 3, none⟩ = some a3 ∧ w.cell? ⟨g, 4, none⟩ = some a4 ∧ w.cell? ⟨g, 5, none⟩ = some a5 ∧ w.cell? ⟨g, 6, none⟩ = some a6 ∧ w.cell? ⟨g, 7, none⟩ = some a7 ∧ w.cell? ⟨g, 8, none⟩ = some a8 ∧ w.cell? ⟨g, 9, none⟩ = some a9 :=
 ⟨h.at 0, h.at 1, h.at 2, h.at 3, h.at 4, h.at 5, h.at 6, h.at 7, h.at 8, h.at 9⟩
end Go.Proofs.Ytfbimboemahhhaa
namespace Go.Proofs.Ytfbimboemahhhaa
open Go.Lib (hid)
structure Pl where
 inn : Int
 off : Nat
 size : Nat
 own : List UInt8
structure Sg where
 typ : Nat
 flags : Nat
 vaddr : Nat
 paddr : Nat
 memsz : Nat
 align : Nat
 pl : Pl
structure Se where
 name : Nat
 typ : Nat
 flags : Nat
 addr : Nat
 size : Nat
 link : Nat
 info : Nat
 align : Nat
 entsize : Nat
 pl : Pl
structure Md where
 wide : Bool
 big : Bool
 osabi : Nat
 abi : Nat
 typ : Nat
 mach : Nat
 flags : Nat
 entry : Nat
 segs : List Sg
 secs : List Se
 str : Int
def pl0 : Pl := ⟨0, 0, 0, []⟩
def sg0 : Sg := ⟨0, 0, 0, 0, 0, 0, pl0⟩
def se0 : Se := ⟨0, 0, 0, 0, 0, 0, 0, 0, 0, pl0⟩
instance : Inhabited Sg := ⟨sg0⟩
instance : Inhabited Se := ⟨se0⟩
def I64 (i : Int) : Prop := -9223372036854775808 ≤ i ∧ i ≤ 9223372036854775807
structure Pl.Ok (p : Pl) : Prop where
 inn : I64 p.inn
 off : p.off < 18446744073709551616
 size : p.size < 18446744073709551616
structure Sg.Ok (s : Sg) : Prop where
 typ : s.typ < 4294967296
 flags : s.flags < 4294967296
 vaddr : s.vaddr < 18446744073709551616
 paddr : s.paddr < 18446744073709551616
 memsz : s.memsz < 18446744073709551616
 align : s.align < 18446744073709551616
 pl : s.pl.Ok
structure Se.Ok (s : Se) : Prop where
 name : s.name < 4294967296
 typ : s.typ < 4294967296
 flags : s.flags < 18446744073709551616
 addr : s.addr < 18446744073709551616
 size : s.size < 18446744073709551616
 link : s.link < 4294967296
 info : s.info < 4294967296
 align : s.align < 18446744073709551616
 entsize : s.entsize < 18446744073709551616
 pl : s.pl.Ok
structure Md.Ok (m : Md) : Prop where
 osabi : m.osabi < 256
 abi : m.abi < 256
 typ : m.typ < 65536
 mach : m.mach < 65536
 flags : m.flags < 4294967296
 entry : m.entry < 18446744073709551616
 segs : ∀ s ∈ m.segs, s.Ok
 secs : ∀ s ∈ m.secs, s.Ok
 str : I64 m.str
def isSegN (n : Nat) (i : Int) : Bool := decide (0 ≤ i ∧ i < n)
def Md.seg (m : Md) (i : Int) : Sg := m.segs.getD i.toNat sg0
def Pl.within (p : Pl) (n : Nat) : Bool := decide (p.off + p.size ≤ n)
def Pl.ownMay (p : Pl) : Bool := decide (p.off = 0) && decide (p.size = p.own.length)
def Pl.inMay (p : Pl) (n : Nat) : Bool := decide (p.own.length = 0) && decide (0 < p.size) && p.within n
def Md.may (m : Md) (p : Pl) : Bool :=
 if p.inn = -1 then p.ownMay else isSegN m.segs.length p.inn && decide ((m.seg p.inn).typ = 1) && p.inMay (m.seg p.inn).pl.own.length
def Md.bytes (m : Md) (p : Pl) : List UInt8 :=
 if p.inn = -1 then p.own else if isSegN m.segs.length p.inn && p.within (m.seg p.inn).pl.own.length then (((m.seg p.inn).pl.own).drop p.off).take p.size else []
def lastA (wide : Bool) : Nat := byWide wide 4294967295 18446744073709551615
def Sg.wraps (s : Sg) (wide : Bool) : Bool := decide (0 < s.memsz) && !decide (s.vaddr + (s.memsz - 1) ≤ lastA wide)
def Md.segC (m : Md) (s : Sg) : Nat :=
 if 1 < ones s.align then 6 else if m.may s.pl = false then 1 else if s.typ ≠ 1 then 0 else if s.pl.inn ≠ -1 then 1 else if s.memsz < s.pl.size then 5 else if s.wraps m.wide = true then 12 else 0
def fstC {α : Type} (f : α → Nat) : List α → Nat
 | [] => 0
 | a :: r => if f a = 0 then fstC f r else f a
def loadOf (s : Sg) : List (Nat × Nat) := if s.typ = 1 then [(s.vaddr, s.memsz)] else []
def loads (l : List Sg) : List (Nat × Nat) := l.flatMap loadOf
def Md.segsC (m : Md) : Nat := if fstC m.segC m.segs = 0 then (if rises (loads m.segs) then 0 else 7) else fstC m.segC m.segs
def Se.held (s : Se) : Nat := if s.typ = 0 ∨ s.typ = 8 then 0 else s.size
def Md.secC (m : Md) (s : Se) : Nat := if m.may s.pl = false then 1 else if s.pl.size ≠ s.held then 1 else if m.secs.length < s.link then 10 else 0
def Md.secsC (m : Md) : Nat := fstC m.secC m.secs
def Md.tab (m : Md) : Se := m.secs.getD (m.str - 1).toNat se0
def Md.named (m : Md) : Bool :=
 if m.str = 0 then m.secs.all fun s => decide (s.name = 0)
 else decide (m.tab.typ = 3) && decide (m.tab.pl.inn = -1) && m.secs.all fun s => (nameAt m.tab.pl.own s.name).isSome
def Md.namesC (m : Md) : Nat := if m.str < 0 then 10 else if (m.secs.length : Int) < m.str then 10 else if m.named then 0 else 9
def Md.large (m : Md) : Bool := decide (16 < m.segs.length) || decide (64 < m.secs.length)
def Sg.nums (s : Sg) : List Nat := [s.vaddr, s.paddr, s.memsz, s.align]
def Se.nums (s : Se) : List Nat := [s.flags, s.addr, s.size, s.align, s.entsize]
def Md.nums (m : Md) : List Nat := m.entry :: (m.segs.flatMap Sg.nums ++ m.secs.flatMap Se.nums)
def fitW (wide : Bool) (v : Nat) : Bool := decide (v < 256 ^ byWide wide 4 8)
def Md.fits (m : Md) : Bool := m.nums.all (fitW m.wide)
def Md.chk (m : Md) : Nat :=
 if m.large then 8 else if m.fits = false then 1 else if m.segsC ≠ 0 then m.segsC else if m.secsC ≠ 0 then m.secsC else m.namesC
theorem fstC_zero {α : Type} {f : α → Nat} : ∀ {l : List α}, fstC f l = 0 ↔ ∀ a ∈ l, f a = 0
 | [] => by simp [fstC]
 | a :: r => by
  rw [fstC]
  have ih := fstC_zero (f := f) (l := r)
  by_cases h : f a = 0
  ·rw [if_pos h, ih]
   constructor
   ·intro h1 x hx
    rcases List.mem_cons.1 hx with e | e
    ·exact e ▸ h
    ·exact h1 x e
   ·intro h1 x hx
    exact h1 x (List.mem_cons_of_mem _ hx)
  ·rw [if_neg h]
   exact ⟨fun h1 => absurd h1 h, fun h1 => absurd (h1 a (by simp)) h⟩
theorem fstC_at {α : Type} {f : α → Nat} : ∀ {l : List α} {k : Nat} (h : k < l.length), (∀ a ∈ l.take k, f a = 0) → f l[k] ≠ 0 → fstC f l = f l[k]
 | a :: r, 0, _, _, h2 => by rw [fstC, if_neg (by simpa using h2)]; rfl
 | a :: r, k + 1, h, h1, h2 => by
  rw [fstC, if_pos (h1 a (by simp))]
  exact fstC_at (by simpa using h) (fun x hx => h1 x (by simp [hx])) (by simpa using h2)
theorem takeS {α : Type} (l : List α) (k : Nat) (h : k < l.length) : l.take (k + 1) = l.take k ++ [l[k]] := by
 rw [List.take_add_one, List.getElem?_eq_getElem h]; rfl
theorem loads_snoc (l : List Sg) (k : Nat) (h : k < l.length) : loads (l.take (k + 1)) = loads (l.take k) ++ loadOf l[k] := by
 rw [takeS l k h, loads, List.flatMap_append]
 simp [loads]
theorem mem_loads {l : List Sg} {x : Nat × Nat} (h : x ∈ loads l) : ∃ s ∈ l, s.typ = 1 ∧ x = (s.vaddr, s.memsz) := by
 unfold loads at h
 obtain ⟨s, hs, hx⟩ := List.mem_flatMap.1 h
 unfold loadOf at hx
 split at hx
 ·rename_i ht
  exact ⟨s, hs, ht, by simpa using hx⟩
 ·simp at hx
end Go.Proofs.Ytfbimboemahhhaa
