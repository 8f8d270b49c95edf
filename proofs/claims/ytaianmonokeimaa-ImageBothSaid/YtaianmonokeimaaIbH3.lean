/-
  Several texts in one: Contracts of span; How many ones a number of 64 bits has, as math/bits; Names in a table, as plain lists of bytes; A slice of strings that reads as a list of names.
-/
import Derived.Test.YtaianmonokeimaaRows
import Derived.Test.YtaianmonokeimaaIbH2
import Derived.Lib.Bytealg
import Derived.Test.YtaianmonokeimaaIbH1
import Derived.WalkKit
import Derived.Lib.Hide
import Derived.Laws.Strings
namespace Go.Proofs.Ytaianmonokeimaa
open Go.Lib (hid)
open Go.RowKit
def lastN (a n : Nat) : Nat := min (a + n - 1) 18446744073709551615
def belowN (a n v : Nat) : Bool := if n = 0 then decide (a ≤ v) else decide (lastN a n < v)
theorem last_any (a n : Nat) (w : World) (ha : a < 18446744073709551616) (hn : n < 18446744073709551616) (h0 : 0 < n) :
  Calls Try.prog 85 #[.agg #[.int .u64 a, .int .u64 n]] w fun e w' => e = .returned (.int .u64 (lastN a n : Nat)) ∧ Grow w w' := by
 have z1 : IntKind.u64.wrap ((n : Int) - 1) = (n : Int) - 1 := by rw [IntKind.wrap_u64]; omega
 have z2 : IntKind.u64.wrap (18446744073709551615 - (a : Int)) = 18446744073709551615 - (a : Int) := by rw [IntKind.wrap_u64]; omega
 by_cases h : (n : Int) - 1 ≤ 18446744073709551615 - (a : Int)
 ·have E := hid (show (lastN a n : Int) = (a : Int) + (n - 1) by unfold lastN; omega)
  go_enter Try.func85, Try.ntmps85
  go_wp2
  go_ret
  exact ⟨ret_int E.out.symm, Grow.of_alloc _ _⟩
 ·have E := hid (show (lastN a n : Int) = (a : Int) + (18446744073709551615 - (a : Int)) by unfold lastN; omega)
  go_enter Try.func85, Try.ntmps85
  go_wp2
  go_ret
  exact ⟨ret_int E.out.symm, Grow.of_alloc _ _⟩
theorem below_any (a n v : Nat) (w : World) (ha : a < 18446744073709551616) (hn : n < 18446744073709551616) :
  Calls Try.prog 78 #[.agg #[.int .u64 a, .int .u64 n], .int .u64 v] w fun e w' => e = .returned (.bool (belowN a n v)) ∧ Grow w w' := by
 by_cases n0 : n = 0
 ·subst n0
  have E := hid (show belowN a 0 v = decide (a ≤ v) by simp [belowN])
  go_enter Try.func78, Try.ntmps78
  go_wp2
  go_ret
  exact ⟨ret_bool (by simp [E.out]), Grow.of_alloc _ _⟩
 ·have E := hid (show belowN a n v = decide (lastN a n < v) by simp [belowN, n0])
  have d1 : ((n : Int) == 0) = false := by simp [n0]
  have hn0 := hid (Nat.pos_of_ne_zero n0)
  clear n0
  go_enter Try.func78, Try.ntmps78
  go_wp2_with (go_at_call 85; refine (last_any _ _ _ ha hn hn0.out).mono ?_; rintro e w' ⟨rfl, hb⟩; have HB := hid hb; clear hb)
  go_ret
  exact ⟨ret_bool (by simp [E.out]), (Grow.of_alloc _ _).trans HB.out⟩
def spC (x : Nat × Nat) : Array Value := #[.int .u64 (x.1 : Nat), .int .u64 (x.2 : Nat)]
def belowAt (l : List (Nat × Nat)) (i k : Nat) : Bool := belowN (l.getD i (0, 0)).1 (l.getD i (0, 0)).2 (l.getD k (0, 0)).1
def Up (l : List (Nat × Nat)) : Prop := ∀ k, 0 < k → k < l.length → belowAt l (k - 1) k = true
def rises (l : List (Nat × Nat)) : Bool := (List.range l.length).all fun k => decide (k = 0) || belowAt l (k - 1) k
theorem rises_iff (l : List (Nat × Nat)) : rises l = true ↔ Up l := by
 unfold rises Up
 rw [List.all_eq_true]
 constructor
 ·intro h k h0 hk
  have := h k (by simpa using hk)
  rw [Bool.or_eq_true, decide_eq_true_iff] at this
  rcases this with h | h
  ·omega
  ·exact h
 ·intro h k hk
  rw [Bool.or_eq_true, decide_eq_true_iff]
  rcases Nat.eq_zero_or_pos k with h0 | h0
  ·exact .inl h0
  ·exact .inr (h k h0 (by simpa using hk))
theorem up_no {l : List (Nat × Nat)} {k : Nat} (h0 : 0 < k) (hk : k < l.length) (h : belowAt l (k - 1) k = false) : rises l = false := by
 cases hr : rises l
 ·rfl
 ·have := (rises_iff l).1 hr k h0 hk
  rw [h] at this
  cases this
theorem up_step {l : List (Nat × Nat)} {k : Nat} (hu : ∀ j, 0 < j → j < k → belowAt l (j - 1) j = true) (h : belowAt l (k - 1) k = true) : ∀ j, 0 < j → j < k + 1 → belowAt l (j - 1) j = true := fun j h1 h2 => by
 rcases Nat.lt_or_ge j k with h3 | h3
 ·exact hu j h1 h3
 ·obtain rfl : j = k := by omega
  exact h
set_option maxHeartbeats 800000 in
theorem rising_any (A : Option Addr) (n c : Nat) (l : List (Nat × Nat)) (w : World) (h : ZS w w.heap.size 2 A n c (l.map spC)) (hs : ∀ x ∈ l, x.1 < 18446744073709551616 ∧ x.2 < 18446744073709551616) :
  Calls Try.prog 66 #[.slice A n c] w fun e w' => e = .returned (.bool (rises l)) ∧ Grow w w' := by
 have hc := h.cap
 have hm := h.max
 have hlen : n = l.length := by have := h.len; simpa using this
 have HL := hid hlen
 unfold maxLen at hm
 by_cases hn : n ≤ 1
 ·have HU := hid (show rises l = true from (rises_iff l).2 (by intro k h1 h2; rw [← hlen] at h2; omega))
  clear h hlen
  go_enter Try.func66, Try.ntmps66
  go_wp2
  go_loop [3] (fun i => i = .int .i64 1) (fun _ => 0)
  case atStart => rfl
  case round =>
   obtain rfl := hrel
   go_wp2
   go_ret
   exact ⟨ret_bool HU.out.symm, Grow.refl _⟩
 ·obtain ⟨b, off, rfl, hb, hcell⟩ := h.pos (by omega)
  have hat : ∀ j (_ : j < l.length), w.cell? ⟨b, off + j * 2, none⟩ = some (.int .u64 ((l.getD j (0, 0)).1 : Nat)) ∧ w.cell? ⟨b, off + j * 2 + 1, none⟩ = some (.int .u64 ((l.getD j (0, 0)).2 : Nat)) := by
   intro j hj
   have e : l.getD j (0, 0) = l[j] := by simp [List.getD_eq_getElem?_getD, hj]
   rw [e]
   exact ⟨hcell j (by simpa using hj) 0 _ (by simp [spC]), hcell j (by simpa using hj) 1 _ (by simp [spC])⟩
  have hsm : ∀ j (_ : j < l.length), (l.getD j (0, 0)).1 < 18446744073709551616 ∧ (l.getD j (0, 0)).2 < 18446744073709551616 := by
   intro j hj
   have e : l.getD j (0, 0) = l[j] := by simp [List.getD_eq_getElem?_getD, hj]
   rw [e]
   exact hs _ (List.getElem_mem hj)
  have HC := hid hat
  have HS := hid hsm
  have HB := hid (show b < w.heap.size by omega)
  clear h hcell hb hat hsm hs hlen
  go_enter Try.func66, Try.ntmps66
  go_wp2
  go_loopw [3] (fun i wr => ∃ k : Nat, 0 < k ∧ k ≤ n ∧ i = .int .i64 k ∧ (∀ j, 0 < j → j < k → belowAt l (j - 1) j = true) ∧ Grow w wr) (fun i _ => n - (intOf i).toNat)
  case atStart => exact ⟨1, by omega, by omega, rfl, fun j h1 h2 => by omega, Grow.refl _⟩
  case round =>
   obtain ⟨k, h0, hk, rfl, hup, hg⟩ := hrel
   have HG := hid hg
   have HU := hid hup
   clear hg hup
   by_cases hlt : k < n
   ·obtain ⟨x, hx⟩ : ∃ x, x = l.getD (k - 1) (0, 0) := ⟨_, rfl⟩
    obtain ⟨y, hy⟩ : ∃ y, y = l.getD k (0, 0) := ⟨_, rfl⟩
    have hkl : k < l.length := by rw [← HL.out]; exact hlt
    have c0 : ∀ W, Grow wr.drew W → W.cell? ⟨b, off + (k - 1) * 2, none⟩ = some (.int .u64 (x.1 : Nat)) := fun W hW => by rw [Below.cell (HG.out.trans ((Grow.of_drew _).trans hW)) HB.out, hx]; exact (HC.out (k - 1) (by omega)).1
    have c1 : ∀ W, Grow wr.drew W → W.cell? ⟨b, off + (k - 1) * 2 + 1, none⟩ = some (.int .u64 (x.2 : Nat)) := fun W hW => by rw [Below.cell (HG.out.trans ((Grow.of_drew _).trans hW)) HB.out, hx]; exact (HC.out (k - 1) (by omega)).2
    have c2 : ∀ W, Grow wr.drew W → W.cell? ⟨b, off + k * 2, none⟩ = some (.int .u64 (y.1 : Nat)) := fun W hW => by rw [Below.cell (HG.out.trans ((Grow.of_drew _).trans hW)) HB.out, hy]; exact (HC.out k (by omega)).1
    have HE := hid (show belowAt l (k - 1) k = belowN x.1 x.2 y.1 by rw [hx, hy]; rfl)
    have sx := HS.out (k - 1) (by omega)
    rw [← hx] at sx
    clear hx hy
    go_wp2_with fail
    refine wp_region_chain [(0, true), (1, true), (2, true), (3, true), (4, true), (5, true), (6, true), (7, true), (8, true), (9, true), (10, false), (11, true)] (by kernel_rfl) (by kernel_rfl) (by kernel_rfl) ?_
    have HD : Hid (Grow w wr.drew) := HG.out.trans (Grow.of_drew _)
    generalize wr.drew = w1 at HD c0 c1 c2 ⊢
    have z1 : IntKind.i64.wrap ((k : Int) - 1) = (k : Int) - 1 := IntWalk.i64_in _ (by omega)
    have z2 : (1 : Int) ≤ (k : Int) := by omega
    have z3 : ((k : Int) - 1).toNat = k - 1 := by omega
    have z4 : (k : Int) - 1 < (n : Int) := by omega
    repeat ((first | (refine chain_take rfl (by rfl) ?_ (fun W hG => ?_) ?_; rotate_left; (go_simp; rfl)) | refine chain_skip rfl (by rfl) ?_); simp only [Act.put, List.setIfInBounds_toArray, List.set_cons_zero, List.set_cons_succ])
    refine chain_only rfl (by rfl) (fun K hK => ?_)
    go_simp
    refine (below_any _ _ _ _ sx.1 sx.2).mono ?_
    rintro e w2 ⟨rfl, hb⟩
    refine hK _ _ hb ?_
    have HF : Hid (Grow w w2) := HD.out.trans hb
    clear hK K hb z1 z2 z3 z4 c0 c1 c2 sx
    cases hr : belowN x.1 x.2 y.1
    ·rw [hr] at HE
     clear hr
     repeat ((first | (refine chain_take rfl (by rfl) ?_ (fun W hG => ?_) ?_; rotate_left; (go_simp; rfl)) | refine chain_skip rfl (by rfl) ?_); simp only [Act.put, List.setIfInBounds_toArray, List.set_cons_zero, List.set_cons_succ])
     refine chain_done ?_
     go_wp2
     go_ret
     exact ⟨ret_bool (up_no h0 hkl HE.out).symm, HF.out⟩
    ·rw [hr] at HE
     clear hr
     repeat ((first | (refine chain_take rfl (by rfl) ?_ (fun W hG => ?_) ?_; rotate_left; (go_simp; rfl)) | refine chain_skip rfl (by rfl) ?_); simp only [Act.put, List.setIfInBounds_toArray, List.set_cons_zero, List.set_cons_succ])
     refine chain_done ?_
     go_wp2
     go_roundw
     case rel => exact ⟨k + 1, by omega, by omega, by go_num, up_step HU.out HE.out, HF.out⟩
     case measure => simp [intOf]; omega
   ·have HU2 := hid (show rises l = true from (rises_iff l).2 fun j h1 h2 => HU.out j h1 (by have := HL.out; omega))
    go_wp2
    go_ret
    exact ⟨ret_bool HU2.out.symm, HG.out⟩
end Go.Proofs.Ytaianmonokeimaa
namespace Go.Proofs.Ytaianmonokeimaa
open Go.Lib (hid)
def onesF : Nat → Nat → Nat
 | 0, _ => 0
 | f + 1, x => x % 2 + onesF f (x / 2)
def ones (x : Nat) : Nat := onesF 64 x
theorem and_split (k a m s : Nat) (hs : s < 2 ^ k) : a &&& (2 ^ k * m + s) = 2 ^ k * ((a / 2 ^ k) &&& m) + ((a % 2 ^ k) &&& s) := by
 have h1 : (a % 2 ^ k) &&& s < 2 ^ k := Nat.and_lt_two_pow _ hs
 have h2 : a % 2 ^ k < 2 ^ k := Nat.mod_lt _ (Nat.two_pow_pos k)
 apply Nat.eq_of_testBit_eq
 intro i
 rw [Nat.testBit_and, Nat.testBit_two_pow_mul_add _ hs, Nat.testBit_two_pow_mul_add _ h1]
 by_cases h : i < k
 ·rw [if_pos h, if_pos h, Nat.testBit_and, Nat.testBit_mod_two_pow]
  simp [h]
 ·rw [if_neg h, if_neg h, Nat.testBit_and, Nat.testBit_div_two_pow]
  have : i - k + k = i := by omega
  rw [this]
def mask (m : Nat) : Nat → Nat
 | 0 => 0
 | n + 1 => 256 * mask m n + m
def bytesF (f : Nat → Nat) : Nat → Nat → Nat
 | 0, _ => 0
 | n + 1, x => 256 * bytesF f n (x / 256) + f (x % 256)
def s1 (r : Nat) : Nat := ((r / 2) &&& 85) + (r &&& 85)
def s2 (r : Nat) : Nat := ((r / 4) &&& 51) + (r &&& 51)
theorem s1_lt : ∀ r : Fin 256, s1 r.val ≤ 170 := by decide +kernel
theorem s2_le : ∀ r : Fin 256, s2 (s1 r.val) % 16 ≤ 4 ∧ s2 (s1 r.val) / 16 ≤ 4 := by decide +kernel
theorem s3_eq : ∀ r : Fin 256, s2 (s1 r.val) % 16 + s2 (s1 r.val) / 16 = onesF 8 r.val := by decide +kernel
theorem s1_and (x : Nat) : ((x / 2) % 256) &&& 85 = ((x % 256) / 2) &&& 85 := by
 have h : ∀ r : Fin 512, ((r.val / 2) % 256) &&& 85 = ((r.val % 256) / 2) &&& 85 := by decide +kernel
 have := h ⟨x % 512, Nat.mod_lt _ (by decide)⟩
 simp only at this
 have e1 : x % 512 / 2 % 256 = x / 2 % 256 := by omega
 have e2 : x % 512 % 256 = x % 256 := by omega
 rw [e1, e2] at this
 exact this
theorem s2_and (x : Nat) : ((x / 4) % 256) &&& 51 = ((x % 256) / 4) &&& 51 := by
 have h : ∀ r : Fin 1024, ((r.val / 4) % 256) &&& 51 = ((r.val % 256) / 4) &&& 51 := by decide +kernel
 have := h ⟨x % 1024, Nat.mod_lt _ (by decide)⟩
 simp only at this
 have e1 : x % 1024 / 4 % 256 = x / 4 % 256 := by omega
 have e2 : x % 1024 % 256 = x % 256 := by omega
 rw [e1, e2] at this
 exact this
theorem step1 : ∀ n x, ((x / 2) &&& mask 85 n) + (x &&& mask 85 n) = bytesF s1 n x
 | 0, x => by simp [mask, bytesF]
 | n + 1, x => by
  have ih := step1 n (x / 256)
  have a1 := and_split 8 (x / 2) (mask 85 n) 85 (by decide)
  have a2 := and_split 8 x (mask 85 n) 85 (by decide)
  have e : x / 2 / 2 ^ 8 = x / 256 / 2 := by omega
  rw [e] at a1
  have e2 := s1_and x
  rw [show (2 : Nat) ^ 8 = 256 from rfl] at a1 a2
  rw [mask, bytesF, a1, a2, ← ih, s1, e2]
  omega
theorem step2 : ∀ n x, ((x / 4) &&& mask 51 n) + (x &&& mask 51 n) = bytesF s2 n x
 | 0, x => by simp [mask, bytesF]
 | n + 1, x => by
  have ih := step2 n (x / 256)
  have a1 := and_split 8 (x / 4) (mask 51 n) 51 (by decide)
  have a2 := and_split 8 x (mask 51 n) 51 (by decide)
  have e : x / 4 / 2 ^ 8 = x / 256 / 4 := by omega
  rw [e] at a1
  have e2 := s2_and x
  rw [show (2 : Nat) ^ 8 = 256 from rfl] at a1 a2
  rw [mask, bytesF, a1, a2, ← ih, s2, e2]
  omega
theorem bytesF_div (f : Nat → Nat) (hf : ∀ r, r < 256 → f r < 256) (n x : Nat) : bytesF f (n + 1) x / 256 = bytesF f n (x / 256) ∧ bytesF f (n + 1) x % 256 = f (x % 256) := by
 have := hf (x % 256) (Nat.mod_lt _ (by decide))
 rw [bytesF]
 omega
theorem bytesF_comp (f g : Nat → Nat) (hf : ∀ r, r < 256 → f r < 256) : ∀ n x, bytesF g n (bytesF f n x) = bytesF (fun r => g (f r)) n x
 | 0, x => rfl
 | n + 1, x => by
  obtain ⟨h1, h2⟩ := bytesF_div f hf n x
  have ih := bytesF_comp f g hf n (x / 256)
  show 256 * bytesF g n (bytesF f (n + 1) x / 256) + g (bytesF f (n + 1) x % 256) = 256 * bytesF (fun r => g (f r)) n (x / 256) + g (f (x % 256))
  rw [h1, h2, ih]
def s21 (r : Nat) : Nat := s2 (s1 r)
theorem s1_lt' (r : Nat) (h : r < 256) : s1 r < 256 := by have := s1_lt ⟨r, h⟩; simp only at this; omega
theorem s21_le (r : Nat) (h : r < 256) : s21 r % 16 ≤ 4 ∧ s21 r / 16 ≤ 4 := s2_le ⟨r, h⟩
theorem s21_eq (r : Nat) (h : r < 256) : s21 r % 16 + s21 r / 16 = onesF 8 r := s3_eq ⟨r, h⟩
theorem fifteen (y : Nat) : y &&& 15 = y % 16 := Nat.and_two_pow_sub_one_eq_mod y 4
theorem step3 : ∀ n x, (bytesF s21 n x / 16 + bytesF s21 n x) &&& mask 15 n = bytesF (fun r => onesF 8 r) n x
 | 0, x => by simp [mask, bytesF]
 | n + 1, x => by
  have ih := step3 n (x / 256)
  have hr : x % 256 < 256 := Nat.mod_lt _ (by decide)
  have hr2 : x / 256 % 256 < 256 := Nat.mod_lt _ (by decide)
  obtain ⟨l1, l2⟩ := s21_le _ hr
  have e1 := s21_eq _ hr
  obtain ⟨l3, -⟩ := s21_le _ hr2
  have hy : bytesF s21 n (x / 256) % 16 ≤ 4 := by
   cases n with
   | zero => simp [bytesF]
   | succ m => rw [bytesF]; omega
  have a1 := and_split 8 (bytesF s21 (n + 1) x / 16 + bytesF s21 (n + 1) x) (mask 15 n) 15 (by decide)
  rw [show (2 : Nat) ^ 8 = 256 from rfl] at a1
  have b1 : bytesF s21 (n + 1) x = 256 * bytesF s21 n (x / 256) + s21 (x % 256) := rfl
  have b2 : bytesF (fun r => onesF 8 r) (n + 1) x = 256 * bytesF (fun r => onesF 8 r) n (x / 256) + onesF 8 (x % 256) := rfl
  rw [mask, b2, a1]
  have e2 : (bytesF s21 (n + 1) x / 16 + bytesF s21 (n + 1) x) / 256 = bytesF s21 n (x / 256) / 16 + bytesF s21 n (x / 256) := by omega
  rw [e2, ih, fifteen]
  congr 1
  omega
theorem onesF_le : ∀ f x, onesF f x ≤ f
 | 0, _ => Nat.le_refl _
 | f + 1, x => by have := onesF_le f (x / 2); rw [onesF]; omega
theorem onesF_add : ∀ f g x, onesF (f + g) x = onesF f x + onesF g (x / 2 ^ f)
 | 0, g, x => by simp [onesF]
 | f + 1, g, x => by
  have := onesF_add f g (x / 2)
  rw [show f + 1 + g = f + g + 1 by omega, onesF, this, onesF, Nat.div_div_eq_div_mul, Nat.pow_succ, Nat.mul_comm 2 (2 ^ f)]
  omega
theorem onesF_mod : ∀ f x, onesF f (x % 2 ^ f) = onesF f x
 | 0, _ => rfl
 | f + 1, x => by
  have ih := onesF_mod f (x / 2)
  have e1 : x % 2 ^ (f + 1) % 2 = x % 2 := Nat.mod_mod_of_dvd _ ⟨2 ^ f, by rw [Nat.pow_succ, Nat.mul_comm]⟩
  have e2 : x % 2 ^ (f + 1) / 2 = x / 2 % 2 ^ f := by rw [Nat.pow_succ, Nat.mul_comm, Nat.mod_mul_right_div_self]
  rw [onesF, onesF, e1, e2, ih]
theorem bytesF_bit (x : Nat) : ∃ c0 c1 c2 c3 c4 c5 c6 c7 : Nat, c0 ≤ 8 ∧ c1 ≤ 8 ∧ c2 ≤ 8 ∧ c3 ≤ 8 ∧ c4 ≤ 8 ∧ c5 ≤ 8 ∧ c6 ≤ 8 ∧ c7 ≤ 8 ∧
  bytesF (fun r => onesF 8 r) 8 x = c0 + 256 * c1 + 65536 * c2 + 16777216 * c3 + 4294967296 * c4 + 1099511627776 * c5 + 281474976710656 * c6 + 72057594037927936 * c7 ∧ ones x = c0 + c1 + c2 + c3 + c4 + c5 + c6 + c7 := by
 have e : ∀ y, onesF 8 (y % 256) = onesF 8 y := onesF_mod 8
 have s : ∀ g y, onesF (8 + g) y = onesF 8 y + onesF g (y / 256) := fun g y => onesF_add 8 g y
 refine ⟨onesF 8 x, onesF 8 (x / 256), onesF 8 (x / 256 / 256), onesF 8 (x / 256 / 256 / 256), onesF 8 (x / 256 / 256 / 256 / 256), onesF 8 (x / 256 / 256 / 256 / 256 / 256), onesF 8 (x / 256 / 256 / 256 / 256 / 256 / 256), onesF 8 (x / 256 / 256 / 256 / 256 / 256 / 256 / 256),
  onesF_le _ _, onesF_le _ _, onesF_le _ _, onesF_le _ _, onesF_le _ _, onesF_le _ _, onesF_le _ _, onesF_le _ _, ?_, ?_⟩
 ·simp only [bytesF, e]
  omega
 ·unfold ones
  rw [show (64 : Nat) = 8 + (8 + (8 + (8 + (8 + (8 + (8 + (8 + 0))))))) from rfl]
  rw [s, s, s, s, s, s, s, s]
  simp only [onesF]
  omega
theorem div_of (q r k n : Nat) (h : n = r + k * q) (hr : r < k) : n / k = q := by
 subst h
 rw [Nat.add_mul_div_left _ _ (by omega), Nat.div_eq_of_lt hr, Nat.zero_add]
theorem fold8 (c0 c1 c2 c3 c4 c5 c6 c7 : Nat) (k0 : c0 ≤ 8) (k1 : c1 ≤ 8) (k2 : c2 ≤ 8) (k3 : c3 ≤ 8) (k4 : c4 ≤ 8) (k5 : c5 ≤ 8) (k6 : c6 ≤ 8) (k7 : c7 ≤ 8) :
  ∃ d e f : Nat, (c0 + 256 * c1 + 65536 * c2 + 16777216 * c3 + 4294967296 * c4 + 1099511627776 * c5 + 281474976710656 * c6 + 72057594037927936 * c7) + (c0 + 256 * c1 + 65536 * c2 + 16777216 * c3 + 4294967296 * c4 + 1099511627776 * c5 + 281474976710656 * c6 + 72057594037927936 * c7) / 256 = d ∧ d + d / 65536 = e ∧ e + e / 4294967296 = f ∧ f % 128 = c0 + c1 + c2 + c3 + c4 + c5 + c6 + c7 ∧ d < 2305843009213693952 ∧ e < 2305843009213693952 ∧ f < 2305843009213693952 := by
 refine ⟨(c0 + c1) + 256 * (c1 + c2) + 65536 * (c2 + c3) + 16777216 * (c3 + c4) + 4294967296 * (c4 + c5) + 1099511627776 * (c5 + c6) + 281474976710656 * (c6 + c7) + 72057594037927936 * c7, (c0 + c1 + c2 + c3) + 256 * (c1 + c2 + c3 + c4) + 65536 * (c2 + c3 + c4 + c5) + 16777216 * (c3 + c4 + c5 + c6) + 4294967296 * (c4 + c5 + c6 + c7) + 1099511627776 * (c5 + c6 + c7) + 281474976710656 * (c6 + c7) + 72057594037927936 * c7, (c0 + c1 + c2 + c3 + c4 + c5 + c6 + c7) + 128 * (2 * ((c1 + c2 + c3 + c4 + c5 + c6 + c7) + 256 * (c2 + c3 + c4 + c5 + c6 + c7) + 65536 * (c3 + c4 + c5 + c6 + c7) + 16777216 * (c4 + c5 + c6 + c7) + 4294967296 * (c5 + c6 + c7) + 1099511627776 * (c6 + c7) + 281474976710656 * c7)), ?_, ?_, ?_, ?_, ?_, ?_, ?_⟩
 ·have q : (c0 + 256 * c1 + 65536 * c2 + 16777216 * c3 + 4294967296 * c4 + 1099511627776 * c5 + 281474976710656 * c6 + 72057594037927936 * c7) / 256 = c1 + 256 * c2 + 65536 * c3 + 16777216 * c4 + 4294967296 * c5 + 1099511627776 * c6 + 281474976710656 * c7 := div_of _ c0 _ _ (by omega) (by omega)
  rw [q]
  clear q
  omega
 ·have q : ((c0 + c1) + 256 * (c1 + c2) + 65536 * (c2 + c3) + 16777216 * (c3 + c4) + 4294967296 * (c4 + c5) + 1099511627776 * (c5 + c6) + 281474976710656 * (c6 + c7) + 72057594037927936 * c7) / 65536 = (c2 + c3) + 256 * (c3 + c4) + 65536 * (c4 + c5) + 16777216 * (c5 + c6) + 4294967296 * (c6 + c7) + 1099511627776 * c7 := div_of _ ((c0 + c1) + 256 * (c1 + c2)) _ _ (by omega) (by omega)
  rw [q]
  clear q
  omega
 ·have q : ((c0 + c1 + c2 + c3) + 256 * (c1 + c2 + c3 + c4) + 65536 * (c2 + c3 + c4 + c5) + 16777216 * (c3 + c4 + c5 + c6) + 4294967296 * (c4 + c5 + c6 + c7) + 1099511627776 * (c5 + c6 + c7) + 281474976710656 * (c6 + c7) + 72057594037927936 * c7) / 4294967296 = (c4 + c5 + c6 + c7) + 256 * (c5 + c6 + c7) + 65536 * (c6 + c7) + 16777216 * c7 := div_of _ ((c0 + c1 + c2 + c3) + 256 * (c1 + c2 + c3 + c4) + 65536 * (c2 + c3 + c4 + c5) + 16777216 * (c3 + c4 + c5 + c6)) _ _ (by omega) (by omega)
  rw [q]
  clear q
  omega
 ·rw [Nat.add_mul_mod_self_left, Nat.mod_eq_of_lt (by omega)]
 all_goals omega
theorem ones_steps (x a b c : Nat) (ha : ((x / 2) &&& 6148914691236517205) + (x &&& 6148914691236517205) = a) (hb : ((a / 4) &&& 3689348814741910323) + (a &&& 3689348814741910323) = b) (hc : (b / 16 + b) &&& 1085102592571150095 = c) :
  ∃ d e f : Nat, c + c / 256 = d ∧ d + d / 65536 = e ∧ e + e / 4294967296 = f ∧ f % 128 = ones x ∧ c < 2305843009213693952 ∧ d < 2305843009213693952 ∧ e < 2305843009213693952 ∧ f < 2305843009213693952 ∧ b < 9223372036854775808 ∧ a < 13835058055282163712 := by
 have la : a < 13835058055282163712 := by
  have u : (x / 2) &&& 6148914691236517205 ≤ 6148914691236517205 := Nat.and_le_right
  have v : x &&& 6148914691236517205 ≤ 6148914691236517205 := Nat.and_le_right
  omega
 have lb : b < 9223372036854775808 := by
  have u : (a / 4) &&& 3689348814741910323 ≤ 3689348814741910323 := Nat.and_le_right
  have v : a &&& 3689348814741910323 ≤ 3689348814741910323 := Nat.and_le_right
  omega
 have lc : c < 2305843009213693952 := by
  have u : (b / 16 + b) &&& 1085102592571150095 ≤ 1085102592571150095 := Nat.and_le_right
  omega
 have m1 : mask 85 8 = 6148914691236517205 := by decide
 have m2 : mask 51 8 = 3689348814741910323 := by decide
 have m3 : mask 15 8 = 1085102592571150095 := by decide
 have h1 := step1 8 x
 rw [m1, ha] at h1
 have h2 := step2 8 a
 rw [m2, hb, h1, bytesF_comp s1 s2 s1_lt'] at h2
 have h3 := step3 8 x
 rw [m3] at h3
 have h2' : b = bytesF s21 8 x := h2
 rw [← h2', hc] at h3
 obtain ⟨c0, c1, c2, c3, c4, c5, c6, c7, k0, k1, k2, k3, k4, k5, k6, k7, hC, hO⟩ := bytesF_bit x
 rw [hC] at h3
 obtain ⟨d, e, f, hd, he, hf, hm, ld, le, lf⟩ := fold8 c0 c1 c2 c3 c4 c5 c6 c7 k0 k1 k2 k3 k4 k5 k6 k7
 rw [← h3] at hd
 exact ⟨d, e, f, hd, he, hf, hm.trans hO.symm, lc, ld, le, lf, lb, la⟩
theorem onesF_zero : ∀ f, onesF f 0 = 0
 | 0 => rfl
 | f + 1 => by rw [onesF, onesF_zero f]
theorem onesF_pos : ∀ f x, 0 < x → x < 2 ^ f → 0 < onesF f x
 | 0, x, h0, h => by simp at h; omega
 | f + 1, x, h0, h => by
  rw [onesF]
  by_cases e : x % 2 = 0
  ·have := onesF_pos f (x / 2) (by omega) (by rw [Nat.pow_succ] at h; omega)
   omega
  ·omega
theorem onesF_one : ∀ f x, x < 2 ^ f → (onesF f x ≤ 1 ↔ x = 0 ∨ ∃ k, x = 2 ^ k)
 | 0, x, h => by simp at h; subst h; simp [onesF]
 | f + 1, x, h => by
  have hx : x / 2 < 2 ^ f := by rw [Nat.pow_succ] at h; omega
  have ih := onesF_one f (x / 2) hx
  rw [onesF]
  by_cases e : x % 2 = 0
  ·rw [e, Nat.zero_add, ih]
   constructor
   ·rintro (h0 | ⟨k, hk⟩)
    ·exact .inl (by omega)
    ·exact .inr ⟨k + 1, by rw [Nat.pow_succ]; omega⟩
   ·rintro (h0 | ⟨k, hk⟩)
    ·exact .inl (by omega)
    ·cases k with
     | zero => rw [Nat.pow_zero] at hk; omega
     | succ k => exact .inr ⟨k, by rw [Nat.pow_succ] at hk; omega⟩
  ·have e1 : x % 2 = 1 := by omega
   rw [e1]
   constructor
   ·intro hle
    by_cases h0 : x / 2 = 0
    ·exact .inr ⟨0, by rw [Nat.pow_zero]; omega⟩
    ·have := onesF_pos f (x / 2) (by omega) hx
     omega
   ·rintro (h0 | ⟨k, hk⟩)
    ·omega
    ·cases k with
     | zero =>
      rw [Nat.pow_zero] at hk
      have : x / 2 = 0 := by omega
      rw [this, onesF_zero]
      omega
     | succ k => rw [Nat.pow_succ] at hk; omega
theorem ones_one (x : Nat) (h : x < 18446744073709551616) : ones x ≤ 1 ↔ x = 0 ∨ ∃ k, x = 2 ^ k := onesF_one 64 x h
theorem ones_le (x : Nat) : ones x ≤ 64 := onesF_le 64 x
abbrev Bs := List UInt8
def cut0 : Bs → Option Bs
 | [] => none
 | b :: r => if b = 0 then some [] else (cut0 r).map (b :: ·)
def nameAt (l : Bs) (off : Nat) : Option Bs := cut0 (l.drop off)
theorem cut0_some : ∀ {l s : Bs}, cut0 l = some s → s.length < l.length ∧ l.take s.length = s ∧ l[s.length]? = some 0
 | [], s, h => by cases h
 | b :: r, s, h => by
  unfold cut0 at h
  split at h
  ·rename_i hb
   subst hb
   injection h with h
   subst h
   simp
  ·obtain ⟨x, hx, rfl⟩ := Option.map_eq_some_iff.1 h
   obtain ⟨h1, h2, h3⟩ := cut0_some hx
   exact ⟨by simpa using h1, by simp [h2], by simpa using h3⟩
theorem indexByte_cut (l : Bs) : Lib.indexByte l 0 = match cut0 l with | some s => (s.length : Int) | none => -1 := by
 induction l with
 | nil => rfl
 | cons b r ih =>
  unfold Lib.indexByte cut0
  by_cases hb : b = 0
  ·subst hb
   rfl
  ·have e : (b == 0) = false := by simpa using hb
   rw [if_neg hb, e, ih]
   cases cut0 r with
   | none => rfl
   | some s =>
    have : ((s.length : Int) == -1) = false := by rw [beq_eq_false_iff_ne]; omega
    simp [this]
section
variable {L : List Bs} {k : Nat}
end
end Go.Proofs.Ytaianmonokeimaa
namespace Go.Proofs.Ytaianmonokeimaa
open Go.Lib (hid)
open Go.RowKit
def bstr (s : Bs) : ByteArray := ⟨s.toArray⟩
section
variable {w w' : World} {B : Nat} {A : Option Addr} {n c : Nat} {L : List Bs}
end
end Go.Proofs.Ytaianmonokeimaa
