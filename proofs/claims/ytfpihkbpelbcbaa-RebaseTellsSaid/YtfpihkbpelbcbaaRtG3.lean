/-
  Several texts in one: Contracts of wire; The contracts of model; The contract of model; Plain words of layer 10; Plain words of layer 9.
-/
import Derived.Test.YtfpihkbpelbcbaaRows
import Derived.Test.YtfpihkbpelbcbaaRtG1
import Derived.Test.YtfpihkbpelbcbaaRtG2
import Derived.WalkKit
import Derived.BigQuiet
import Derived.Deep.QuietTactic
import Derived.Lib.Hide
namespace Go.Proofs.Ytfpihkbpelbcbaa
open Go.Lib (hid)
open Go.RowKit
def wid (n : Int) : Bool := decide (n = 1 ∨ n = 2 ∨ n = 4 ∨ n = 8)
theorem wid_cases {n : Int} (h : wid n = true) : n = 1 ∨ n = 2 ∨ n = 4 ∨ n = 8 := of_decide_eq_true h
theorem isWidth_any (n : Int) (w : World) : Calls Try.prog 86 #[.int .i64 n] w fun e w' => e = .returned (.bool (wid n)) ∧ w = w' := by
 by_cases h1 : n = 1
 ·subst h1
  go_enter Try.func86, Try.ntmps86
  go_wp2
  go_ret
  exact ⟨rfl, rfl⟩
 by_cases h2 : n = 2
 ·subst h2
  go_enter Try.func86, Try.ntmps86
  go_wp2
  go_ret
  exact ⟨rfl, rfl⟩
 by_cases h4 : n = 4
 ·subst h4
  go_enter Try.func86, Try.ntmps86
  go_wp2
  go_ret
  exact ⟨rfl, rfl⟩
 by_cases h8 : n = 8
 ·subst h8
  go_enter Try.func86, Try.ntmps86
  go_wp2
  go_ret
  exact ⟨rfl, rfl⟩
 have e : wid n = false := by unfold wid; simp [h1, h2, h4, h8]
 have b1 : (n == 1) = false := by simp [h1]
 have b2 : (n == 2) = false := by simp [h2]
 have b4 : (n == 4) = false := by simp [h4]
 have b8 : (n == 8) = false := by simp [h8]
 have E := hid e
 clear e h1 h2 h4 h8
 go_enter Try.func86, Try.ntmps86
 go_wp2
 go_ret
 exact ⟨ret_bool E.out.symm, rfl⟩
def wthn (a n s : Int) : Bool := decide (a + n ≤ s)
theorem within_any (a n s : Int) (w : World) (ha : 0 ≤ a) (hn : 0 ≤ n) (hs : s ≤ 18446744073709551615) :
  Calls Try.prog 57 #[.int .u64 a, .int .u64 n, .int .u64 s] w fun e w' => e = .returned (.bool (wthn a n s)) ∧ w = w' := by
 by_cases h1 : n ≤ s
 ·have hd : 0 ≤ s - n := by omega
  by_cases h2 : a ≤ s - n
  ·have E := hid (show wthn a n s = true from decide_eq_true (by omega))
   go_enter Try.func57, Try.ntmps57
   go_wp2
   go_ret
   exact ⟨ret_bool E.out.symm, rfl⟩
  ·have E := hid (show wthn a n s = false from decide_eq_false (by omega))
   have h2' : decide (a ≤ s - n) = false := decide_eq_false h2
   go_enter Try.func57, Try.ntmps57
   go_wp2
   go_ret
   exact ⟨ret_bool E.out.symm, rfl⟩
 ·have E := hid (show wthn a n s = false from decide_eq_false (by omega))
  have h1' : decide (n ≤ s) = false := decide_eq_false h1
  go_enter Try.func57, Try.ntmps57
  go_wp2
  go_ret
  exact ⟨ret_bool E.out.symm, rfl⟩
def fits (v n : Int) : Bool := wid n && decide (v < 256 ^ n.toNat)
theorem mIsSeg_any (m : Md) (A1 A2 : Option Addr) (n1 c1 n2 c2 : Nat) (i : Int) (w : World) : Calls Try.prog 82 #[.agg (mdC m (.slice A1 n1 c1) (.slice A2 n2 c2)), .int .i64 i] w fun e w' => e = .returned (.bool (isSegN n1 i)) ∧ Grow w w' := by
 unfold mdC
 by_cases h0 : 0 ≤ i
 ·have E := hid (show isSegN n1 i = decide (i < (n1 : Int)) by unfold isSegN; simp [h0])
  go_enter Try.func82, Try.ntmps82
  go_wp2
  go_ret
  exact ⟨ret_bool E.out.symm, Grow.of_alloc _ _⟩
 ·have E := hid (show isSegN n1 i = false by unfold isSegN; simp [h0])
  have h1 : decide (0 ≤ i) = false := decide_eq_false h0
  clear h0
  go_enter Try.func82, Try.ntmps82
  go_wp2
  go_ret
  exact ⟨ret_bool E.out.symm, Grow.of_alloc _ _⟩
theorem mIsWithin_any (p : Pl) (S : Value) (A : Option Addr) (n c : Nat) (w : World) (hn : n ≤ maxLen) : Calls Try.prog 83 #[.agg (plC p S), .slice A n c] w fun e w' => e = .returned (.bool (p.within n)) ∧ Grow w w' := by
 unfold plC
 unfold maxLen at hn
 have z : IntKind.u64.wrap (n : Int) = (n : Int) := by rw [IntKind.wrap_u64]; omega
 have E := hid (show wthn (p.off : Nat) (p.size : Nat) (n : Nat) = p.within n by unfold wthn Pl.within; rw [Bool.eq_iff_iff, decide_eq_true_iff, decide_eq_true_iff]; omega)
 generalize p.within n = R at E ⊢
 generalize p.off = a at E ⊢
 generalize p.size = b at E ⊢
 generalize p.inn = i
 go_enter Try.func83, Try.ntmps83
 go_wp2_with (go_at_call 57; refine (within_any _ _ _ _ (by omega) (by omega) (by omega)).mono ?_; rintro e w' ⟨rfl, rfl⟩; rw [E.out])
 go_ret
 exact ⟨rfl, Grow.of_alloc _ _⟩
theorem may_own {m : Md} {p : Pl} (h : p.inn = -1) : m.may p = p.ownMay := by unfold Md.may; rw [if_pos h]
theorem may_in {m : Md} {p : Pl} (h : p.inn ≠ -1) : m.may p = (isSegN m.segs.length p.inn && decide ((m.seg p.inn).typ = 1) && p.inMay (m.seg p.inn).pl.own.length) := by unfold Md.may; rw [if_neg h]
theorem mdC_cells (m : Md) (s t : Value) : ∃ x0 x1 x2 x3 x4 x5 x6 x7 x9 x10 : Value, mdC m s t = #[x0, x1, x2, x3, x4, x5, x6, x7, s, x9, x10] := ⟨_, _, _, _, _, _, _, _, _, _, rfl⟩
theorem isSegN_true {n : Nat} {i : Int} (h : isSegN n i = true) : ∃ k : Nat, i = (k : Int) ∧ k < n := by
 unfold isSegN at h
 simp at h
 exact ⟨i.toNat, by omega, by omega⟩
theorem Md.seg_nat (m : Md) (k : Nat) (h : k < m.segs.length) : m.seg (k : Int) = m.segs[k] := by
 unfold Md.seg
 simp [List.getD_eq_getElem?_getD, h]
structure Dy where
 tag : Nat
 val : Nat
structure Dy.Ok (p : Dy) : Prop where
 tag : p.tag < 18446744073709551616
 val : p.val < 18446744073709551616
def Dy.C (p : Dy) : Array Value := #[.int .u64 (p.tag : Int), .int .u64 (p.val : Int)]
def Dy.V (p : Dy) : Value := .agg p.C
def dy0 : Dy := ⟨0, 0⟩
theorem Dy.one (p : Dy) : p.C.all (·.oneCell') = true := by simp [Dy.C, Value.oneCell']
def dyW (wide : Bool) : Nat := byWide wide 4 8
def dySize (wide : Bool) : Nat := 2 * dyW wide
def dyRow (wide : Bool) : List Nat := [dyW wide, dyW wide]
def dyM (wide : Bool) : Nat := byWide wide 4294967296 18446744073709551616
theorem dyM_pow (wide : Bool) : 256 ^ dyW wide = dyM wide := by cases wide <;> rfl
theorem dyM_le (wide : Bool) : dyM wide ≤ 18446744073709551616 := by cases wide <;> decide
theorem sum_dyRow (wide : Bool) : sumN (dyRow wide) = dySize wide := by cases wide <;> rfl
theorem dySize_pos (wide : Bool) : 0 < dySize wide := by cases wide <;> decide
theorem dySize_le (wide : Bool) : dySize wide ≤ 16 := by cases wide <;> decide
theorem dyW_le (wide : Bool) : dyW wide ≤ 8 := by cases wide <;> decide
def dyG (l : List UInt8) (wide big : Bool) (q : Nat) : Nat := getB ((l.drop q).take (dyW wide)) big
theorem dyG_lt (l : List UInt8) (wide big : Bool) (q : Nat) : dyG l wide big q < dyM wide := by
 rw [← dyM_pow]
 refine Nat.lt_of_lt_of_le (getB_lt _ big) (Nat.pow_le_pow_right (by decide) ?_)
 simp only [List.length_take]
 omega
def dyOf (l : List UInt8) (p : Nat) (wide big : Bool) : Dy := ⟨dyG l wide big p, dyG l wide big (p + dyW wide)⟩
theorem nums_dy (l : List UInt8) (p : Nat) (wide big : Bool) : nums l big p (dyRow wide) = [(dyOf l p wide big).tag, (dyOf l p wide big).val] := rfl
theorem dyOf_ok (l : List UInt8) (p : Nat) (wide big : Bool) : (dyOf l p wide big).Ok :=
 ⟨Nat.lt_of_lt_of_le (dyG_lt l wide big p) (dyM_le wide), Nat.lt_of_lt_of_le (dyG_lt l wide big _) (dyM_le wide)⟩
theorem dyG_sub (l : List UInt8) (p q s : Nat) (wide big : Bool) (h : q + dyW wide ≤ s) : dyG ((l.drop p).take s) wide big q = dyG l wide big (p + q) := by
 unfold dyG
 rw [List.drop_take, List.take_take, Nat.min_eq_left (by omega), List.drop_drop]
theorem dyOf_sub (l : List UInt8) (p : Nat) (wide big : Bool) : dyOf ((l.drop p).take (dySize wide)) 0 wide big = dyOf l p wide big := by
 unfold dyOf
 have h0 : 0 + dyW wide ≤ dySize wide := by unfold dySize; omega
 have h1 : dyW wide + dyW wide ≤ dySize wide := by unfold dySize; omega
 rw [Nat.zero_add, dyG_sub l p 0 _ wide big h0, dyG_sub l p (dyW wide) _ wide big h1, Nat.add_zero]
def dynTo (l : List UInt8) (wide big : Bool) (k : Nat) : List Dy := (List.range k).map fun i => dyOf l (i * dySize wide) wide big
theorem dynTo_len (l : List UInt8) (wide big : Bool) (k : Nat) : (dynTo l wide big k).length = k := by simp [dynTo]
theorem dynTo_succ (l : List UInt8) (wide big : Bool) (k : Nat) : dynTo l wide big (k + 1) = dynTo l wide big k ++ [dyOf l (k * dySize wide) wide big] := by
 simp [dynTo, List.range_succ]
def dyAt (l : List UInt8) (wide big : Bool) (k : Nat) : Bool := decide (l.length < k * dySize wide + dySize wide) || (dyOf l (k * dySize wide) wide big).tag == 0
def dyK (l : List UInt8) (wide big : Bool) : Nat := (List.range (l.length + 1)).findIdx (dyAt l wide big)
def dyIn (l : List UInt8) (wide big : Bool) : Bool := decide (dyK l wide big * dySize wide + dySize wide ≤ l.length)
def dyns (l : List UInt8) (wide big : Bool) : List Dy := dynTo l wide big (dyK l wide big)
theorem dyK_spec (l : List UInt8) (wide big : Bool) : dyAt l wide big (dyK l wide big) = true ∧ ∀ j, j < dyK l wide big → dyAt l wide big j = false := by
 have h : (List.range (l.length + 1)).findIdx (dyAt l wide big) < (List.range (l.length + 1)).length := by
  rw [List.findIdx_lt_length]
  refine ⟨l.length, by simp, ?_⟩
  have : l.length * 1 ≤ l.length * dySize wide := Nat.mul_le_mul_left _ (dySize_pos wide)
  have := dySize_pos wide
  rw [dyAt, decide_eq_true (by omega), Bool.true_or]
 refine ⟨?_, fun j hj => ?_⟩
 ·have := List.findIdx_getElem (w := h)
  rwa [List.getElem_range] at this
 ·have := List.not_of_lt_findIdx (xs := List.range (l.length + 1)) (p := dyAt l wide big) hj
  rw [List.getElem_range] at this
  simpa using this
theorem dyK_is {l : List UInt8} {wide big : Bool} {k : Nat} (h : dyAt l wide big k = true) (h2 : ∀ j, j < k → dyAt l wide big j = false) : dyK l wide big = k := by
 obtain ⟨h3, h4⟩ := dyK_spec l wide big
 rcases Nat.lt_trichotomy (dyK l wide big) k with h5 | h5 | h5
 ·rw [h2 _ h5] at h3; cases h3
 ·exact h5
 ·rw [h4 _ h5] at h; cases h
theorem dy_step (l : List UInt8) (wide big : Bool) (k : Nat) (hk : k ≤ dyK l wide big) :
  (l.length < k * dySize wide + dySize wide → dyK l wide big = k ∧ dyIn l wide big = false) ∧
  (k * dySize wide + dySize wide ≤ l.length → (dyOf l (k * dySize wide) wide big).tag = 0 → dyK l wide big = k ∧ dyIn l wide big = true) ∧
  (k * dySize wide + dySize wide ≤ l.length → (dyOf l (k * dySize wide) wide big).tag ≠ 0 → k + 1 ≤ dyK l wide big) := by
 obtain ⟨h3, h4⟩ := dyK_spec l wide big
 have key : dyAt l wide big k = true → dyK l wide big = k := fun h => dyK_is h fun j hj => h4 j (by omega)
 refine ⟨fun h => ?_, fun h h0 => ?_, fun h h0 => ?_⟩
 ·have e := key (by rw [dyAt, decide_eq_true h, Bool.true_or])
  exact ⟨e, by rw [dyIn, e]; exact decide_eq_false (by omega)⟩
 ·have e := key (by rw [dyAt, h0]; simp)
  exact ⟨e, by rw [dyIn, e]; exact decide_eq_true h⟩
 ·rcases Nat.lt_or_ge k (dyK l wide big) with h5 | h5
  ·exact h5
  ·obtain rfl : k = dyK l wide big := by omega
   rw [dyAt, decide_eq_false (by omega), Bool.false_or] at h3
   exact absurd (by simpa using h3) h0
theorem dyK_le (l : List UInt8) (wide big : Bool) : dyK l wide big * dySize wide ≤ l.length := by
 rcases Nat.eq_zero_or_pos (dyK l wide big) with h | h
 ·rw [h]; omega
 ·obtain ⟨k, hk⟩ : ∃ k, dyK l wide big = k + 1 := ⟨dyK l wide big - 1, by omega⟩
  have := (dyK_spec l wide big).2 k (by omega)
  simp only [dyAt, Bool.or_eq_false_iff, decide_eq_false_iff_not] at this
  rw [hk, Nat.succ_mul]
  omega
theorem dyn_mul {a b : Nat} (wide : Bool) (h : a < b) : a * dySize wide + dySize wide ≤ b * dySize wide := by
 have : (a + 1) * dySize wide ≤ b * dySize wide := Nat.mul_le_mul_right _ h
 rwa [Nat.succ_mul] at this
def dyF : List Dy → Nat → Nat × Bool
 | [], _ => (0, false)
 | s :: r, t => if s.tag == t then (s.val, true) else dyF r t
theorem dyF_at {L : List Dy} {k t : Nat} (h : k < L.length) : (L[k].tag = t → dyF (L.drop k) t = (L[k].val, true)) ∧ (L[k].tag ≠ t → dyF (L.drop (k + 1)) t = dyF (L.drop k) t) := by
 rw [List.drop_eq_getElem_cons h]
 constructor
 ·intro e
  simp [dyF, e]
 ·intro e
  simp [dyF, e]
theorem dyF_end (L : List Dy) (k t : Nat) (h : L.length ≤ k) : dyF (L.drop k) t = (0, false) := by rw [List.drop_eq_nil_of_le h]; rfl
structure Re where
 off : Nat
 sym : Nat
 ty : Nat
 add : Int
structure Re.Ok (p : Re) : Prop where
 off : p.off < 18446744073709551616
 sym : p.sym < 4294967296
 ty : p.ty < 4294967296
 lo : -9223372036854775808 ≤ p.add
 hi : p.add < 9223372036854775808
def Re.C (p : Re) : Array Value := #[.int .u64 (p.off : Int), .int .u32 (p.sym : Int), .int .u32 (p.ty : Int), .int .i64 p.add]
def Re.V (p : Re) : Value := .agg p.C
def re0 : Re := ⟨0, 0, 0, 0⟩
theorem Re.one (p : Re) : p.C.all (·.oneCell') = true := by simp [Re.C, Value.oneCell']
def reW (wide : Bool) : Nat := byWide wide 4 8
def reN (adds : Bool) : Nat := if adds then 3 else 2
def reSize (wide adds : Bool) : Nat := reN adds * reW wide
def reRow (wide adds : Bool) : List Nat := if adds then [reW wide, reW wide, reW wide] else [reW wide, reW wide]
def reK (wide : Bool) : Nat := byWide wide 256 4294967296
def reM (wide : Bool) : Nat := byWide wide 4294967296 18446744073709551616
theorem len_reRow (wide adds : Bool) : (reRow wide adds).length = reN adds := by cases adds <;> rfl
theorem sum_reRow (wide adds : Bool) : sumN (reRow wide adds) = reSize wide adds := by cases wide <;> cases adds <;> rfl
theorem reSize_pos (wide adds : Bool) : 0 < reSize wide adds := by cases wide <;> cases adds <;> decide
theorem reSize_le (wide adds : Bool) : reSize wide adds ≤ 24 := by cases wide <;> cases adds <;> decide
def Re.both (p : Re) (wide : Bool) : Nat := reK wide * p.sym + p.ty
def Re.ad (p : Re) (wide : Bool) : Nat := (p.add % (reM wide : Nat)).toNat
def Re.May (p : Re) (wide adds : Bool) : Bool :=
 (adds || p.add == 0) && (wide || (decide (p.off < 4294967296) && decide (p.sym < 16777216) && decide (p.ty < 256) && decide (-2147483648 ≤ p.add) && decide (p.add ≤ 2147483647)))
def Re.Q (p : Re) (wide adds : Bool) : List (Nat × Nat) :=
 if adds then [(p.off, reW wide), (p.both wide, reW wide), (p.ad wide, reW wide)] else [(p.off, reW wide), (p.both wide, reW wide)]
theorem reM_pow (wide : Bool) : 256 ^ reW wide = reM wide := by cases wide <;> rfl
def sg (wide : Bool) (v : Nat) : Int := if v < byWide wide 2147483648 9223372036854775808 then (v : Int) else (v : Int) - (reM wide : Nat)
def ofN (wide adds : Bool) (x : List Nat) : Re := ⟨x.getD 0 0, x.getD 1 0 / reK wide, x.getD 1 0 % reK wide, if adds then sg wide (x.getD 2 0) else 0⟩
def reOf (l : List UInt8) (p : Nat) (wide adds big : Bool) : Re := ofN wide adds (nums l big p (reRow wide adds))
theorem ofN_lt {wide adds : Bool} {x : List Nat} (hl : x.length = reN adds) (h : ∀ k (h : k < x.length), x[k] < reM wide) : ∃ x0 x1 x2 : Nat, x = (if adds then [x0, x1, x2] else [x0, x1]) ∧ x0 < reM wide ∧ x1 < reM wide ∧ x2 < reM wide := by
 cases adds
 ·obtain ⟨x0, x1, rfl⟩ := list2 hl
  exact ⟨x0, x1, 0, rfl, h 0 (by simp), h 1 (by simp), by cases wide <;> decide⟩
 ·obtain ⟨x0, x1, x2, rfl⟩ := list3 hl
  exact ⟨x0, x1, x2, rfl, h 0 (by simp), h 1 (by simp), h 2 (by simp)⟩
theorem ofN_of (wide adds : Bool) (x0 x1 x2 : Nat) : ofN wide adds (if adds then [x0, x1, x2] else [x0, x1]) = ⟨x0, x1 / reK wide, x1 % reK wide, if adds then sg wide x2 else 0⟩ := by cases adds <;> rfl
theorem ofN_back {wide adds : Bool} {x0 x1 x2 : Nat} (h0 : x0 < reM wide) (h1 : x1 < reM wide) (h2 : x2 < reM wide) :
  (Re.mk x0 (x1 / reK wide) (x1 % reK wide) (if adds then sg wide x2 else 0)).Ok ∧ (Re.mk x0 (x1 / reK wide) (x1 % reK wide) (if adds then sg wide x2 else 0)).May wide adds = true ∧
  (Re.mk x0 (x1 / reK wide) (x1 % reK wide) (if adds then sg wide x2 else 0)).Q wide adds = (if adds then [x0, x1, x2] else [x0, x1]).zip (reRow wide adds) := by
 have hs : adds = true → Re.ad ⟨x0, x1 / reK wide, x1 % reK wide, sg wide x2⟩ wide = x2 := by
  intro _
  cases wide
  ·simp only [sg, Re.ad, reM, byWide, Bool.false_eq_true, if_false] at *
   split <;> omega
  ·simp only [sg, Re.ad, reM, byWide, if_true] at *
   split <;> omega
 have hb : ∀ a, Re.both ⟨x0, x1 / reK wide, x1 % reK wide, a⟩ wide = x1 := by
  intro a
  cases wide
  ·simp only [Re.both, reK, byWide, Bool.false_eq_true, if_false]
   omega
  ·simp only [Re.both, reK, byWide, if_true]
   omega
 refine ⟨?_, ?_, ?_⟩
 ·cases wide
  ·simp only [sg, reM, reK, byWide, Bool.false_eq_true, if_false] at *
   constructor <;> simp only [] <;> (try split) <;> (try split) <;> omega
  ·simp only [sg, reM, reK, byWide, if_true] at *
   constructor <;> simp only [] <;> (try split) <;> (try split) <;> omega
 ·have hz : (adds || ((if adds then sg wide x2 else 0) == 0)) = true := by cases adds <;> rfl
  simp only [Re.May, hz, Bool.true_and]
  cases wide
  ·simp only [sg, reM, reK, byWide, Bool.false_eq_true, if_false, Bool.false_or, Bool.and_eq_true, decide_eq_true_eq] at *
   refine ⟨⟨⟨⟨?_, ?_⟩, ?_⟩, ?_⟩, ?_⟩ <;> (try split) <;> (try split) <;> omega
  ·rfl
 ·cases adds
  ·simp [Re.Q, hb, reRow]
  ·simp [Re.Q, hb, hs rfl, reRow]
theorem reOf_nums (l : List UInt8) (p : Nat) (wide adds big : Bool) : ∃ x0 x1 x2 : Nat, nums l big p (reRow wide adds) = (if adds then [x0, x1, x2] else [x0, x1]) ∧ x0 < reM wide ∧ x1 < reM wide ∧ x2 < reM wide ∧
  reOf l p wide adds big = ⟨x0, x1 / reK wide, x1 % reK wide, if adds then sg wide x2 else 0⟩ := by
 have hl : (nums l big p (reRow wide adds)).length = reN adds := by rw [length_nums, len_reRow]
 obtain ⟨x0, x1, x2, hx, h0, h1, h2⟩ := ofN_lt (wide := wide) hl fun k hk => by
  refine Nat.lt_of_lt_of_le (nums_lt l big (reRow wide adds) p k hk) ?_
  rw [← reM_pow]
  refine Nat.pow_le_pow_right (by decide) ?_
  rw [hl] at hk
  cases adds
  ·match k, hk with
   | 0, _ => exact Nat.le_refl _
   | 1, _ => exact Nat.le_refl _
  ·match k, hk with
   | 0, _ => exact Nat.le_refl _
   | 1, _ => exact Nat.le_refl _
   | 2, _ => exact Nat.le_refl _
 refine ⟨x0, x1, x2, hx, h0, h1, h2, ?_⟩
 rw [reOf, hx, ofN_of]
theorem reOf_ok (l : List UInt8) (p : Nat) (wide adds big : Bool) : (reOf l p wide adds big).Ok ∧ (reOf l p wide adds big).May wide adds = true ∧ (reOf l p wide adds big).Q wide adds = (nums l big p (reRow wide adds)).zip (reRow wide adds) := by
 obtain ⟨x0, x1, x2, hx, h0, h1, h2, e⟩ := reOf_nums l p wide adds big
 rw [e, hx]
 exact ofN_back h0 h1 h2
theorem nums_dropR (l : List UInt8) (big : Bool) (p : Nat) : ∀ (r : List Nat) (q : Nat), nums (l.drop p) big q r = nums l big (p + q) r
 | [], _ => rfl
 | n :: r, q => by simp only [nums, List.drop_drop, nums_dropR l big p r (q + n), Nat.add_assoc]
theorem nums_takeR (l : List UInt8) (big : Bool) (s : Nat) : ∀ (r : List Nat) (q : Nat), q + sumN r ≤ s → nums (l.take s) big q r = nums l big q r
 | [], _, _ => rfl
 | n :: r, q, h => by
  simp only [sumN] at h
  simp only [nums, nums_takeR l big s r (q + n) (by omega)]
  rw [List.drop_take, List.take_take, Nat.min_eq_left (by omega)]
theorem reOf_sub (l : List UInt8) (p : Nat) (wide adds big : Bool) : reOf ((l.drop p).take (reSize wide adds)) 0 wide adds big = reOf l p wide adds big := by
 unfold reOf
 rw [nums_takeR _ _ _ _ _ (by rw [sum_reRow]; omega), nums_dropR, Nat.add_zero]
def relsTo (l : List UInt8) (wide adds big : Bool) (k : Nat) : List Re := (List.range k).map fun i => reOf l (i * reSize wide adds) wide adds big
theorem relsTo_len (l : List UInt8) (wide adds big : Bool) (k : Nat) : (relsTo l wide adds big k).length = k := by simp [relsTo]
theorem relsTo_succ (l : List UInt8) (wide adds big : Bool) (k : Nat) : relsTo l wide adds big (k + 1) = relsTo l wide adds big k ++ [reOf l (k * reSize wide adds) wide adds big] := by
 simp [relsTo, List.range_succ]
theorem relsTo_ok (l : List UInt8) (wide adds big : Bool) (k : Nat) : ∀ s ∈ relsTo l wide adds big k, s.Ok := fun s hs => by
 obtain ⟨i, _, rfl⟩ := List.mem_map.1 hs
 exact (reOf_ok _ _ _ _ _).1
def rels (l : List UInt8) (wide adds big : Bool) : List Re := relsTo l wide adds big (l.length / reSize wide adds)
end Go.Proofs.Ytfpihkbpelbcbaa
