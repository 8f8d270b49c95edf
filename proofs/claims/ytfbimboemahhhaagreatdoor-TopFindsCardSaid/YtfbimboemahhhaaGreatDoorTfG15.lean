/-
  Several texts in one: Plain mathematics of a GNU hash table; Plain mathematics of a merge sort's steps over a row told as a function; append onto bytes and onto numbers of the call's own, beside other blocks that it writes.
-/
import Derived.Test.YtfbimboemahhhaaGreatDoorTfG3
import Derived.Laws.BitsAllLaws
import Derived.Test.YtfbimboemahhhaaGreatDoorTfG2
import Derived.Test.YtfbimboemahhhaaGreatDoorTfG4
import Derived.Lib.AppendStr
import Derived.Maps.OwnSet
import Derived.Deep.OwnRows
namespace Go.Proofs.YtfbimboemahhhaaGreatDoor
/-! ### Hashes -/
def gnH (s : Bs) : Nat := s.foldl (fun h b => (h * 33 + b.toNat) % 4294967296) 5381
theorem gnH_snoc (s : Bs) (b : UInt8) : gnH (s ++ [b]) = (gnH s * 33 + b.toNat) % 4294967296 := by simp [gnH]
theorem gnH_lt (s : Bs) : gnH s < 4294967296 := by
 rcases List.eq_nil_or_concat s with h | ⟨t, b, h⟩
 ·subst h; decide
 ·subst h
  rw [List.concat_eq_append, gnH_snoc]
  exact Nat.mod_lt _ (by decide)
theorem gnH_take (s : Bs) (k : Nat) (b : UInt8) (h : s[k]? = some b) : gnH (s.take (k + 1)) = (gnH (s.take k) * 33 + b.toNat) % 4294967296 := by
 obtain ⟨h1, h2⟩ := List.getElem?_eq_some_iff.1 h
 rw [List.take_succ_eq_append_getElem h1, h2, gnH_snoc]
/-! ### Numbers in a row -/
def layN (z : Nat) (big : Bool) (f : Nat → Nat) : Nat → List UInt8
 | 0 => []
 | n + 1 => layN z big f n ++ putB (f n) z big
theorem length_layN (z : Nat) (big : Bool) (f : Nat → Nat) : ∀ n, (layN z big f n).length = n * z
 | 0 => by simp [layN]
 | n + 1 => by rw [layN, List.length_append, length_layN z big f n, length_putB, Nat.add_mul, Nat.one_mul]
theorem layN_at (z : Nat) (big : Bool) (f : Nat → Nat) (i : Nat) : ∀ n, i < n → ((layN z big f n).drop (i * z)).take z = putB (f i) z big
 | 0, h => absurd h (by omega)
 | n + 1, h => by
  have hl := length_layN z big f n
  rw [layN]
  by_cases e : i = n
  ·subst e
   rw [List.drop_append_of_le_length (by omega), List.drop_of_length_le (by omega), List.nil_append, List.take_of_length_le (by rw [length_putB]; exact Nat.le_refl _)]
  ·have h1 : i < n := by omega
   have h2 : (i + 1) * z ≤ n * z := Nat.mul_le_mul_right z (by omega)
   rw [Nat.add_mul, Nat.one_mul] at h2
   rw [List.drop_append_of_le_length (by omega), List.take_append_of_le_length (by rw [List.length_drop]; omega)]
   exact layN_at z big f i n h1
theorem seg_at (a c : List UInt8) (z : Nat) (big : Bool) (f : Nat → Nat) (n i : Nat) (h : i < n) : ((a ++ (layN z big f n ++ c)).drop (a.length + i * z)).take z = putB (f i) z big ∧ a.length + i * z + z ≤ (a ++ (layN z big f n ++ c)).length := by
 have hl := length_layN z big f n
 have h2 : (i + 1) * z ≤ n * z := Nat.mul_le_mul_right z (by omega)
 rw [Nat.add_mul, Nat.one_mul] at h2
 refine ⟨?_, by simp only [List.length_append]; omega⟩
 rw [List.drop_append, List.drop_of_length_le (by omega), List.nil_append, show a.length + i * z - a.length = i * z by omega, List.drop_append_of_le_length (by omega), List.take_append_of_le_length (by rw [List.length_drop]; omega)]
 exact layN_at z big f i n h
/-! ### Bits -/
theorem or_one (x : Nat) : x ||| 1 = x / 2 * 2 + 1 := by
 have h1 : (x ||| 1) / 2 = x / 2 := by rw [Nat.or_div_two]; simp
 have h2 : (x ||| 1) % 2 = 1 := by rw [Nat.or_mod_two_eq_one]; exact .inr rfl
 omega
def wdTo (pl bt : Nat → Nat) : Nat → Nat → Nat
 | 0, _ => 0
 | k + 1, j => if j = pl k then wdTo pl bt k (pl k) ||| bt k else wdTo pl bt k j
theorem wdTo_lt {pl bt : Nat → Nat} {m : Nat} : ∀ (n j : Nat), (∀ i, i < n → bt i < 2 ^ m) → wdTo pl bt n j < 2 ^ m
 | 0, _, _ => Nat.two_pow_pos m
 | n + 1, j, h => by
  have h1 := fun j => wdTo_lt (pl := pl) (bt := bt) (m := m) n j fun i hi => h i (by omega)
  unfold wdTo
  split
  ·exact Nat.or_lt_two_pow (h1 _) (h n (by omega))
  ·exact h1 j
theorem wdTo_has (pl bt : Nat → Nat) (i : Nat) : ∀ n, i < n → wdTo pl bt n (pl i) &&& bt i = bt i
 | 0, h => absurd h (by omega)
 | n + 1, h => by
  apply Nat.eq_of_testBit_eq
  intro b
  rw [Nat.testBit_and]
  unfold wdTo
  by_cases e : i = n
  ·subst e
   rw [if_pos rfl, Nat.testBit_or]
   cases (bt i).testBit b <;> simp
  ·have h1 := congrArg (fun x => Nat.testBit x b) (wdTo_has pl bt i n (by omega))
   simp only [Nat.testBit_and] at h1
   split
   ·rename_i e2
    rw [← e2, Nat.testBit_or]
    revert h1
    cases (wdTo pl bt n (pl i)).testBit b <;> cases (bt i).testBit b <;> simp
   ·exact h1
def plTo (first : Nat) (kk : Nat → Nat) : Nat → Nat → Nat
 | 0, _ => 0
 | k + 1, j => if j = kk k then (if plTo first kk k (kk k) = 0 then first + k else plTo first kk k (kk k)) else plTo first kk k j
theorem plTo_is (first : Nat) (kk : Nat → Nat) (hf : 0 < first) : ∀ n j, (plTo first kk n j = 0 ∧ ∀ i, i < n → kk i ≠ j) ∨ ∃ i, i < n ∧ plTo first kk n j = first + i ∧ kk i = j ∧ ∀ x, x < i → kk x ≠ j
 | 0, j => .inl ⟨rfl, fun i hi => absurd hi (by omega)⟩
 | n + 1, j => by
  unfold plTo
  by_cases e : j = kk n
  ·rw [if_pos e, ← e]
   rcases plTo_is first kk hf n j with ⟨h1, h2⟩ | ⟨i, h1, h2, h3, h4⟩
   ·rw [if_pos h1]
    exact .inr ⟨n, by omega, rfl, e.symm, h2⟩
   ·rw [if_neg (by omega)]
    exact .inr ⟨i, by omega, h2, h3, h4⟩
  ·rw [if_neg e]
   rcases plTo_is first kk hf n j with ⟨h1, h2⟩ | ⟨i, h1, h2, h3, h4⟩
   ·refine .inl ⟨h1, fun i hi => ?_⟩
    by_cases e2 : i = n
    ·subst e2; exact fun h => e h.symm
    ·exact h2 i (by omega)
   ·exact .inr ⟨i, by omega, h2, h3, h4⟩
/-! ### A table -/
structure Gn where
 first : Nat
 buckets : Nat
 words : Nat
 shift : Nat
 wide : Bool
 big : Bool
 L : List Bs
namespace Gn
variable (t : Gn)
def n : Nat := t.L.length
def z : Nat := if t.wide then 8 else 4
def h (i : Nat) : Nat := gnH (t.L.getD i [])
def k (i : Nat) : Nat := t.h i % t.buckets
def at_ (x : Nat) : Nat := x / (8 * t.z) % t.words
def bt (x : Nat) : Nat := 2 ^ (x % (8 * t.z)) ||| 2 ^ (x / 2 ^ t.shift % (8 * t.z))
def wd (j : Nat) : Nat := wdTo (fun i => t.at_ (t.h i)) (fun i => t.bt (t.h i)) t.n j
def pl (j : Nat) : Nat := plTo t.first t.k t.n j
def last (i : Nat) : Bool := decide (i + 1 = t.n) || decide (t.k i ≠ t.k (i + 1))
def ch (i : Nat) : Nat := t.h i / 2 * 2 + (if t.last i then 1 else 0)
def hd (i : Nat) : Nat := [t.buckets, t.first, t.words, t.shift].getD i 0
def B0 : List UInt8 := layN 4 t.big t.hd 4
def B1 : List UInt8 := layN t.z t.big t.wd t.words
def B2 : List UInt8 := layN 4 t.big t.pl t.buckets
def B3 : List UInt8 := layN 4 t.big t.ch t.n
def B : List UInt8 := t.B0 ++ t.B1 ++ t.B2 ++ t.B3
structure Ok : Prop where
 f1 : 1 ≤ t.first
 f2 : t.first ≤ 65536
 b1 : 1 ≤ t.buckets
 b2 : t.buckets ≤ 1024
 w1 : 1 ≤ t.words
 w2 : t.words ≤ 1024
 s2 : t.shift ≤ 31
 n2 : t.n ≤ 1000
 up : ∀ i j, i ≤ j → j < t.n → t.k i ≤ t.k j
 each : ∀ s ∈ t.L, s.length ≤ 500
variable {t : Gn}
theorem z_pos : t.z = 4 ∨ t.z = 8 := by unfold z; split <;> simp
theorem bt_lt (x : Nat) : t.bt x < 2 ^ (8 * t.z) := by
 have hz := t.z_pos
 unfold bt
 exact Nat.or_lt_two_pow (Nat.pow_lt_pow_right (by decide) (Nat.mod_lt _ (by omega))) (Nat.pow_lt_pow_right (by decide) (Nat.mod_lt _ (by omega)))
theorem wd_lt (j : Nat) : t.wd j < 2 ^ (8 * t.z) := wdTo_lt _ _ fun _ _ => t.bt_lt _
theorem wd_pow (j : Nat) : t.wd j < 256 ^ t.z := by rw [pow256]; exact t.wd_lt j
theorem wd_64 (j : Nat) : t.wd j < 18446744073709551616 := by
 have h1 := t.wd_lt j
 have h2 : 2 ^ (8 * t.z) ≤ 2 ^ 64 := Nat.pow_le_pow_right (by decide) (by have := t.z_pos; omega)
 exact Nat.lt_of_lt_of_le h1 h2
theorem pl_lt (ht : t.Ok) (j : Nat) : t.pl j < 4294967296 := by
 have h1 := ht.f2
 have h2 := ht.n2
 unfold pl
 rcases plTo_is t.first t.k ht.f1 t.n j with ⟨h, _⟩ | ⟨i, hi, h, _⟩ <;> omega
theorem h_lt (i : Nat) : t.h i < 4294967296 := gnH_lt _
theorem ch_lt (i : Nat) : t.ch i < 4294967296 := by
 have := t.h_lt i
 unfold ch
 split <;> omega
theorem hd_lt (ht : t.Ok) (i : Nat) (hi : i < 4) : t.hd i < 4294967296 := by
 have := ht.f2
 have := ht.b2
 have := ht.w2
 have := ht.s2
 unfold hd
 match i, hi with
 | 0, _ => simp; omega
 | 1, _ => simp; omega
 | 2, _ => simp; omega
 | 3, _ => simp; omega
theorem at_lt (ht : t.Ok) (x : Nat) : t.at_ x < t.words := Nat.mod_lt _ (by have := ht.w1; omega)
theorem len : t.B.length = 16 + t.words * t.z + t.buckets * 4 + t.n * 4 := by
 simp only [B, B0, B1, B2, B3, List.length_append, length_layN]
theorem read0 (ht : t.Ok) (i : Nat) (hi : i < 4) : i * 4 + 4 ≤ t.B.length ∧ getB ((t.B.drop (i * 4)).take 4) t.big = t.hd i := by
 have := seg_at [] (t.B1 ++ t.B2 ++ t.B3) 4 t.big t.hd 4 i hi
 simp only [List.length_nil, Nat.zero_add, List.nil_append] at this
 have e : t.B = layN 4 t.big t.hd 4 ++ (t.B1 ++ t.B2 ++ t.B3) := by simp [B, B0]
 rw [← e] at this
 exact ⟨this.2, by rw [this.1, getB_putB]; exact Nat.mod_eq_of_lt (t.hd_lt ht i hi)⟩
theorem read1 (j : Nat) (hj : j < t.words) : 16 + j * t.z + t.z ≤ t.B.length ∧ getB ((t.B.drop (16 + j * t.z)).take t.z) t.big = t.wd j := by
 have := seg_at t.B0 (t.B2 ++ t.B3) t.z t.big t.wd t.words j hj
 have e : t.B = t.B0 ++ (layN t.z t.big t.wd t.words ++ (t.B2 ++ t.B3)) := by simp [B, B1]
 rw [← e, show t.B0.length = 16 by simp [B0, length_layN]] at this
 exact ⟨this.2, by rw [this.1, getB_putB]; exact Nat.mod_eq_of_lt (t.wd_pow j)⟩
theorem read2 (ht : t.Ok) (j : Nat) (hj : j < t.buckets) : 16 + t.words * t.z + j * 4 + 4 ≤ t.B.length ∧ getB ((t.B.drop (16 + t.words * t.z + j * 4)).take 4) t.big = t.pl j := by
 have := seg_at (t.B0 ++ t.B1) t.B3 4 t.big t.pl t.buckets j hj
 have e : t.B = t.B0 ++ t.B1 ++ (layN 4 t.big t.pl t.buckets ++ t.B3) := by simp [B, B2]
 rw [← e, show (t.B0 ++ t.B1).length = 16 + t.words * t.z by simp [B0, B1, length_layN]] at this
 exact ⟨this.2, by rw [this.1, getB_putB]; exact Nat.mod_eq_of_lt (t.pl_lt ht j)⟩
theorem read3 (i : Nat) (hi : i < t.n) : 16 + t.words * t.z + t.buckets * 4 + i * 4 + 4 ≤ t.B.length ∧ getB ((t.B.drop (16 + t.words * t.z + t.buckets * 4 + i * 4)).take 4) t.big = t.ch i := by
 have := seg_at (t.B0 ++ t.B1 ++ t.B2) [] 4 t.big t.ch t.n i hi
 have e : t.B = t.B0 ++ t.B1 ++ t.B2 ++ (layN 4 t.big t.ch t.n ++ []) := by simp [B, B3]
 rw [← e, show (t.B0 ++ t.B1 ++ t.B2).length = 16 + t.words * t.z + t.buckets * 4 by simp [B0, B1, B2, length_layN]; omega] at this
 exact ⟨this.2, by rw [this.1, getB_putB]; exact Nat.mod_eq_of_lt (t.ch_lt i)⟩
/-! ### Where a name is found -/
def Fst (t : Gn) (s : Bs) (v : Nat) : Prop := (v = 0 ∧ ∀ i, i < t.n → t.L.getD i [] ≠ s) ∨ ∃ i, i < t.n ∧ v = t.first + i ∧ t.L.getD i [] = s ∧ ∀ x, x < i → t.L.getD x [] ≠ s
theorem Fst.eq {s : Bs} {u v : Nat} (hu : t.Fst s u) (hv : t.Fst s v) : u = v := by
 rcases hu with ⟨h1, h2⟩ | ⟨i, h1, h2, h3, h4⟩
 ·rcases hv with ⟨k1, _⟩ | ⟨j, k1, _, k3, _⟩
  ·omega
  ·exact absurd k3 (h2 j k1)
 ·rcases hv with ⟨_, k2⟩ | ⟨j, k1, k2, k3, k4⟩
  ·exact absurd h3 (k2 i h1)
  ·have : i = j := by
    rcases Nat.lt_trichotomy i j with h | h | h
    ·exact absurd h3 (k4 i h)
    ·exact h
    ·exact absurd k3 (h4 j h)
   omega
theorem no_bits {s : Bs} (hb : t.wd (t.at_ (gnH s)) &&& t.bt (gnH s) ≠ t.bt (gnH s)) : ∀ i, i < t.n → t.L.getD i [] ≠ s := fun i hi e => by
 apply hb
 have := wdTo_has (fun i => t.at_ (t.h i)) (fun i => t.bt (t.h i)) i t.n hi
 simp only [h, e] at this
 exact this
theorem bucket_is (ht : t.Ok) (s : Bs) : (t.pl (gnH s % t.buckets) = 0 ∧ ∀ i, i < t.n → t.L.getD i [] ≠ s) ∨
  ∃ i, i < t.n ∧ t.pl (gnH s % t.buckets) = t.first + i ∧ t.k i = gnH s % t.buckets ∧ ∀ x, x < i → t.L.getD x [] ≠ s := by
 have hne : ∀ i, t.k i ≠ gnH s % t.buckets → t.L.getD i [] ≠ s := fun i hk e => hk (by simp only [k, h, e])
 rcases plTo_is t.first t.k ht.f1 t.n (gnH s % t.buckets) with ⟨h1, h2⟩ | ⟨i, h1, h2, h3, h4⟩
 ·exact .inl ⟨h1, fun i hi => hne i (h2 i hi)⟩
 ·exact .inr ⟨i, h1, h2, h3, fun x hx => hne x (h4 x hx)⟩
theorem ch_half (i : Nat) : t.ch i / 2 = t.h i / 2 ∧ t.ch i % 2 = if t.last i then 1 else 0 := by
 unfold ch
 split <;> omega
theorem past_last (ht : t.Ok) {s : Bs} {i : Nat} (hi : i < t.n) (hk : t.k i = gnH s % t.buckets) (hl : t.last i = true) (hno : ∀ x, x ≤ i → t.L.getD x [] ≠ s) : ∀ x, x < t.n → t.L.getD x [] ≠ s := fun x hx e => by
 rcases Nat.lt_or_ge i x with hix | hix
 ·have e1 : t.k x = gnH s % t.buckets := by simp only [k, h, e]
  simp only [last, Bool.or_eq_true, decide_eq_true_eq] at hl
  rcases hl with hl | hl
  ·omega
  ·have a1 := ht.up i (i + 1) (by omega) (by omega)
   have a2 := ht.up (i + 1) x (by omega) hx
   omega
 ·exact hno x hix e
theorem not_last {i : Nat} (hi : i < t.n) (hl : t.last i = false) : i + 1 < t.n ∧ t.k (i + 1) = t.k i := by
 simp only [last, Bool.or_eq_false_iff, decide_eq_false_iff_not] at hl
 refine ⟨by omega, ?_⟩
 have := hl.2
 omega
end Gn
end Go.Proofs.YtfbimboemahhhaaGreatDoor
namespace Go.Proofs.YtfbimboemahhhaaGreatDoor
def xch (i j : Nat) (f : Nat → Nat) (x : Nat) : Nat := if x = j then f i else if x = i then f j else f x
def swp (a b n : Nat) (f : Nat → Nat) (x : Nat) : Nat := if a ≤ x ∧ x < a + n then f (x - a + b) else if b ≤ x ∧ x < b + n then f (x - b + a) else f x
def rot (a m b : Nat) (f : Nat → Nat) (x : Nat) : Nat := if a ≤ x ∧ x < a + (b - m) then f (x + (m - a)) else if a + (b - m) ≤ x ∧ x < b then f (x - (b - m)) else f x
def Mix (a b : Nat) (f g : Nat → Nat) : Prop := (∀ x, x < a ∨ b ≤ x → g x = f x) ∧ ∀ x, a ≤ x → x < b → ∃ y, a ≤ y ∧ y < b ∧ g x = f y
def Rise (key : Nat → Nat) (a b : Nat) (f : Nat → Nat) : Prop := ∀ x y, a ≤ x → x ≤ y → y < b → key (f x) ≤ key (f y)
section
variable {a b m : Nat} {f g h : Nat → Nat} {key : Nat → Nat}
theorem Mix.refl (a b : Nat) (f : Nat → Nat) : Mix a b f f := ⟨fun _ _ => rfl, fun x h1 h2 => ⟨x, h1, h2, rfl⟩⟩
theorem Mix.trans (h1 : Mix a b f g) (h2 : Mix a b g h) : Mix a b f h := ⟨fun x hx => (h2.1 x hx).trans (h1.1 x hx), fun x ha hb => by
 obtain ⟨y, y1, y2, e⟩ := h2.2 x ha hb
 obtain ⟨z, z1, z2, e'⟩ := h1.2 y y1 y2
 exact ⟨z, z1, z2, e.trans e'⟩⟩
theorem Mix.mono {a' b' : Nat} (h1 : Mix a b f g) (ha : a' ≤ a) (hb : b ≤ b') : Mix a' b' f g := ⟨fun x hx => h1.1 x (by omega), fun x h2 h3 => by
 by_cases hx : a ≤ x ∧ x < b
 ·obtain ⟨y, y1, y2, e⟩ := h1.2 x hx.1 hx.2
  exact ⟨y, by omega, by omega, e⟩
 ·exact ⟨x, h2, h3, h1.1 x (by omega)⟩⟩
theorem Mix.lt {N n : Nat} (h1 : Mix a b f g) (hb : b ≤ n) (hf : ∀ x, x < n → f x < N) : ∀ x, x < n → g x < N := fun x hx => by
 by_cases hh : a ≤ x ∧ x < b
 ·obtain ⟨y, y1, y2, e⟩ := h1.2 x hh.1 hh.2
  rw [e]; exact hf y (by omega)
 ·rw [h1.1 x (by omega)]; exact hf x hx
theorem Rise.of_mix {c d : Nat} (hr : Rise key c d f) (h1 : Mix a b f g) (hd : d ≤ a ∨ b ≤ c) : Rise key c d g := fun x y h2 h3 h4 => by
 rw [h1.1 x (by omega), h1.1 y (by omega)]; exact hr x y h2 h3 h4
theorem Rise.one (key : Nat → Nat) (a b : Nat) (f : Nat → Nat) (hb : b ≤ a + 1) : Rise key a b f := fun x y h1 h2 h3 => by
 have : x = y := by omega
 subst this
 exact Nat.le_refl _
theorem mix_xch {i j : Nat} (f : Nat → Nat) (hi : a ≤ i ∧ i < b) (hj : a ≤ j ∧ j < b) : Mix a b f (xch i j f) := by
 refine ⟨fun x hx => ?_, fun x h1 h2 => ?_⟩
 ·rw [xch, if_neg (by omega), if_neg (by omega)]
 ·unfold xch
  split
  ·exact ⟨i, hi.1, hi.2, rfl⟩
  ·split
   ·exact ⟨j, hj.1, hj.2, rfl⟩
   ·exact ⟨x, h1, h2, rfl⟩
theorem mix_rot (f : Nat → Nat) (h1 : a ≤ m) (h2 : m ≤ b) : Mix a b f (rot a m b f) := by
 refine ⟨fun x hx => ?_, fun x h3 h4 => ?_⟩
 ·rw [rot, if_neg (by omega), if_neg (by omega)]
 ·unfold rot
  split
  ·exact ⟨_, by omega, by omega, rfl⟩
  ·split
   ·exact ⟨_, by omega, by omega, rfl⟩
   ·exact ⟨x, h3, h4, rfl⟩
theorem rot_left (a b : Nat) (f : Nat → Nat) : rot a b b f = f := by
 funext x
 unfold rot
 repeat' split
 all_goals first | rfl | (exfalso; omega) | (congr 1; omega)
theorem rot_right (a b : Nat) (f : Nat → Nat) (h : a ≤ b) : rot a a b f = f := by
 funext x
 unfold rot
 repeat' split
 all_goals first | rfl | (exfalso; omega) | (congr 1; omega)
theorem swp_zero (a b : Nat) (f : Nat → Nat) : swp a b 0 f = f := by
 funext x
 unfold swp
 repeat' split
 all_goals first | rfl | (exfalso; omega)
theorem swp_succ (a b i : Nat) (f : Nat → Nat) (h : a + i < b) : xch (a + i) (b + i) (swp a b i f) = swp a b (i + 1) f := by
 funext x
 unfold xch swp
 repeat' split
 all_goals first | rfl | (exfalso; omega) | (congr 1; omega)
theorem rot_one (m i j : Nat) (f : Nat → Nat) (hj : j < i) (hi : i ≤ m) : rot (m - (i - j)) m (m + j) (swp (m - i) m j f) = rot (m - i) m (m + j) f := by
 funext x
 unfold rot swp
 repeat' split
 all_goals first | rfl | (exfalso; omega) | (congr 1; omega)
theorem rot_two (m i j : Nat) (f : Nat → Nat) (hj : i < j) (hi : i ≤ m) : rot (m - i) m (m + (j - i)) (swp (m - i) (m + j - i) i f) = rot (m - i) m (m + j) f := by
 funext x
 unfold rot swp
 repeat' split
 all_goals first | rfl | (exfalso; omega) | (congr 1; omega)
theorem rot_three (m i : Nat) (f : Nat → Nat) (hi : i ≤ m) : swp (m - i) m i f = rot (m - i) m (m + i) f := by
 funext x
 unfold rot swp
 repeat' split
 all_goals first | rfl | (exfalso; omega) | (congr 1; omega)
theorem rot_up (a k : Nat) (f : Nat → Nat) (h : a ≤ k) : xch k (k + 1) (rot a (a + 1) (k + 1) f) = rot a (a + 1) (k + 2) f := by
 funext x
 unfold xch rot
 repeat' split
 all_goals first | rfl | (exfalso; omega) | (congr 1; omega)
theorem rot_down (k m : Nat) (f : Nat → Nat) (h : k + 1 ≤ m) : xch (k + 1) k (rot (k + 1) m (m + 1) f) = rot k m (m + 1) f := by
 funext x
 unfold xch rot
 repeat' split
 all_goals first | rfl | (exfalso; omega) | (congr 1; omega)
/-! ### Insertion -/
def Near (key : Nat → Nat) (a i j : Nat) (f : Nat → Nat) : Prop := ∀ x y, a ≤ x → x < y → y ≤ i → y ≠ j → key (f x) ≤ key (f y)
theorem near_start {i : Nat} (h : Rise key a i f) : Near key a i i f := fun x y h1 h2 h3 h4 => h x y h1 (by omega) (by omega)
theorem near_step {i j : Nat} (h : Near key a i (j + 1) f) (ha : a ≤ j) (hj : j + 1 ≤ i) (hl : key (f (j + 1)) < key (f j)) : Near key a i j (xch (j + 1) j f) := by
 intro x y h1 h2 h3 h4
 by_cases hy : y = j + 1
 ·subst hy
  have e1 : xch (j + 1) j f (j + 1) = f j := by simp [xch]
  rw [e1]
  by_cases hx : x = j
  ·subst hx
   simp only [xch, if_true]
   omega
  ·have e2 : xch (j + 1) j f x = f x := by simp only [xch]; rw [if_neg hx, if_neg (by omega)]
   rw [e2]
   exact h x j h1 (by omega) (by omega) (by omega)
 ·have e1 : xch (j + 1) j f y = f y := by simp only [xch]; rw [if_neg h4, if_neg hy]
  rw [e1]
  unfold xch
  split
  ·rename_i e; subst e
   exact h (x + 1) y (by omega) (by omega) h3 hy
  ·split
   ·rename_i e; subst e
    exact h j y ha (by omega) h3 hy
   ·exact h x y h1 h2 h3 hy
theorem near_out {i j : Nat} (h : Near key a i j f) (hj : j ≤ i) (hs : j ≤ a ∨ ∃ q, j = q + 1 ∧ a ≤ q ∧ key (f q) ≤ key (f j)) : Rise key a (i + 1) f := by
 intro x y h1 h2 h3
 rcases Nat.lt_or_eq_of_le h2 with h4 | h4
 ·by_cases hy : y = j
  ·subst hy
   rcases hs with hs | ⟨q, rfl, haq, hq⟩
   ·omega
   ·by_cases hx : x = q
    ·subst hx; exact hq
    ·exact Nat.le_trans (h x q h1 (by omega) (by omega) (by omega)) hq
  ·exact h x y h1 h4 (by omega) hy
 ·subst h4; exact Nat.le_refl _
/-! ### The symmetric merge -/
theorem rise_up {i : Nat} (ha : a < i) (hb : i ≤ b) (hr : Rise key (a + 1) b f) (h1 : ∀ x, a + 1 ≤ x → x < i → key (f x) ≤ key (f a)) (h2 : ∀ x, i ≤ x → x < b → key (f a) ≤ key (f x)) : Rise key a b (rot a (a + 1) i f) := by
 have e1 : ∀ x, a ≤ x → x + 1 < i → rot a (a + 1) i f x = f (x + 1) := fun x hx hx2 => by
  unfold rot; rw [if_pos (by omega)]; congr 1; omega
 have e2 : ∀ x, x + 1 = i → rot a (a + 1) i f x = f a := fun x hx => by
  unfold rot; rw [if_neg (by omega), if_pos (by omega)]; congr 1; omega
 have e3 : ∀ x, i ≤ x → rot a (a + 1) i f x = f x := fun x hx => by
  unfold rot; rw [if_neg (by omega), if_neg (by omega)]
 intro x y hx hxy hy
 rcases Nat.lt_trichotomy (y + 1) i with c | c | c
 ·rw [e1 x hx (by omega), e1 y (by omega) c]; exact hr _ _ (by omega) (by omega) (by omega)
 ·rw [e2 y c]
  rcases Nat.lt_or_ge (x + 1) i with d | d
  ·rw [e1 x hx d]; exact h1 _ (by omega) d
  ·rw [e2 x (by omega)]; exact Nat.le_refl _
 ·rw [e3 y (by omega)]
  rcases Nat.lt_trichotomy (x + 1) i with d | d | d
  ·rw [e1 x hx d]; exact hr _ _ (by omega) (by omega) hy
  ·rw [e2 x d]; exact h2 y (by omega) hy
  ·rw [e3 x (by omega)]; exact hr _ _ (by omega) hxy hy
theorem rise_down {i : Nat} (ha : a ≤ i) (hb : i ≤ m) (hr : Rise key a m f) (h1 : ∀ x, a ≤ x → x < i → key (f x) ≤ key (f m)) (h2 : ∀ x, i ≤ x → x < m → key (f m) ≤ key (f x)) : Rise key a (m + 1) (rot i m (m + 1) f) := by
 have e1 : ∀ x, x < i → rot i m (m + 1) f x = f x := fun x hx => by
  unfold rot; rw [if_neg (by omega), if_neg (by omega)]
 have e2 : rot i m (m + 1) f i = f m := by
  unfold rot; rw [if_pos (by omega)]; congr 1; omega
 have e3 : ∀ x, i < x → x ≤ m → rot i m (m + 1) f x = f (x - 1) := fun x hx hx2 => by
  unfold rot; rw [if_neg (by omega), if_pos (by omega)]; congr 1; omega
 intro x y hx hxy hy
 rcases Nat.lt_trichotomy y i with c | c | c
 ·rw [e1 x (by omega), e1 y c]; exact hr _ _ hx hxy (by omega)
 ·subst c
  rw [e2]
  rcases Nat.lt_or_ge x y with d | d
  ·rw [e1 x d]; exact h1 x hx d
  ·have : x = y := by omega
   subst this; rw [e2]; exact Nat.le_refl _
 ·rw [e3 y c (by omega)]
  rcases Nat.lt_trichotomy x i with d | d | d
  ·rw [e1 x d]; exact hr _ _ hx (by omega) (by omega)
  ·subst d; rw [e2]; exact h2 _ (by omega) (by omega)
  ·rw [e3 x d (by omega)]; exact hr _ _ (by omega) (by omega) (by omega)
def symS (a m b : Nat) : Nat := if (a + b) / 2 < m then (a + b) / 2 + m - b else a
def symR (a m b : Nat) : Nat := if (a + b) / 2 < m then (a + b) / 2 else m
theorem symS_ge : a ≤ symS a m b := by unfold symS; split <;> omega
theorem sym_le (_h1 : a < m) (_h2 : m < b) : symS a m b ≤ symR a m b := by unfold symS symR; split <;> omega
theorem symR_le : symR a m b ≤ m ∧ symR a m b ≤ (a + b) / 2 := by unfold symR; split <;> omega
theorem sym_at (h1 : a < m) {c : Nat} (hs : symS a m b ≤ c) (hr : c < symR a m b) : a ≤ c ∧ c < m ∧ m ≤ (a + b) / 2 + m - 1 - c ∧ (a + b) / 2 + m - 1 - c < b ∧ c ≤ (a + b) / 2 + m - 1 := by
 unfold symS at hs; unfold symR at hr
 split at hs <;> simp_all <;> omega
theorem search_up (h1 : a < m) (hl : Rise key a m f) (hr : Rise key m b f) {s c : Nat} (hs : symS a m b ≤ s) (hsc : s ≤ c) (hc : c < symR a m b) (hk : key (f c) ≤ key (f ((a + b) / 2 + m - 1 - c))) :
  ∀ x, symS a m b ≤ x → x < c + 1 → key (f x) ≤ key (f ((a + b) / 2 + m - 1 - x)) := fun x hx hx2 => by
 have A := sym_at h1 (by omega) hc
 have B := sym_at h1 hx (by omega)
 exact Nat.le_trans (hl x c B.1 (by omega) A.2.1) (Nat.le_trans hk (hr _ _ A.2.2.1 (by omega) B.2.2.2.1))
theorem search_down (h1 : a < m) (hl : Rise key a m f) (hr : Rise key m b f) {r c : Nat} (hs : symS a m b ≤ c) (hr1 : c < r) (hr2 : r ≤ symR a m b) (hk : key (f ((a + b) / 2 + m - 1 - c)) < key (f c)) :
  ∀ x, c ≤ x → x < symR a m b → key (f ((a + b) / 2 + m - 1 - x)) < key (f x) := fun x hx hx2 => by
 have A := sym_at h1 hs (by omega)
 have B := sym_at h1 (by omega) hx2
 exact Nat.lt_of_le_of_lt (hr _ _ B.2.2.1 (by omega) A.2.2.2.1) (Nat.lt_of_lt_of_le hk (hl c x A.1 hx B.2.1))
structure Halves (key : Nat → Nat) (a m b s : Nat) (h : Nat → Nat) : Prop where
 «as» : a ≤ s
 sm : s ≤ (a + b) / 2
 me : (a + b) / 2 ≤ (a + b) / 2 + m - s
 eb : (a + b) / 2 + m - s ≤ b
 r1 : Rise key a s h
 r2 : Rise key s ((a + b) / 2) h
 r3 : Rise key ((a + b) / 2) ((a + b) / 2 + m - s) h
 r4 : Rise key ((a + b) / 2 + m - s) b h
 le : ∀ x y, a ≤ x → x < (a + b) / 2 → (a + b) / 2 ≤ y → y < b → key (h x) ≤ key (h y)
theorem halves (h1 : a < m) (h2 : m < b) (hl : Rise key a m f) (hr : Rise key m b f) {s : Nat} (hs : symS a m b ≤ s) (hs2 : s ≤ symR a m b)
  (ho : ∀ x, symS a m b ≤ x → x < s → key (f x) ≤ key (f ((a + b) / 2 + m - 1 - x)))
  (hu : ∀ x, s ≤ x → x < symR a m b → key (f ((a + b) / 2 + m - 1 - x)) < key (f x)) : Halves key a m b s (rot s m ((a + b) / 2 + m - s) f) := by
 have hR := symR_le (a := a) (m := m) (b := b)
 have hS := symS_ge (a := a) (m := m) (b := b)
 obtain ⟨d, hd⟩ : ∃ d, d = (a + b) / 2 := ⟨_, rfl⟩
 have hd2 : 2 * d ≤ a + b ∧ a + b ≤ 2 * d + 1 := by omega
 rw [← hd] at ho hu hR ⊢
 obtain ⟨e, he⟩ : ∃ e, e = d + m - s := ⟨_, rfl⟩
 have hsm : s ≤ m := by omega
 have hsd : s ≤ d := by omega
 have heb : e ≤ b := by
  unfold symS at hs
  rw [← hd] at hs
  split at hs <;> omega
 rw [← he]
 -- the pieces behind the turn
 have e1 : ∀ x, x < s → rot s m e f x = f x := fun x hx => by unfold rot; rw [if_neg (by omega), if_neg (by omega)]
 have e2 : ∀ x, s ≤ x → x < d → rot s m e f x = f (x + (m - s)) := fun x hx hx2 => by unfold rot; rw [if_pos (by omega)]
 have e3 : ∀ x, d ≤ x → x < e → rot s m e f x = f (x - (e - m)) := fun x hx hx2 => by unfold rot; rw [if_neg (by omega), if_pos (by omega)]
 have e4 : ∀ x, e ≤ x → rot s m e f x = f x := fun x hx => by unfold rot; rw [if_neg (by omega), if_neg (by omega)]
 -- what is in front is not above what is behind
 have k1 : s ≤ a ∨ e = b ∨ (e < b ∧ key (f (s - 1)) ≤ key (f e)) := by
  by_cases hss : s = symS a m b
  ·unfold symS at hss
   rw [← hd] at hss
   split at hss <;> omega
  ·have := ho (s - 1) (by omega) (by omega)
   rw [show d + m - 1 - (s - 1) = e by omega] at this
   by_cases heb' : e < b
   ·exact .inr (.inr ⟨heb', this⟩)
   ·omega
 have k2 : s = m ∨ e = m ∨ (m < e ∧ s < m ∧ key (f (e - 1)) ≤ key (f s)) := by
  by_cases hss : s = symR a m b
  ·unfold symR at hss
   rw [← hd] at hss
   split at hss <;> omega
  ·have := hu s (Nat.le_refl _) (by omega)
   rw [show d + m - 1 - s = e - 1 by omega] at this
   by_cases hm : s < m ∧ m < e
   ·exact .inr (.inr ⟨hm.2, hm.1, Nat.le_of_lt this⟩)
   ·omega
 refine ⟨by omega, by omega, ?_, ?_, ?_, ?_, ?_, ?_, ?_⟩
 all_goals try rw [← hd]
 all_goals try rw [← he]
 ·omega
 ·exact heb
 ·intro x y hx hxy hy
  rw [e1 x (by omega), e1 y hy]; exact hl x y hx hxy (by omega)
 ·intro x y hx hxy hy
  rw [e2 x hx (by omega), e2 y (by omega) hy]; exact hr _ _ (by omega) (by omega) (by omega)
 ·intro x y hx hxy hy
  rw [e3 x hx (by omega), e3 y (by omega) hy]; exact hl _ _ (by omega) (by omega) (by omega)
 ·intro x y hx hxy hy
  rw [e4 x hx, e4 y (by omega)]; exact hr _ _ (by omega) hxy hy
 ·intro x y hx hxd hy hyb
  rcases Nat.lt_or_ge x s with c | c
  ·rw [e1 x c]
   rcases Nat.lt_or_ge y e with c' | c'
   ·rw [e3 y hy c']; exact hl _ _ hx (by omega) (by omega)
   ·rw [e4 y c']
    rcases k1 with k | k | ⟨_, k⟩
    ·omega
    ·omega
    ·exact Nat.le_trans (hl x (s - 1) hx (by omega) (by omega)) (Nat.le_trans k (hr e y (by omega) c' hyb))
  ·rw [e2 x c hxd]
   rcases Nat.lt_or_ge y e with c' | c'
   ·rw [e3 y hy c']
    rcases k2 with k | k | ⟨_, _, k⟩
    ·omega
    ·omega
    ·exact Nat.le_trans (hr _ (e - 1) (by omega) (by omega) (by omega)) (Nat.le_trans k (hl s _ (by omega) (by omega) (by omega)))
   ·rw [e4 y c']; exact hr _ _ (by omega) (by omega) hyb
theorem rise_halves {d : Nat} (hle : ∀ x y, a ≤ x → x < d → d ≤ y → y < b → key (h x) ≤ key (h y)) {g1 g2 : Nat → Nat} (m1 : Mix a d h g1) (r1 : Rise key a d g1) (m2 : Mix d b g1 g2) (r2 : Rise key d b g2) : Rise key a b g2 := by
 intro x y hx hxy hy
 rcases Nat.lt_or_ge y d with c | c
 ·rw [m2.1 x (by omega), m2.1 y (by omega)]; exact r1 x y hx hxy c
 ·rcases Nat.lt_or_ge x d with c' | c'
  ·obtain ⟨y', y1, y2, ey⟩ := m2.2 y c hy
   obtain ⟨x', x1, x2, ex⟩ := m1.2 x hx c'
   rw [m2.1 x (by omega), ex, ey, m1.1 y' (by omega)]
   exact hle x' y' x1 x2 y1 y2
  ·exact r2 x y c' hxy hy
/-! ### Runs -/
def Runs (key : Nat → Nat) (z n : Nat) (f : Nat → Nat) : Prop := ∀ k, Rise key (k * z) (min ((k + 1) * z) n) f
theorem runs_all {z n : Nat} (h : Runs key z n f) (hz : n ≤ z) : Rise key 0 n f := by
 have := h 0
 simpa [Nat.min_eq_right hz] using this
end
end Go.Proofs.YtfbimboemahhhaaGreatDoor
namespace Go.Proofs.YtfbimboemahhhaaGreatDoor
open Go.RowKit
section
variable {w w' : World} {base : Nat} {e t : TypeId} {A A' : Option Addr} {n c n' c' : Nat} {l : List UInt8} {q : List Nat} {k : IntKind}
theorem OB.rowNe {g m : Nat} {f : Nat → Value} (h : OB w base e A n c l) (hr : w.rowIs g t m f) (ht : e ≠ t) : some g ≠ own A := by
 intro hA
 rcases h.2 with ⟨hv, _⟩ | ⟨g', cap, cur, hv, _, hh, _⟩
 ·injection hv with e1 _ _
  subst e1
  cases hA
 ·injection hv with e1 _ _
  subst e1
  have e3 : g = g' := Option.some.inj hA
  subst e3
  obtain ⟨cs, hb, _⟩ := hr
  rw [hh] at hb
  injection hb with hb
  injection hb with _ hb
  exact ht hb
theorem OB.mapNe {H : Type} {P : Program} {kt : TypeId} {R : Value → Option (DataW H × List MemPlace)} {b m : Nat} {D : DataW H} (h : OB w base e A n c l) (hm : w.ownsMap P kt R b m D) : some b ≠ own A := by
 intro hA
 rcases h.2 with ⟨hv, _⟩ | ⟨g', cap, cur, hv, _, hh, _⟩
 ·injection hv with e1 _ _
  subst e1
  cases hA
 ·injection hv with e1 _ _
  subst e1
  have e3 : b = g' := Option.some.inj hA
  subst e3
  obtain ⟨es, clock, hb, _⟩ := hm
  rw [hh] at hb
  cases hb
theorem OB.ge (h : OB w base e A n c l) {g : Nat} (hg : own A = some g) : base ≤ g := by
 rcases h.2 with ⟨hv, _⟩ | ⟨g', cap, cur, hv, hb, _⟩
 ·injection hv with e1 _ _
  subst e1
  cases hg
 ·injection hv with e1 _ _
  subst e1
  have e3 : g' = g := Option.some.inj hg
  omega
theorem OB.grownBy {row : Option Nat} (h : OB w base e A n c l) (hg : w.grownBy w' row) (hne : own A = none ∨ own A ≠ row) : OB w' base e A n c l := World.ownsRow.kept h hg (by rw [own_slice]; exact hne)
theorem grown_setB (w : World) (a : Addr) (v : Value) : w.grownBy (w.setCell a v) (some a.block) := ⟨rfl, rfl, rfl, by simp, fun k _ hk => Deep.blk_setCell_other _ _ _ _ (fun e => hk (by rw [e]))⟩
theorem below_drewN {B : Nat} (h : Below B w w') (k : Nat) : Below B w (w'.drewN k) := h.trans ⟨rfl, rfl, rfl, Nat.le_refl _, fun _ _ => rfl⟩
theorem below_of {B : Nat} {row : Option Nat} (hg : w.grownBy w' row) (hB : B ≤ w.heap.size) (hr : ∀ k, row = some k → B ≤ k) : Below B w w' := (Below.refl B w).grown hg hB hr
end
theorem wpList_appendG {P : Program} (w : World) {ops : Array Oper} {rest : List Oper} {o : Oper} {a : Act} {Q : Exit → Act → World → Prop} (hgd : o.guard = none) (s x : Operand) (t : TypeId)
  (ho : o.op = .call { callee := .builtin .append, args := #[s, x], argTypes := #[t, t] })
  (base : Nat) (e : TypeId) (ht : P.underlying t = some (.slice e)) (hinfo : (P.info? e).map (fun i => (i.zero, i.size, i.bytes)) = some (some (.int .u8 0), 1, 1))
  (A : Option Addr) (n c : Nat) (l : List UInt8) (hs : a.eval s = .slice A n c) (hown : OB w base e A n c l)
  (B : Nat) (A' : Option Addr) (m c' : Nat) (l' : List UInt8) (hx : a.eval x = .slice A' m c') (hr : RB w B A' m c' l')
  (hsz : n + m ≤ 140737488355328) (hbase : base ≤ w.heap.size)
  (h : ∀ A2 c2 w', OB w' base e A2 (n + m) c2 (l ++ l') → w.grownBy w' (own A) → wpList P ops Q rest (a.put o.dst (.slice A2 (n + m) c2)) w') : wpList P ops Q (o :: rest) a w := by
 refine wpList_plain hgd fun K hK => ?_
 obtain ⟨A2, c2, w', hrun, h2, h3, h4, _⟩ := run_appendS (P := P) w base t o.type e ht hinfo A n c l hown B A' m c' l' hr hsz hbase
 unfold Oper.wp execOp
 simp only [ho, resolve, invoke, builtin, Sem.run_bind, Sem.run_pure, Result.andThen_ok, List.map_toArray, List.map_cons, List.map_nil, hs, hx, hrun]
 exact hK _ _ (h A2 c2 w' h2 ⟨h3.os, h3.tape, h3.output, h3.size, fun k hk hne => h4 k hk (Ne.symm hne)⟩)
theorem wpList_appendStr {P : Program} (w : World) {ops : Array Oper} {rest : List Oper} {o : Oper} {a : Act} {Q : Exit → Act → World → Prop} (hgd : o.guard = none) (s x : Operand) (t u : TypeId)
  (ho : o.op = .call { callee := .builtin .append, args := #[s, x], argTypes := #[t, u] })
  (base : Nat) (e : TypeId) (ht : P.underlying t = some (.slice e)) (hu : P.underlying u = some .string) (hinfo : (P.info? e).map (fun i => (i.zero, i.size, i.bytes)) = some (some (.int .u8 0), 1, 1))
  (A : Option Addr) (n c : Nat) (l : List UInt8) (hs : a.eval s = .slice A n c) (hown : OB w base e A n c l)
  (S : ByteArray) (q : Bs) (hS : S = bstr q) (hx : a.eval x = .string S)
  (hsz : n + q.length ≤ 140737488355328) (hbase : base ≤ w.heap.size)
  (h : ∀ A2 c2 w', OB w' base e A2 (n + q.length) c2 (l ++ q) → w.grownBy w' (own A) → wpList P ops Q rest (a.put o.dst (.slice A2 (n + q.length) c2)) w') : wpList P ops Q (o :: rest) a w := by
 obtain ⟨i, hi, hz, hs1, hby⟩ := info_parts hinfo
 have hq : S.size = q.length := by rw [hS, bstr_size]
 refine Lib.wpList_append_own_string w hgd s x t u ho base e i ht hu hi hz hs1 hby _ n _ hs hown S hx (by unfold maxLen; omega) (by omega) hbase fun v' w' hown' hg _ => ?_
 rw [own_slice] at hg
 have hv : ∃ A2 c2, v' = .slice A2 (n + S.size) c2 := by
  rcases hown'.2 with ⟨h0, h1⟩ | ⟨g, cap, cur, h0, _⟩
  ·exact ⟨none, 0, by rw [h0, h1]⟩
  ·exact ⟨_, _, h0⟩
 obtain ⟨A2, c2, rfl⟩ := hv
 have e1 : l.map byt ++ Lib.strCells S = (l ++ q).map byt := by
  subst hS
  rw [List.map_append, Lib.strCells, bstr_list]
  rfl
 rw [e1, hq] at hown'
 rw [hq]
 exact h A2 c2 w' hown' hg
end Go.Proofs.YtfbimboemahhhaaGreatDoor
