/-
  Plain mathematics of a GNU hash table: hashes, the words, the buckets' first places, the chain, the bytes; and where a name is found. No program is spoken of here.
-/
import Derived.Test.YthdgkhigekogiaaMath
import Derived.Test.YthdgkhigekogiaaStrMath
import Derived.Laws.BitsAllLaws
namespace Go.Proofs.Ythdgkhigekogiaa

/-! ### Hashes -/
def gnH (s : Bs) : Nat := s.foldl (fun h b => (h * 33 + b.toNat) % 4294967296) 5381
theorem gnH_nil : gnH [] = 5381 := rfl
theorem gnH_snoc (s : Bs) (b : UInt8) : gnH (s ++ [b]) = (gnH s * 33 + b.toNat) % 4294967296 := by simp [gnH]
theorem gnH_lt (s : Bs) : gnH s < 4294967296 := by
  rcases List.eq_nil_or_concat s with h | ⟨t, b, h⟩
  · subst h; decide
  · subst h
    rw [List.concat_eq_append, gnH_snoc]
    exact Nat.mod_lt _ (by decide)
theorem gnH_take (s : Bs) (k : Nat) (b : UInt8) (h : s[k]? = some b) : gnH (s.take (k + 1)) = (gnH (s.take k) * 33 + b.toNat) % 4294967296 := by
  obtain ⟨h1, h2⟩ := List.getElem?_eq_some_iff.1 h
  rw [List.take_succ_eq_append_getElem h1, h2, gnH_snoc]

/-! ### Numbers in a row -/
/-- A row of numbers, each of z bytes. -/
def layN (z : Nat) (big : Bool) (f : Nat → Nat) : Nat → List UInt8
  | 0 => []
  | n + 1 => layN z big f n ++ putB (f n) z big
theorem length_layN (z : Nat) (big : Bool) (f : Nat → Nat) : ∀ n, (layN z big f n).length = n * z
  | 0 => by simp [layN]
  | n + 1 => by rw [layN, List.length_append, length_layN z big f n, length_putB, Nat.add_mul, Nat.one_mul]
theorem layN_at (z : Nat) (big : Bool) (f : Nat → Nat) (i : Nat) : ∀ n, i < n → ((layN z big f n).drop (i * z)).take z = putB (f i) z big
  | 0, h => absurd h (by omega)
  | n + 1, h => by
    have hl := length_layN z big f n
    rw [layN]
    by_cases e : i = n
    · subst e
      rw [List.drop_append_of_le_length (by omega), List.drop_of_length_le (by omega), List.nil_append, List.take_of_length_le (by rw [length_putB]; exact Nat.le_refl _)]
    · have h1 : i < n := by omega
      have h2 : (i + 1) * z ≤ n * z := Nat.mul_le_mul_right z (by omega)
      rw [Nat.add_mul, Nat.one_mul] at h2
      rw [List.drop_append_of_le_length (by omega), List.take_append_of_le_length (by rw [List.length_drop]; omega)]
      exact layN_at z big f i n h1
theorem layN_congr {z : Nat} {big : Bool} {f g : Nat → Nat} : ∀ n, (∀ i, i < n → f i = g i) → layN z big f n = layN z big g n
  | 0, _ => rfl
  | n + 1, h => by rw [layN, layN, layN_congr n (fun i hi => h i (by omega)), h n (by omega)]
/-- What is read within a row of numbers, wherever it stands. -/
theorem seg_at (a c : List UInt8) (z : Nat) (big : Bool) (f : Nat → Nat) (n i : Nat) (h : i < n) : ((a ++ (layN z big f n ++ c)).drop (a.length + i * z)).take z = putB (f i) z big ∧ a.length + i * z + z ≤ (a ++ (layN z big f n ++ c)).length := by
  have hl := length_layN z big f n
  have h2 : (i + 1) * z ≤ n * z := Nat.mul_le_mul_right z (by omega)
  rw [Nat.add_mul, Nat.one_mul] at h2
  refine ⟨?_, by simp only [List.length_append]; omega⟩
  rw [List.drop_append, List.drop_of_length_le (by omega), List.nil_append, show a.length + i * z - a.length = i * z by omega, List.drop_append_of_le_length (by omega), List.take_append_of_le_length (by rw [List.length_drop]; omega)]
  exact layN_at z big f i n h

/-! ### Bits -/
theorem or_one (x : Nat) : x ||| 1 = x / 2 * 2 + 1 := by
  have h1 : (x ||| 1) / 2 = x / 2 := by rw [Nat.or_div_two]; simp
  have h2 : (x ||| 1) % 2 = 1 := by rw [Nat.or_mod_two_eq_one]; exact .inr rfl
  omega

/-- The words after k names. -/
def wdTo (pl bt : Nat → Nat) : Nat → Nat → Nat
  | 0, _ => 0
  | k + 1, j => if j = pl k then wdTo pl bt k (pl k) ||| bt k else wdTo pl bt k j
theorem wdTo_lt {pl bt : Nat → Nat} {m : Nat} : ∀ (n j : Nat), (∀ i, i < n → bt i < 2 ^ m) → wdTo pl bt n j < 2 ^ m
  | 0, _, _ => Nat.two_pow_pos m
  | n + 1, j, h => by
    have h1 := fun j => wdTo_lt (pl := pl) (bt := bt) (m := m) n j fun i hi => h i (by omega)
    unfold wdTo
    split
    · exact Nat.or_lt_two_pow (h1 _) (h n (by omega))
    · exact h1 j
theorem wdTo_has (pl bt : Nat → Nat) (i : Nat) : ∀ n, i < n → wdTo pl bt n (pl i) &&& bt i = bt i
  | 0, h => absurd h (by omega)
  | n + 1, h => by
    apply Nat.eq_of_testBit_eq
    intro b
    rw [Nat.testBit_and]
    unfold wdTo
    by_cases e : i = n
    · subst e
      rw [if_pos rfl, Nat.testBit_or]
      cases (bt i).testBit b <;> simp
    · have h1 := congrArg (fun x => Nat.testBit x b) (wdTo_has pl bt i n (by omega))
      simp only [Nat.testBit_and] at h1
      split
      · rename_i e2
        rw [← e2, Nat.testBit_or]
        revert h1
        cases (wdTo pl bt n (pl i)).testBit b <;> cases (bt i).testBit b <;> simp
      · exact h1

/-- The buckets' first places after k names. -/
def plTo (first : Nat) (kk : Nat → Nat) : Nat → Nat → Nat
  | 0, _ => 0
  | k + 1, j => if j = kk k then (if plTo first kk k (kk k) = 0 then first + k else plTo first kk k (kk k)) else plTo first kk k j
theorem plTo_is (first : Nat) (kk : Nat → Nat) (hf : 0 < first) : ∀ n j, (plTo first kk n j = 0 ∧ ∀ i, i < n → kk i ≠ j) ∨ ∃ i, i < n ∧ plTo first kk n j = first + i ∧ kk i = j ∧ ∀ x, x < i → kk x ≠ j
  | 0, j => .inl ⟨rfl, fun i hi => absurd hi (by omega)⟩
  | n + 1, j => by
    unfold plTo
    by_cases e : j = kk n
    · rw [if_pos e, ← e]
      rcases plTo_is first kk hf n j with ⟨h1, h2⟩ | ⟨i, h1, h2, h3, h4⟩
      · rw [if_pos h1]
        exact .inr ⟨n, by omega, rfl, e.symm, h2⟩
      · rw [if_neg (by omega)]
        exact .inr ⟨i, by omega, h2, h3, h4⟩
    · rw [if_neg e]
      rcases plTo_is first kk hf n j with ⟨h1, h2⟩ | ⟨i, h1, h2, h3, h4⟩
      · refine .inl ⟨h1, fun i hi => ?_⟩
        by_cases e2 : i = n
        · subst e2; exact fun h => e h.symm
        · exact h2 i (by omega)
      · exact .inr ⟨i, by omega, h2, h3, h4⟩

/-! ### A table -/
structure Gn where
  first : Nat
  buckets : Nat
  words : Nat
  shift : Nat
  wide : Bool
  big : Bool
  L : List Bs
namespace Gn
variable (t : Gn)
def n : Nat := t.L.length
/-- How many bytes a word has. -/
def z : Nat := if t.wide then 8 else 4
/-- The hash of name i, and its bucket. -/
def h (i : Nat) : Nat := gnH (t.L.getD i [])
def k (i : Nat) : Nat := t.h i % t.buckets
/-- Where a hash has its bits, and which. -/
def at_ (x : Nat) : Nat := x / (8 * t.z) % t.words
def bt (x : Nat) : Nat := 2 ^ (x % (8 * t.z)) ||| 2 ^ (x / 2 ^ t.shift % (8 * t.z))
def wd (j : Nat) : Nat := wdTo (fun i => t.at_ (t.h i)) (fun i => t.bt (t.h i)) t.n j
def pl (j : Nat) : Nat := plTo t.first t.k t.n j
/-- Whether name i is the last one of its bucket. -/
def last (i : Nat) : Bool := decide (i + 1 = t.n) || decide (t.k i ≠ t.k (i + 1))
def ch (i : Nat) : Nat := t.h i / 2 * 2 + (if t.last i then 1 else 0)
def hd (i : Nat) : Nat := [t.buckets, t.first, t.words, t.shift].getD i 0
def B0 : List UInt8 := layN 4 t.big t.hd 4
def B1 : List UInt8 := layN t.z t.big t.wd t.words
def B2 : List UInt8 := layN 4 t.big t.pl t.buckets
def B3 : List UInt8 := layN 4 t.big t.ch t.n
/-- Its bytes. -/
def B : List UInt8 := t.B0 ++ t.B1 ++ t.B2 ++ t.B3

structure Ok : Prop where
  f1 : 1 ≤ t.first
  f2 : t.first ≤ 65536
  b1 : 1 ≤ t.buckets
  b2 : t.buckets ≤ 1024
  w1 : 1 ≤ t.words
  w2 : t.words ≤ 1024
  s2 : t.shift ≤ 31
  n2 : t.n ≤ 1000
  up : ∀ i j, i ≤ j → j < t.n → t.k i ≤ t.k j
  each : ∀ s ∈ t.L, s.length ≤ 500

variable {t : Gn}
theorem z_pos : t.z = 4 ∨ t.z = 8 := by unfold z; split <;> simp
theorem bt_lt (x : Nat) : t.bt x < 2 ^ (8 * t.z) := by
  have hz := t.z_pos
  unfold bt
  exact Nat.or_lt_two_pow (Nat.pow_lt_pow_right (by decide) (Nat.mod_lt _ (by omega))) (Nat.pow_lt_pow_right (by decide) (Nat.mod_lt _ (by omega)))
theorem wd_lt (j : Nat) : t.wd j < 2 ^ (8 * t.z) := wdTo_lt _ _ fun _ _ => t.bt_lt _
theorem wd_pow (j : Nat) : t.wd j < 256 ^ t.z := by rw [pow256]; exact t.wd_lt j
theorem wd_64 (j : Nat) : t.wd j < 18446744073709551616 := by
  have h1 := t.wd_lt j
  have h2 : 2 ^ (8 * t.z) ≤ 2 ^ 64 := Nat.pow_le_pow_right (by decide) (by have := t.z_pos; omega)
  exact Nat.lt_of_lt_of_le h1 h2
theorem pl_lt (ht : t.Ok) (j : Nat) : t.pl j < 4294967296 := by
  have h1 := ht.f2
  have h2 := ht.n2
  unfold pl
  rcases plTo_is t.first t.k ht.f1 t.n j with ⟨h, _⟩ | ⟨i, hi, h, _⟩ <;> omega
theorem h_lt (i : Nat) : t.h i < 4294967296 := gnH_lt _
theorem ch_lt (i : Nat) : t.ch i < 4294967296 := by
  have := t.h_lt i
  unfold ch
  split <;> omega
theorem hd_lt (ht : t.Ok) (i : Nat) (hi : i < 4) : t.hd i < 4294967296 := by
  have := ht.f2
  have := ht.b2
  have := ht.w2
  have := ht.s2
  unfold hd
  match i, hi with
  | 0, _ => simp; omega
  | 1, _ => simp; omega
  | 2, _ => simp; omega
  | 3, _ => simp; omega
theorem k_lt (ht : t.Ok) (i : Nat) : t.k i < t.buckets := Nat.mod_lt _ (by have := ht.b1; omega)
theorem at_lt (ht : t.Ok) (x : Nat) : t.at_ x < t.words := Nat.mod_lt _ (by have := ht.w1; omega)

theorem len : t.B.length = 16 + t.words * t.z + t.buckets * 4 + t.n * 4 := by
  simp only [B, B0, B1, B2, B3, List.length_append, length_layN]
/-- The numbers as they are read. -/
theorem read0 (ht : t.Ok) (i : Nat) (hi : i < 4) : i * 4 + 4 ≤ t.B.length ∧ getB ((t.B.drop (i * 4)).take 4) t.big = t.hd i := by
  have := seg_at [] (t.B1 ++ t.B2 ++ t.B3) 4 t.big t.hd 4 i hi
  simp only [List.length_nil, Nat.zero_add, List.nil_append] at this
  have e : t.B = layN 4 t.big t.hd 4 ++ (t.B1 ++ t.B2 ++ t.B3) := by simp [B, B0]
  rw [← e] at this
  exact ⟨this.2, by rw [this.1, getB_putB]; exact Nat.mod_eq_of_lt (t.hd_lt ht i hi)⟩
theorem read1 (j : Nat) (hj : j < t.words) : 16 + j * t.z + t.z ≤ t.B.length ∧ getB ((t.B.drop (16 + j * t.z)).take t.z) t.big = t.wd j := by
  have := seg_at t.B0 (t.B2 ++ t.B3) t.z t.big t.wd t.words j hj
  have e : t.B = t.B0 ++ (layN t.z t.big t.wd t.words ++ (t.B2 ++ t.B3)) := by simp [B, B1]
  rw [← e, show t.B0.length = 16 by simp [B0, length_layN]] at this
  exact ⟨this.2, by rw [this.1, getB_putB]; exact Nat.mod_eq_of_lt (t.wd_pow j)⟩
theorem read2 (ht : t.Ok) (j : Nat) (hj : j < t.buckets) : 16 + t.words * t.z + j * 4 + 4 ≤ t.B.length ∧ getB ((t.B.drop (16 + t.words * t.z + j * 4)).take 4) t.big = t.pl j := by
  have := seg_at (t.B0 ++ t.B1) t.B3 4 t.big t.pl t.buckets j hj
  have e : t.B = t.B0 ++ t.B1 ++ (layN 4 t.big t.pl t.buckets ++ t.B3) := by simp [B, B2]
  rw [← e, show (t.B0 ++ t.B1).length = 16 + t.words * t.z by simp [B0, B1, length_layN]] at this
  exact ⟨this.2, by rw [this.1, getB_putB]; exact Nat.mod_eq_of_lt (t.pl_lt ht j)⟩
theorem read3 (i : Nat) (hi : i < t.n) : 16 + t.words * t.z + t.buckets * 4 + i * 4 + 4 ≤ t.B.length ∧ getB ((t.B.drop (16 + t.words * t.z + t.buckets * 4 + i * 4)).take 4) t.big = t.ch i := by
  have := seg_at (t.B0 ++ t.B1 ++ t.B2) [] 4 t.big t.ch t.n i hi
  have e : t.B = t.B0 ++ t.B1 ++ t.B2 ++ (layN 4 t.big t.ch t.n ++ []) := by simp [B, B3]
  rw [← e, show (t.B0 ++ t.B1 ++ t.B2).length = 16 + t.words * t.z + t.buckets * 4 by simp [B0, B1, B2, length_layN]; omega] at this
  exact ⟨this.2, by rw [this.1, getB_putB]; exact Nat.mod_eq_of_lt (t.ch_lt i)⟩

/-! ### Where a name is found -/
/-- v is where s first stands, or 0. -/
def Fst (t : Gn) (s : Bs) (v : Nat) : Prop := (v = 0 ∧ ∀ i, i < t.n → t.L.getD i [] ≠ s) ∨ ∃ i, i < t.n ∧ v = t.first + i ∧ t.L.getD i [] = s ∧ ∀ x, x < i → t.L.getD x [] ≠ s
theorem Fst.eq {s : Bs} {u v : Nat} (hu : t.Fst s u) (hv : t.Fst s v) : u = v := by
  rcases hu with ⟨h1, h2⟩ | ⟨i, h1, h2, h3, h4⟩
  · rcases hv with ⟨k1, _⟩ | ⟨j, k1, _, k3, _⟩
    · omega
    · exact absurd k3 (h2 j k1)
  · rcases hv with ⟨_, k2⟩ | ⟨j, k1, k2, k3, k4⟩
    · exact absurd h3 (k2 i h1)
    · have : i = j := by
        rcases Nat.lt_trichotomy i j with h | h | h
        · exact absurd h3 (k4 i h)
        · exact h
        · exact absurd k3 (h4 j h)
      omega
/-- One that hasn't its bits isn't there. -/
theorem no_bits {s : Bs} (hb : t.wd (t.at_ (gnH s)) &&& t.bt (gnH s) ≠ t.bt (gnH s)) : ∀ i, i < t.n → t.L.getD i [] ≠ s := fun i hi e => by
  apply hb
  have := wdTo_has (fun i => t.at_ (t.h i)) (fun i => t.bt (t.h i)) i t.n hi
  simp only [h, e] at this
  exact this
/-- What a bucket's place tells. -/
theorem bucket_is (ht : t.Ok) (s : Bs) : (t.pl (gnH s % t.buckets) = 0 ∧ ∀ i, i < t.n → t.L.getD i [] ≠ s) ∨
    ∃ i, i < t.n ∧ t.pl (gnH s % t.buckets) = t.first + i ∧ t.k i = gnH s % t.buckets ∧ ∀ x, x < i → t.L.getD x [] ≠ s := by
  have hne : ∀ i, t.k i ≠ gnH s % t.buckets → t.L.getD i [] ≠ s := fun i hk e => hk (by simp only [k, h, e])
  rcases plTo_is t.first t.k ht.f1 t.n (gnH s % t.buckets) with ⟨h1, h2⟩ | ⟨i, h1, h2, h3, h4⟩
  · exact .inl ⟨h1, fun i hi => hne i (h2 i hi)⟩
  · exact .inr ⟨i, h1, h2, h3, fun x hx => hne x (h4 x hx)⟩
/-- The name's number in the chain tells its hash, but for the lowest bit. -/
theorem ch_half (i : Nat) : t.ch i / 2 = t.h i / 2 ∧ t.ch i % 2 = if t.last i then 1 else 0 := by
  unfold ch
  split <;> omega
/-- Behind the last one of its bucket it isn't. -/
theorem past_last (ht : t.Ok) {s : Bs} {i : Nat} (hi : i < t.n) (hk : t.k i = gnH s % t.buckets) (hl : t.last i = true) (hno : ∀ x, x ≤ i → t.L.getD x [] ≠ s) : ∀ x, x < t.n → t.L.getD x [] ≠ s := fun x hx e => by
  rcases Nat.lt_or_ge i x with hix | hix
  · have e1 : t.k x = gnH s % t.buckets := by simp only [k, h, e]
    simp only [last, Bool.or_eq_true, decide_eq_true_eq] at hl
    rcases hl with hl | hl
    · omega
    · have a1 := ht.up i (i + 1) (by omega) (by omega)
      have a2 := ht.up (i + 1) x (by omega) hx
      omega
  · exact hno x hix e
theorem not_last {i : Nat} (hi : i < t.n) (hl : t.last i = false) : i + 1 < t.n ∧ t.k (i + 1) = t.k i := by
  simp only [last, Bool.or_eq_false_iff, decide_eq_false_iff_not] at hl
  refine ⟨by omega, ?_⟩
  have := hl.2
  omega
end Gn
end Go.Proofs.Ythdgkhigekogiaa
