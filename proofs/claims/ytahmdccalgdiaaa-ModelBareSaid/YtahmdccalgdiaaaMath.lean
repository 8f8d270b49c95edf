/-
  Plain mathematics of layer 1: a number's bytes and the number of bytes, the lowest first or the highest first. No program is spoken of here.
-/
namespace Go.Proofs.Ytahmdccalgdiaaa

/-- The number of bytes, the lowest first. -/
def num : List UInt8 → Nat
  | [] => 0
  | b :: r => b.toNat + 256 * num r
/-- The n lowest bytes of a number, the lowest first. -/
def low : Nat → Nat → List UInt8
  | 0, _ => []
  | n + 1, v => UInt8.ofNat v :: low n (v / 256)
def ord (big : Bool) (l : List UInt8) : List UInt8 := if big then l.reverse else l
def getB (l : List UInt8) (big : Bool) : Nat := num (ord big l)
def putB (v n : Nat) (big : Bool) : List UInt8 := ord big (low n v)
/-- The place of byte i of n, counted from the lowest. -/
def rank (i n : Nat) (big : Bool) : Nat := if big then n - 1 - i else i

theorem length_low : ∀ n v : Nat, (low n v).length = n
  | 0, _ => rfl
  | n + 1, v => by simp [low, length_low n]
theorem length_ord (big : Bool) (l : List UInt8) : (ord big l).length = l.length := by cases big <;> simp [ord]
theorem length_putB (v n : Nat) (big : Bool) : (putB v n big).length = n := by simp [putB, length_ord, length_low]

theorem toNat_ofNat8 (v : Nat) : (UInt8.ofNat v).toNat = v % 256 := by simp [UInt8.toNat_ofNat']

theorem num_lt : ∀ l : List UInt8, num l < 256 ^ l.length
  | [] => by simp [num]
  | b :: r => by
    have h1 := num_lt r
    have h2 : b.toNat < 256 := b.toNat_lt
    simp only [num, List.length_cons, Nat.pow_succ]
    omega

theorem num_low : ∀ n v : Nat, num (low n v) = v % 256 ^ n
  | 0, v => by simp [low, num, Nat.mod_one]
  | n + 1, v => by
    simp only [low, num, num_low n, toNat_ofNat8]
    rw [Nat.pow_succ, Nat.mul_comm (256 ^ n) 256, Nat.mod_mul]

theorem low_num : ∀ l : List UInt8, low l.length (num l) = l
  | [] => rfl
  | b :: r => by
    have h2 : b.toNat < 256 := b.toNat_lt
    have e1 : (b.toNat + 256 * num r) / 256 = num r := by omega
    have e2 : UInt8.ofNat (b.toNat + 256 * num r) = b := by
      apply UInt8.toNat_inj.1
      rw [toNat_ofNat8]; omega
    simp only [List.length_cons, low, num, e1, e2, low_num r]

theorem num_append : ∀ a b : List UInt8, num (a ++ b) = num a + 256 ^ a.length * num b
  | [], b => by simp [num]
  | x :: a, b => by
    simp only [List.cons_append, num, num_append a b, List.length_cons, Nat.pow_succ, Nat.mul_add]
    rw [Nat.mul_comm (256 ^ a.length) 256, Nat.mul_assoc]
    omega

theorem low_at : ∀ (n v i : Nat), i < n → (low n v)[i]? = some (UInt8.ofNat (v / 256 ^ i))
  | 0, _, _, h => by omega
  | n + 1, v, 0, _ => by simp [low]
  | n + 1, v, i + 1, h => by
    rw [low, List.getElem?_cons_succ, low_at n (v / 256) i (by omega), Nat.div_div_eq_div_mul, Nat.pow_succ, Nat.mul_comm 256]

theorem putB_at (v n i : Nat) (big : Bool) (h : i < n) : (putB v n big)[i]? = some (UInt8.ofNat (v / 256 ^ rank i n big)) := by
  cases big
  · simp [putB, ord, rank, low_at n v i h]
  · simp only [putB, ord, rank, if_true]
    rw [List.getElem?_reverse (by rw [length_low]; exact h), length_low, low_at n v _ (by omega)]

theorem rank_lt (i n : Nat) (big : Bool) (h : i < n) : rank i n big < n := by unfold rank; split <;> omega

/-- What was put is got, modulo what has no room. -/
theorem getB_putB (v n : Nat) (big : Bool) : getB (putB v n big) big = v % 256 ^ n := by
  cases big <;> simp [getB, putB, ord, num_low]
/-- What is got, put, is those bytes. -/
theorem putB_getB (l : List UInt8) (big : Bool) : putB (getB l big) l.length big = l := by
  cases big
  · simp [getB, putB, ord, low_num]
  · have := low_num l.reverse
    rw [List.length_reverse] at this
    simp [getB, putB, ord, this]
theorem getB_lt (l : List UInt8) (big : Bool) : getB l big < 256 ^ l.length := by
  have := num_lt (ord big l)
  rwa [length_ord] at this
/-- One order's bytes are the other's, turned round. -/
theorem putB_turn (v n : Nat) (big : Bool) : putB v n (!big) = (putB v n big).reverse := by
  cases big <;> simp [putB, ord]

/-- The sum over the first k bytes, each at its place. -/
def part (l : List UInt8) (big : Bool) (k : Nat) : Nat := if big then 256 ^ (l.length - k) * num (l.take k).reverse else num (l.take k)

theorem part_zero (l : List UInt8) (big : Bool) : part l big 0 = 0 := by cases big <;> simp [part, num]
theorem part_all (l : List UInt8) (big : Bool) : part l big l.length = getB l big := by
  cases big <;> simp [part, getB, ord]

theorem pow256 (n : Nat) : 256 ^ n = 2 ^ (8 * n) := by rw [Nat.pow_mul]

theorem or_low (x y i : Nat) (hx : x < 2 ^ i) (hy : y % 2 ^ i = 0) : x ||| y = x + y := by
  have e : y = 2 ^ i * (y / 2 ^ i) := by have := Nat.div_add_mod y (2 ^ i); omega
  rw [Nat.or_comm, e, ← Nat.two_pow_add_eq_or_of_lt hx]; omega

theorem take_snoc' (l : List UInt8) (k : Nat) (h : k < l.length) : l.take (k + 1) = l.take k ++ [l[k]] := by
  rw [List.take_succ_eq_append_getElem h]

theorem part_succ (l : List UInt8) (big : Bool) (k : Nat) (h : k < l.length) :
    part l big (k + 1) = part l big k ||| (l[k].toNat * 2 ^ (8 * rank k l.length big)) := by
  have hb : l[k].toNat < 256 := l[k].toNat_lt
  cases big
  · have e : (l.take k).length = k := by simp; omega
    have hlt := num_lt (l.take k)
    rw [e, pow256] at hlt
    simp only [part, rank, Bool.false_eq_true, if_false]
    rw [or_low _ _ (8 * k) hlt (Nat.mul_mod_left _ _), take_snoc' l k h, num_append, e, pow256]
    simp [num, Nat.mul_comm]
  · have e : l.length - k = l.length - 1 - k + 1 := by omega
    have hsmall : l[k].toNat * 2 ^ (8 * (l.length - 1 - k)) < 2 ^ (8 * (l.length - k)) := by
      rw [e, Nat.mul_add, Nat.pow_add, Nat.mul_comm]
      exact Nat.mul_lt_mul_of_pos_left hb (Nat.two_pow_pos _)
    simp only [part, rank, if_true]
    rw [Nat.or_comm, or_low _ _ (8 * (l.length - k)) hsmall (by rw [pow256]; exact Nat.mul_mod_right _ _), take_snoc' l k h, List.reverse_append]
    simp only [List.reverse_cons, List.reverse_nil, List.nil_append, List.singleton_append, num]
    rw [show l.length - (k + 1) = l.length - 1 - k by omega, pow256, pow256, e, Nat.mul_add 8, Nat.pow_add, Nat.mul_add, ← Nat.mul_assoc, Nat.mul_comm (l[k].toNat)]
    

theorem part_lt (l : List UInt8) (big : Bool) (k : Nat) (h : k ≤ l.length) : part l big k < 256 ^ l.length := by
  cases big
  · have := num_lt (l.take k)
    simp only [part, Bool.false_eq_true, if_false]
    exact Nat.lt_of_lt_of_le this (Nat.pow_le_pow_right (by omega) (by simp; omega))
  · have := num_lt (l.take k).reverse
    simp only [part, if_true]
    rw [List.length_reverse, List.length_take, Nat.min_eq_left h] at this
    have e : (256 : Nat) ^ l.length = 256 ^ (l.length - k) * 256 ^ k := by rw [← Nat.pow_add]; congr 1; omega
    rw [e]
    exact Nat.mul_lt_mul_of_pos_left this (Nat.pow_pos (by omega))

end Go.Proofs.Ytahmdccalgdiaaa
