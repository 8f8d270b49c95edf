/-
  Plain mathematics of rows: numbers, each of so many bytes, one behind the other. No program is spoken of here.
-/
import Derived.Test.YtahmdccalgdiaaaMath
namespace Go.Proofs.Ytahmdccalgdiaaa

/-- How many bytes a row has. -/
def sumN : List Nat → Nat
  | [] => 0
  | n :: r => n + sumN r
/-- The bytes of numbers, each of so many: (number, how many). -/
def rowB (big : Bool) : List (Nat × Nat) → List UInt8
  | [] => []
  | q :: r => putB q.1 q.2 big ++ rowB big r
/-- All numbers fit. -/
def rowF : List (Nat × Nat) → Bool
  | [] => true
  | q :: r => decide (q.1 < 256 ^ q.2) && rowF r
/-- The numbers from a place on. -/
def nums (l : List UInt8) (big : Bool) : Nat → List Nat → List Nat
  | _, [] => []
  | p, n :: r => getB ((l.drop p).take n) big :: nums l big (p + n) r

theorem rowB_append (big : Bool) : ∀ a b : List (Nat × Nat), rowB big (a ++ b) = rowB big a ++ rowB big b
  | [], _ => rfl
  | q :: a, b => by simp [rowB, rowB_append big a b]
theorem rowF_append : ∀ a b : List (Nat × Nat), rowF (a ++ b) = (rowF a && rowF b)
  | [], _ => by simp [rowF]
  | q :: a, b => by simp [rowF, rowF_append a b, Bool.and_assoc]
theorem length_rowB (big : Bool) : ∀ q : List (Nat × Nat), (rowB big q).length = sumN (q.map (·.2))
  | [] => rfl
  | x :: q => by simp [rowB, length_putB, sumN, length_rowB big q]
theorem length_nums (l : List UInt8) (big : Bool) : ∀ (n : List Nat) (p : Nat), (nums l big p n).length = n.length
  | [], _ => rfl
  | n :: r, p => by simp [nums, length_nums l big r]

theorem take_snoc_pair (q : List (Nat × Nat)) (k : Nat) (h : k < q.length) : q.take (k + 1) = q.take k ++ [q[k]] := by
  rw [List.take_succ_eq_append_getElem h]
theorem rowB_succ (big : Bool) (q : List (Nat × Nat)) (k : Nat) (h : k < q.length) : rowB big (q.take (k + 1)) = rowB big (q.take k) ++ putB q[k].1 q[k].2 big := by
  rw [take_snoc_pair q k h, rowB_append]; simp [rowB]
theorem rowF_succ (q : List (Nat × Nat)) (k : Nat) (h : k < q.length) : rowF (q.take (k + 1)) = (rowF (q.take k) && decide (q[k].1 < 256 ^ q[k].2)) := by
  rw [take_snoc_pair q k h, rowF_append]; simp [rowF]

theorem nums_append (l : List UInt8) (big : Bool) : ∀ (a b : List Nat) (p : Nat), nums l big p (a ++ b) = nums l big p a ++ nums l big (p + sumN a) b
  | [], b, p => by simp [nums, sumN]
  | n :: a, b, p => by simp [nums, nums_append l big a b, sumN, Nat.add_assoc]
theorem sumN_append : ∀ a b : List Nat, sumN (a ++ b) = sumN a + sumN b
  | [], b => by simp [sumN]
  | n :: a, b => by simp [sumN, sumN_append a b, Nat.add_assoc]
theorem take_snoc_nat (q : List Nat) (k : Nat) (h : k < q.length) : q.take (k + 1) = q.take k ++ [q[k]] := by
  rw [List.take_succ_eq_append_getElem h]
theorem nums_succ (l : List UInt8) (big : Bool) (n : List Nat) (p k : Nat) (h : k < n.length) : nums l big p (n.take (k + 1)) = nums l big p (n.take k) ++ [getB ((l.drop (p + sumN (n.take k))).take n[k]) big] := by
  rw [take_snoc_nat n k h, nums_append]; simp [nums]
theorem sumN_succ (n : List Nat) (k : Nat) (h : k < n.length) : sumN (n.take (k + 1)) = sumN (n.take k) + n[k] := by
  rw [take_snoc_nat n k h, sumN_append]; simp [sumN]
theorem sumN_le (n : List Nat) (k : Nat) : sumN (n.take k) ≤ sumN n := by
  have := sumN_append (n.take k) (n.drop k)
  rw [List.take_append_drop] at this
  omega

/-- Numbers of a row that stands there are the row's. -/
theorem nums_rowB (big : Bool) (post : List UInt8) : ∀ (q : List (Nat × Nat)) (pre : List UInt8), rowF q = true → nums (pre ++ rowB big q ++ post) big pre.length (q.map (·.2)) = q.map (·.1)
  | [], _, _ => rfl
  | x :: q, pre, h => by
    simp only [rowF, Bool.and_eq_true, decide_eq_true_eq] at h
    have h1 := nums_rowB big post q (pre ++ putB x.1 x.2 big) h.2
    have e : pre ++ rowB big (x :: q) ++ post = pre ++ putB x.1 x.2 big ++ rowB big q ++ post := by simp [rowB]
    rw [List.length_append, length_putB] at h1
    simp only [List.map_cons, nums, e, h1]
    congr 1
    rw [List.append_assoc, List.append_assoc, List.drop_append_of_le_length (Nat.le_refl _), List.drop_length, List.nil_append, List.take_append_of_le_length (by rw [length_putB]; exact Nat.le_refl _), List.take_of_length_le (by rw [length_putB]; exact Nat.le_refl _), getB_putB, Nat.mod_eq_of_lt h.1]

/-- What is got, put, is those bytes. -/
theorem rowB_nums (l : List UInt8) (big : Bool) : ∀ (n : List Nat) (p : Nat), p + sumN n ≤ l.length → rowB big ((nums l big p n).zip n) = (l.drop p).take (sumN n)
  | [], p, _ => by simp [nums, rowB, sumN]
  | n :: r, p, h => by
    simp only [sumN] at h
    have h1 := rowB_nums l big r (p + n) (by omega)
    simp only [nums, List.zip_cons_cons, rowB, h1, sumN]
    have hl : ((l.drop p).take n).length = n := by simp; omega
    have h2 := putB_getB ((l.drop p).take n) big
    rw [hl] at h2
    rw [h2, ← List.drop_drop, List.take_add]

theorem nums_lt (l : List UInt8) (big : Bool) : ∀ (n : List Nat) (p k : Nat) (h : k < (nums l big p n).length), (nums l big p n)[k] < 256 ^ (n.getD k 0)
  | [], _, _, h => absurd h (by simp [nums])
  | n :: r, p, 0, _ => by
    simp only [nums, List.getElem_cons_zero, List.getD_cons_zero]
    have := getB_lt ((l.drop p).take n) big
    refine Nat.lt_of_lt_of_le this (Nat.pow_le_pow_right (by omega) (by simp; omega))
  | n :: r, p, k + 1, h => by
    simp only [nums, List.getElem_cons_succ, List.getD_cons_succ]
    exact nums_lt l big r (p + n) k _
end Go.Proofs.Ytahmdccalgdiaaa
