/-
  What is told of any bytes as a section header, in plain words. No walk stands here.
-/
import Derived.Test.YtfahaefpglnlbaaSecPut
namespace Go.Proofs.Ytfahaefpglnlbaa
open Go.RowKit

/-- Of a row of numbers the first k are laid; the others are 0. -/
def laidUp (ns : List Nat) (n k : Nat) : List Nat := (List.range n).map fun i => if i < k then ns.getD i 0 else 0
theorem laidUp_zero (ns : List Nat) (n : Nat) : laidUp ns n 0 = List.replicate n 0 := by
  apply List.ext_getElem?
  intro i
  by_cases h : i < n
  · simp [laidUp, h]
  · simp [laidUp, h]
theorem len_laidUp (ns : List Nat) (n k : Nat) : (laidUp ns n k).length = n := by simp [laidUp]
theorem laidUp_succ {ns : List Nat} {n k v : Nat} (hv : ns.getD k 0 = v) : (laidUp ns n k).set k v = laidUp ns n (k + 1) := by
  apply List.ext_getElem?
  intro i
  rw [List.getElem?_set]
  simp only [laidUp, List.length_map, List.length_range, List.getElem?_map]
  by_cases h : i < n
  · by_cases e2 : k = i
    · subst e2
      rw [if_pos rfl, if_pos h, List.getElem?_range h]
      subst hv
      simp
    · rw [if_neg e2, List.getElem?_range h]
      have e3 : i < k ↔ i < k + 1 := by omega
      simp only [Option.map_some, e3]
  · rw [List.getElem?_eq_none (by simp; omega)]
    by_cases e2 : k = i
    · subst e2; rw [if_pos rfl, if_neg h]; rfl
    · rw [if_neg e2]
      rfl
theorem laidUp_all {ns : List Nat} {n : Nat} (hn : ns.length = n) : laidUp ns n n = ns := by
  apply List.ext_getElem?
  intro i
  by_cases hi : i < n
  · simp [laidUp, hi, show i < ns.length by omega]
  · rw [List.getElem?_eq_none (by simp [laidUp]; omega), List.getElem?_eq_none (by omega)]

/-- The ten numbers, as they stand. -/
def sX (l : List UInt8) (p : Nat) (wide big : Bool) : List Nat := nums l big p (sRow wide)
/-- The section header that has them. -/
def scOf (l : List UInt8) (p : Nat) (wide big : Bool) : Sc :=
  ⟨(sX l p wide big).getD 0 0, (sX l p wide big).getD 1 0, (sX l p wide big).getD 2 0, (sX l p wide big).getD 3 0, (sX l p wide big).getD 4 0, (sX l p wide big).getD 5 0, (sX l p wide big).getD 6 0, (sX l p wide big).getD 7 0, (sX l p wide big).getD 8 0, (sX l p wide big).getD 9 0⟩
theorem sX_len (l : List UInt8) (p : Nat) (wide big : Bool) : (sX l p wide big).length = 10 := by rw [sX, length_nums, len_sRow]
theorem scOf_N (l : List UInt8) (p : Nat) (wide big : Bool) : (scOf l p wide big).N = sX l p wide big := by
  obtain ⟨x0, x1, x2, x3, x4, x5, x6, x7, x8, x9, hx⟩ := list10 (sX_len l p wide big)
  unfold scOf
  rw [hx]
  rfl
theorem sX_lt (l : List UInt8) (p : Nat) (wide big : Bool) (k : Nat) (h : k < 10) : (sX l p wide big).getD k 0 < 256 ^ ((sRow wide).getD k 0) := by
  have h1 : k < (nums l big p (sRow wide)).length := by rw [length_nums, len_sRow]; exact h
  have := nums_lt l big (sRow wide) p k h1
  rw [sX, List.getD_eq_getElem?_getD, List.getElem?_eq_getElem h1]
  exact this
theorem sX_64 (l : List UInt8) (p : Nat) (wide big : Bool) (k : Nat) (h : k < 10) : (sX l p wide big).getD k 0 < 18446744073709551616 := by
  refine Nat.lt_of_lt_of_le (sX_lt l p wide big k h) (show _ ≤ 256 ^ 8 from Nat.pow_le_pow_right (by decide) ?_)
  rw [sRow_at wide k h]
  unfold sWid
  split
  · omega
  · cases wide <;> decide
theorem scOf_ok (l : List UInt8) (p : Nat) (wide big : Bool) : (scOf l p wide big).Ok := by
  have h := sX_64 l p wide big
  exact ⟨sX_lt l p wide big 0 (by omega), sX_lt l p wide big 1 (by omega), h 2 (by omega), h 3 (by omega), h 4 (by omega), h 5 (by omega), sX_lt l p wide big 6 (by omega), sX_lt l p wide big 7 (by omega), h 8 (by omega), h 9 (by omega)⟩
/-- Its numbers in their order, each with how many bytes it has. -/
theorem scOf_Q (l : List UInt8) (p : Nat) (wide big : Bool) : (scOf l p wide big).Q wide = (sX l p wide big).zip (sRow wide) := by
  rw [Sc.Q, scOf_N]
end Go.Proofs.Ytfahaefpglnlbaa
