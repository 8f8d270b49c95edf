/-
  What is told of any bytes as a program header, in plain words. No walk stands here.
-/
import Derived.Test.YtpjkicmkioimjaaPhPut
namespace Go.Proofs.Ytpjkicmkioimjaa
open Go.RowKit

/-- Of a row of n numbers those are laid that the first k of the order name; the others are 0. -/
def laidIn (os ns : List Nat) (n k : Nat) : List Nat := (List.range n).map fun i => if i ∈ os.take k then ns.getD i 0 else 0
theorem laidIn_zero (os ns : List Nat) (n : Nat) : laidIn os ns n 0 = List.replicate n 0 := by
  apply List.ext_getElem?
  intro i
  by_cases h : i < n
  · simp [laidIn, h]
  · simp [laidIn, h]
theorem laidIn_succ {os ns : List Nat} {n k o v : Nat} (ho : os[k]? = some o) (hv : ns.getD o 0 = v) : (laidIn os ns n k).set o v = laidIn os ns n (k + 1) := by
  obtain ⟨hk, e⟩ := List.getElem?_eq_some_iff.1 ho
  apply List.ext_getElem?
  intro i
  rw [List.getElem?_set]
  simp only [laidIn, List.length_map, List.length_range, List.getElem?_map]
  rw [take_snoc_nat os k hk, e]
  by_cases h : i < n
  · by_cases e2 : o = i
    · subst e2
      rw [if_pos rfl, if_pos h, List.getElem?_range h]
      subst hv
      simp
    · rw [if_neg e2, List.getElem?_range h]
      have e3 : ¬ i = o := fun h => e2 h.symm
      simp [e3]
  · rw [List.getElem?_eq_none (by simp; omega)]
    by_cases e2 : o = i
    · subst e2; rw [if_pos rfl, if_neg h]; rfl
    · rw [if_neg e2]
      rfl
theorem laidIn_all {os ns : List Nat} {n : Nat} (h : ∀ i, i < n → i ∈ os) (hn : ns.length = n) : laidIn os ns n os.length = ns := by
  apply List.ext_getElem?
  intro i
  by_cases hi : i < n
  · have hm := h i hi
    simp [laidIn, hi, hm, show i < ns.length by omega]
  · rw [List.getElem?_eq_none (by simp [laidIn]; omega), List.getElem?_eq_none (by omega)]
theorem len_laidIn (os ns : List Nat) (n k : Nat) : (laidIn os ns n k).length = n := by simp [laidIn]

/-- The eight numbers, as they stand. -/
def pX (l : List UInt8) (p : Nat) (wide big : Bool) : List Nat := nums l big p (pRow wide)
/-- The program header that has them. -/
def pgOf (l : List UInt8) (p : Nat) (wide big : Bool) : Pg :=
  if wide then ⟨(pX l p wide big).getD 0 0, (pX l p wide big).getD 1 0, (pX l p wide big).getD 2 0, (pX l p wide big).getD 3 0, (pX l p wide big).getD 4 0, (pX l p wide big).getD 5 0, (pX l p wide big).getD 6 0, (pX l p wide big).getD 7 0⟩
  else ⟨(pX l p wide big).getD 0 0, (pX l p wide big).getD 6 0, (pX l p wide big).getD 1 0, (pX l p wide big).getD 2 0, (pX l p wide big).getD 3 0, (pX l p wide big).getD 4 0, (pX l p wide big).getD 5 0, (pX l p wide big).getD 7 0⟩
theorem pX_len (l : List UInt8) (p : Nat) (wide big : Bool) : (pX l p wide big).length = 8 := by rw [pX, length_nums, len_pRow]
theorem pgOf_at (l : List UInt8) (p : Nat) (wide big : Bool) (k : Nat) (h : k < 8) : (pgOf l p wide big).N.getD ((pOrd wide).getD k 0) 0 = (pX l p wide big).getD k 0 := by
  cases wide <;> (match k, h with
    | 0, _ => rfl
    | 1, _ => rfl
    | 2, _ => rfl
    | 3, _ => rfl
    | 4, _ => rfl
    | 5, _ => rfl
    | 6, _ => rfl
    | 7, _ => rfl)
theorem pX_lt (l : List UInt8) (p : Nat) (wide big : Bool) (k : Nat) (h : k < 8) : (pX l p wide big).getD k 0 < 256 ^ ((pRow wide).getD k 0) := by
  have h1 : k < (nums l big p (pRow wide)).length := by rw [length_nums, len_pRow]; exact h
  have := nums_lt l big (pRow wide) p k h1
  rw [pX, List.getD_eq_getElem?_getD, List.getElem?_eq_getElem h1]
  exact this
theorem pX_64 (l : List UInt8) (p : Nat) (wide big : Bool) (k : Nat) (h : k < 8) : (pX l p wide big).getD k 0 < 18446744073709551616 := by
  refine Nat.lt_of_lt_of_le (pX_lt l p wide big k h) (show _ ≤ 256 ^ 8 from Nat.pow_le_pow_right (by decide) ?_)
  have e : (pRow wide).getD k 0 = pWid wide ((pOrd wide).getD k 0) := by
    rw [pRow, List.getD_eq_getElem?_getD, List.getD_eq_getElem?_getD, List.getElem?_map, List.getElem?_eq_getElem (by rw [len_pOrd]; exact h)]
    rfl
  rw [e]
  unfold pWid
  split <;> omega
theorem pgOf_ok (l : List UInt8) (p : Nat) (wide big : Bool) : (pgOf l p wide big).Ok := by
  have h := pX_64 l p wide big
  have h0 := pX_lt l p wide big 0 (by omega)
  cases wide
  · have h6 := pX_lt l p false big 6 (by omega)
    exact ⟨h0, h6, h 1 (by omega), h 2 (by omega), h 3 (by omega), h 4 (by omega), h 5 (by omega), h 7 (by omega)⟩
  · have h1 := pX_lt l p true big 1 (by omega)
    exact ⟨h0, h1, h 2 (by omega), h 3 (by omega), h 4 (by omega), h 5 (by omega), h 6 (by omega), h 7 (by omega)⟩
theorem pOrd_all (wide : Bool) (i : Nat) (h : i < 8) : i ∈ pOrd wide := by
  cases wide <;> (match i, h with
    | 0, _ => decide
    | 1, _ => decide
    | 2, _ => decide
    | 3, _ => decide
    | 4, _ => decide
    | 5, _ => decide
    | 6, _ => decide
    | 7, _ => decide)
/-- Its numbers in their order, each with how many bytes it has. -/
theorem pgOf_Q (l : List UInt8) (p : Nat) (wide big : Bool) : (pgOf l p wide big).Q wide = (pX l p wide big).zip (pRow wide) := by
  apply List.ext_getElem
  · rw [Pg.lenQ, List.length_zip, pX_len, len_pRow]; rfl
  · intro k h1 h2
    have hk : k < 8 := by rw [Pg.lenQ] at h1; exact h1
    simp only [Pg.Q, List.getElem_map, List.getElem_zip, pRow]
    have := pgOf_at l p wide big k hk
    rw [List.getD_eq_getElem?_getD (l := pOrd wide), List.getElem?_eq_getElem (by rw [len_pOrd]; exact hk), List.getD_eq_getElem?_getD (l := pX l p wide big), List.getElem?_eq_getElem (by rw [pX_len]; exact hk)] at this
    simp only [Option.getD_some] at this
    rw [this]
end Go.Proofs.Ytpjkicmkioimjaa
