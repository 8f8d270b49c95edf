/-
  What is told of any bytes as a header, in plain words. No walk stands here.
-/
import Derived.Test.YtkohkkgfmkocjaaHeadRead
namespace Go.Proofs.Ytkohkkgfmkocjaa
open Go.RowKit

def lWide (l : List UInt8) : Bool := l.getD 4 0 == 2
def lBig (l : List UInt8) : Bool := l.getD 5 0 == 2
/-- The thirteen numbers. -/
def hdX (l : List UInt8) : List Nat := nums l (lBig l) 16 (hRow (lWide l))
/-- The header that has them. -/
def hdOf (l : List UInt8) : Hd := ⟨lWide l, lBig l, l.getD 7 0, l.getD 8 0, (hdX l).getD 0 0, (hdX l).getD 1 0, (hdX l).getD 3 0, (hdX l).getD 4 0, (hdX l).getD 5 0, (hdX l).getD 6 0, (hdX l).getD 9 0, (hdX l).getD 11 0, (hdX l).getD 12 0⟩
/-- Number k is another one than it should be. -/
def HBad (l : List UInt8) (k : Nat) : Prop := (hdX l).getD k 0 ≠ (hdOf l).N.getD k 0 ∧ mayAny k (hdOf l).pn (hdOf l).sh = false
/-- The code and the place, behind what the file begins with. -/
def hdTold (l : List UInt8) (c p : Nat) : Prop :=
  (l.length < hSize (lWide l) ∧ c = 2 ∧ p = l.length) ∨ (hSize (lWide l) ≤ l.length ∧ (∀ j, j < 13 → ¬ HBad l j) ∧ c = 0 ∧ p = 0) ∨
  (hSize (lWide l) ≤ l.length ∧ c = 4 ∧ ∃ k, k < 13 ∧ (∀ j, j < k → ¬ HBad l j) ∧ HBad l k ∧ p = 16 + sumN ((hRow (lWide l)).take k))
def HTold (l : List UInt8) (c p : Nat) (v : Value) : Prop :=
  (c ≠ 0 ∧ Told l c p ∧ v = hd0.V) ∨ (Told l 0 0 ∧ hdTold l c p ∧ v = if c = 0 then (hdOf l).V else hd0.V)

theorem hdTold.one {l : List UInt8} {c p c' p' : Nat} (h : hdTold l c p) (h' : hdTold l c' p') : c = c' ∧ p = p' := by
  rcases h with ⟨h1, rfl, rfl⟩ | ⟨h1, h2, rfl, rfl⟩ | ⟨h1, rfl, k, hk, h2, h3, rfl⟩ <;> rcases h' with ⟨g1, rfl, rfl⟩ | ⟨g1, g2, rfl, rfl⟩ | ⟨g1, rfl, k', hk', g2, g3, rfl⟩
  · exact ⟨rfl, rfl⟩
  · omega
  · omega
  · omega
  · exact ⟨rfl, rfl⟩
  · exact absurd g3 (h2 _ hk')
  · omega
  · exact absurd h3 (g2 _ hk)
  · refine ⟨rfl, ?_⟩
    rcases Nat.lt_trichotomy k k' with e | e | e
    · exact absurd h3 (g2 _ e)
    · rw [e]
    · exact absurd g3 (h2 _ e)
theorem HTold.one {l : List UInt8} {c p c' p' : Nat} {v v' : Value} (h : HTold l c p v) (h' : HTold l c' p' v') : c = c' ∧ p = p' ∧ v = v' := by
  rcases h with ⟨h1, h2, rfl⟩ | ⟨h1, h2, rfl⟩ <;> rcases h' with ⟨g1, g2, rfl⟩ | ⟨g1, g2, rfl⟩
  · obtain ⟨rfl, rfl⟩ := h2.one g2
    exact ⟨rfl, rfl, rfl⟩
  · exact absurd (h2.one g1).1 h1
  · exact absurd (g2.one h1).1 g1
  · obtain ⟨rfl, rfl⟩ := h2.one g2
    exact ⟨rfl, rfl, rfl⟩

theorem list13 {l : List Nat} (h : l.length = 13) : ∃ x0 x1 x2 x3 x4 x5 x6 x7 x8 x9 x10 x11 x12, l = [x0, x1, x2, x3, x4, x5, x6, x7, x8, x9, x10, x11, x12] := by
  match l, h with
  | [x0, x1, x2, x3, x4, x5, x6, x7, x8, x9, x10, x11, x12], _ => exact ⟨_, _, _, _, _, _, _, _, _, _, _, _, _, rfl⟩

theorem hdX_len (l : List UInt8) : (hdX l).length = 13 := length_nums _ _ _ _
theorem hdX_lt (l : List UInt8) (k : Nat) (h : k < 13) : (hdX l).getD k 0 < 256 ^ ((hRow (lWide l)).getD k 0) := by
  have h1 : k < (nums l (lBig l) 16 (hRow (lWide l))).length := by rw [length_nums]; exact h
  have := nums_lt l (lBig l) (hRow (lWide l)) 16 k h1
  rw [hdX, List.getD_eq_getElem?_getD, List.getElem?_eq_getElem h1]
  exact this
theorem byWide_pow (b : Bool) (x : Nat) (h : x < 256 ^ byWide b 4 8) : x < 18446744073709551616 := by
  cases b
  · exact Nat.lt_of_lt_of_le h (by decide)
  · exact h
theorem hdX_64 (l : List UInt8) (k : Nat) : (hdX l).getD k 0 < 18446744073709551616 := by
  by_cases hk : k < 13
  · have h := hdX_lt l k hk
    match k, hk with
    | 0, _ => exact Nat.lt_of_lt_of_le h (show 256 ^ 2 ≤ 18446744073709551616 by decide)
    | 1, _ => exact Nat.lt_of_lt_of_le h (show 256 ^ 2 ≤ 18446744073709551616 by decide)
    | 2, _ => exact Nat.lt_of_lt_of_le h (show 256 ^ 4 ≤ 18446744073709551616 by decide)
    | 3, _ => exact byWide_pow _ _ h
    | 4, _ => exact byWide_pow _ _ h
    | 5, _ => exact byWide_pow _ _ h
    | 6, _ => exact Nat.lt_of_lt_of_le h (show 256 ^ 4 ≤ 18446744073709551616 by decide)
    | 7, _ => exact Nat.lt_of_lt_of_le h (show 256 ^ 2 ≤ 18446744073709551616 by decide)
    | 8, _ => exact Nat.lt_of_lt_of_le h (show 256 ^ 2 ≤ 18446744073709551616 by decide)
    | 9, _ => exact Nat.lt_of_lt_of_le h (show 256 ^ 2 ≤ 18446744073709551616 by decide)
    | 10, _ => exact Nat.lt_of_lt_of_le h (show 256 ^ 2 ≤ 18446744073709551616 by decide)
    | 11, _ => exact Nat.lt_of_lt_of_le h (show 256 ^ 2 ≤ 18446744073709551616 by decide)
    | 12, _ => exact Nat.lt_of_lt_of_le h (show 256 ^ 2 ≤ 18446744073709551616 by decide)
  · rw [List.getD_eq_getElem?_getD, List.getElem?_eq_none (by rw [hdX_len]; omega)]
    decide
theorem hdOf_ok (l : List UInt8) : (hdOf l).Ok :=
  ⟨hdX_lt l 0 (by decide), hdX_lt l 1 (by decide), hdX_64 l 3, hdX_64 l 4, hdX_64 l 5, hdX_lt l 6 (by decide), hdX_lt l 9 (by decide), hdX_lt l 11 (by decide), hdX_lt l 12 (by decide)⟩

/-- With the numbers as letters. -/
theorem hdOf_eq {l : List UInt8} {x0 x1 x2 x3 x4 x5 x6 x7 x8 x9 x10 x11 x12 : Nat} (h : hdX l = [x0, x1, x2, x3, x4, x5, x6, x7, x8, x9, x10, x11, x12]) :
    hdOf l = ⟨lWide l, lBig l, l.getD 7 0, l.getD 8 0, x0, x1, x3, x4, x5, x6, x9, x11, x12⟩ := by
  unfold hdOf; rw [h]; rfl
theorem some_of {x : Nat} (h : x ≠ 0) : ((x : Int) != 0) = true := by simp; omega
theorem hbad_iff {l : List UInt8} {x0 x1 x2 x3 x4 x5 x6 x7 x8 x9 x10 x11 x12 : Nat} (h : hdX l = [x0, x1, x2, x3, x4, x5, x6, x7, x8, x9, x10, x11, x12]) (k : Nat) (hk : k < 13) :
    HBad l k ↔ (k = 2 ∧ x2 ≠ 1) ∨ (k = 7 ∧ x7 ≠ hSize (lWide l)) ∨ (k = 8 ∧ x9 ≠ 0 ∧ x8 ≠ byWide (lWide l) 32 56) ∨ (k = 10 ∧ x5 ≠ 0 ∧ x10 ≠ byWide (lWide l) 40 64) := by
  unfold HBad
  rw [hdOf_eq h, h]
  match k, hk with
  | 0, _ => simp [Hd.N]
  | 1, _ => simp [Hd.N]
  | 2, _ => simp [Hd.N, mayAny]
  | 3, _ => simp [Hd.N]
  | 4, _ => simp [Hd.N]
  | 5, _ => simp [Hd.N]
  | 6, _ => simp [Hd.N]
  | 7, _ => simp [Hd.N, mayAny]
  | 8, _ =>
    by_cases e : x9 = 0
    · simp [Hd.N, mayAny, e]
    · simp [Hd.N, mayAny, e, ifSome]
  | 9, _ => simp [Hd.N]
  | 10, _ =>
    by_cases e : x5 = 0
    · simp [Hd.N, mayAny, e]
    · simp [Hd.N, mayAny, e, ifSome]
  | 11, _ => simp [Hd.N]
  | 12, _ => simp [Hd.N]

theorem idOf_zero (l : List UInt8) : idOf l 0 = idV (lWide l) (lBig l) (l.getD 7 0) (l.getD 8 0) := by rw [idOf, if_pos rfl]; rfl
theorem idOf_bad (l : List UInt8) {c : Nat} (h : c ≠ 0) : idOf l c = idV false false 0 0 := by rw [idOf, if_neg h]
theorem hdTold.le {l : List UInt8} {c p : Nat} (h : hdTold l c p) : c ≤ 4 ∧ p ≤ l.length + 64 := by
  rcases h with ⟨h1, rfl, rfl⟩ | ⟨h1, h2, rfl, rfl⟩ | ⟨h1, rfl, k, hk, h2, h3, rfl⟩
  · omega
  · omega
  · have e1 := sumN_le (hRow (lWide l)) k
    have e2 := sum_hRow (lWide l)
    have e3 : hSize (lWide l) ≤ 64 := by cases lWide l <;> decide
    omega
end Go.Proofs.Ytkohkkgfmkocjaa
