/-
  Relocations against the document's own rows: when one may be, and what PutRels answers. No program's function is spoken of here.
-/
import Derived.Test.YtkgjebkjpcpoaaaRePut
import Derived.Test.YtkgjebkjpcpoaaaRefRow
namespace Go.Proofs.Ytkgjebkjpcpoaaa
open Go.RowKit

/-- What PutRels answers. -/
def RPutE (L : List Re) (wide adds big : Bool) (w : World) (e : Ending) (w' : World) : Prop :=
  (mays wide adds L = true ∧ ∃ A c, e = .returned (.tuple #[.slice A (rowB big (relQ wide adds L)).length c, .bool true]) ∧ OB w' w.heap.size 5 A (rowB big (relQ wide adds L)).length c (rowB big (relQ wide adds L)) ∧ Grow w w') ∨
  (mays wide adds L = false ∧ e = .returned (.tuple #[.slice none 0 0, .bool false]) ∧ Grow w w')

theorem Re.rowed (p : Re) (ok : p.Ok) (wide adds : Bool) : Rowed (p.Q wide adds) := by
  have h1 := p.both_lt ok wide
  have h2 : p.ad wide < 18446744073709551616 := Nat.lt_of_lt_of_le (p.ad_lt wide) (by cases wide <;> decide)
  have h0 := ok.off
  have hw := reW_wid wide
  refine ⟨by rw [p.lenQ]; cases adds <;> decide, fun k hk => ?_, fun k hk => ?_⟩
  · cases adds
    · match k, hk with
      | 0, _ => exact hw
      | 1, _ => exact hw
    · match k, hk with
      | 0, _ => exact hw
      | 1, _ => exact hw
      | 2, _ => exact hw
  · cases adds
    · match k, hk with
      | 0, _ => exact h0
      | 1, _ => exact h1
    · match k, hk with
      | 0, _ => exact h0
      | 1, _ => exact h1
      | 2, _ => exact h2
/-- Where nothing else forbids it, it may be just if its numbers fit. -/
theorem Re.may_fits (p : Re) (ok : p.Ok) {wide adds : Bool} (h1 : (adds || p.add == 0) = true) (h2 : wide = true ∨ (p.sym < 16777216 ∧ p.ty < 256 ∧ -2147483648 ≤ p.add ∧ p.add ≤ 2147483647)) : p.May wide adds = rowF (p.Q wide adds) := by
  cases hm : p.May wide adds
  · cases wide
    · obtain ⟨k1, k2, k3, k4⟩ : p.sym < 16777216 ∧ p.ty < 256 ∧ -2147483648 ≤ p.add ∧ p.add ≤ 2147483647 := by
        rcases h2 with h2 | h2
        · cases h2
        · exact h2
      have hoff : decide (p.off < 4294967296) = false := by
        cases ho : decide (p.off < 4294967296)
        · rfl
        · exfalso
          simp only [Re.May, h1, ho, Bool.false_or, k1, k2, k3, k4, decide_true, Bool.and_self] at hm
          cases hm
      have e : 256 ^ reW false = 4294967296 := by rw [reM_pow]; rfl
      cases adds <;> simp only [Re.Q, if_true, Bool.false_eq_true, if_false, rowF, e, hoff, Bool.false_and]
    · exfalso
      simp only [Re.May, h1, Bool.true_and, Bool.true_or] at hm
      cases hm
  · exact (Re.fits ok hm).symm
theorem Re.may_no1 (p : Re) {wide adds : Bool} (h : (adds || p.add == 0) = false) : p.May wide adds = false := by
  unfold Re.May; rw [h]; rfl
theorem Re.may_no2 (p : Re) {adds : Bool} (h : ¬ (p.sym < 16777216 ∧ p.ty < 256 ∧ -2147483648 ≤ p.add ∧ p.add ≤ 2147483647)) : p.May false adds = false := by
  cases hm : p.May false adds
  · rfl
  · exact absurd (Re.mayN hm).2 h

/-- Why a relocation may not be, fits aside. -/
def NarrowNo (sym ty : Nat) (add : Int) : Prop :=
  (decide ((sym : Int) < 16777216) = false) ∨ ((sym : Int) < 16777216 ∧ decide ((ty : Int) < 256) = false) ∨ ((sym : Int) < 16777216 ∧ (ty : Int) < 256 ∧ decide ((-2147483648 : Int) ≤ add) = false) ∨
  ((sym : Int) < 16777216 ∧ (ty : Int) < 256 ∧ (-2147483648 : Int) ≤ add ∧ decide (add ≤ (2147483647 : Int)) = false)
def NarrowYes (sym ty : Nat) (add : Int) : Prop := (sym : Int) < 16777216 ∧ (ty : Int) < 256 ∧ (-2147483648 : Int) ≤ add ∧ add ≤ (2147483647 : Int)
theorem narrow_or (sym ty : Nat) (add : Int) : NarrowNo sym ty add ∨ NarrowYes sym ty add := by
  unfold NarrowNo NarrowYes
  by_cases h1 : (sym : Int) < 16777216
  · by_cases h2 : (ty : Int) < 256
    · by_cases h3 : (-2147483648 : Int) ≤ add
      · by_cases h4 : add ≤ (2147483647 : Int)
        · exact .inr ⟨h1, h2, h3, h4⟩
        · exact .inl (.inr (.inr (.inr ⟨h1, h2, h3, decide_eq_false h4⟩)))
      · exact .inl (.inr (.inr (.inl ⟨h1, h2, decide_eq_false h3⟩)))
    · exact .inl (.inr (.inl ⟨h1, decide_eq_false h2⟩))
  · exact .inl (.inl (decide_eq_false h1))
theorem narrow_no {sym ty : Nat} {add : Int} (h : NarrowNo sym ty add) : ¬ (sym < 16777216 ∧ ty < 256 ∧ -2147483648 ≤ add ∧ add ≤ 2147483647) := by
  rintro ⟨h1, h2, h3, h4⟩
  unfold NarrowNo at h
  simp only [decide_eq_false_iff_not] at h
  omega
end Go.Proofs.Ytkgjebkjpcpoaaa
