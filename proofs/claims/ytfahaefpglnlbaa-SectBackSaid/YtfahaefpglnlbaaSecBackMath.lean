/-
  What was put is got, and what is got, put, is those bytes, in plain words. No walk stands here.
-/
import Derived.Test.YtfahaefpglnlbaaSecSaid
namespace Go.Proofs.Ytfahaefpglnlbaa
open Go.RowKit

theorem rowF_zip (l : List UInt8) (big : Bool) : ∀ (ns : List Nat) (p : Nat), rowF ((nums l big p ns).zip ns) = true
  | [], _ => rfl
  | n :: r, p => by
    simp only [nums, List.zip_cons_cons, rowF, rowF_zip l big r (p + n), Bool.and_true, decide_eq_true_eq]
    exact Nat.lt_of_lt_of_le (getB_lt _ big) (Nat.pow_le_pow_right (by decide) (by simp; omega))

theorem scOf_fits (l : List UInt8) (p : Nat) (wide big : Bool) : rowF ((scOf l p wide big).Q wide) = true := by
  rw [scOf_Q, sX]; exact rowF_zip l big _ _
theorem scOf_L (l : List UInt8) (p : Nat) (wide big : Bool) (h : p + sSize wide ≤ l.length) : (scOf l p wide big).L wide big = (l.drop p).take (sSize wide) := by
  rw [Sc.L, scOf_Q, sX, rowB_nums l big _ _ (by rw [sum_sRow]; exact h), sum_sRow]
theorem sX_put (p : Sc) (wide big : Bool) (hf : rowF (p.Q wide) = true) (pre post : List UInt8) : sX (pre ++ p.L wide big ++ post) pre.length wide big = p.N := by
  have := nums_rowB big post (p.Q wide) pre hf
  rw [p.sndQ, p.fstQ] at this
  exact this
theorem scOf_put (p : Sc) (wide big : Bool) (hf : rowF (p.Q wide) = true) (pre post : List UInt8) : scOf (pre ++ p.L wide big ++ post) pre.length wide big = p := by
  have e := sX_put p wide big hf pre post
  unfold scOf
  rw [e]
  rfl
theorem wide_fitsS (p : Sc) (ok : p.Ok) : rowF (p.Q true) = true := by
  obtain ⟨na, ty, fl, ad, off, sz, li, inf, al, en⟩ := p
  obtain ⟨k1, k2, k3, k4, k5, k6, k7, k8, k9, k10⟩ := ok
  simp only [] at *
  have e : (Sc.Q ⟨na, ty, fl, ad, off, sz, li, inf, al, en⟩ true) = [(na, 4), (ty, 4), (fl, 8), (ad, 8), (off, 8), (sz, 8), (li, 4), (inf, 4), (al, 8), (en, 8)] := rfl
  rw [e]
  simp only [rowF, Bool.and_eq_true, decide_eq_true_eq, and_true]
  omega
end Go.Proofs.Ytfahaefpglnlbaa
