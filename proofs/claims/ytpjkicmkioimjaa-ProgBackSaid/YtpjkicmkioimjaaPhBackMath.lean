/-
  What was put is got, and what is got, put, is those bytes, in plain words. No walk stands here.
-/
import Derived.Test.YtpjkicmkioimjaaPhSaid
namespace Go.Proofs.Ytpjkicmkioimjaa
open Go.RowKit

theorem rowF_zip (l : List UInt8) (big : Bool) : ∀ (ns : List Nat) (p : Nat), rowF ((nums l big p ns).zip ns) = true
  | [], _ => rfl
  | n :: r, p => by
    simp only [nums, List.zip_cons_cons, rowF, rowF_zip l big r (p + n), Bool.and_true, decide_eq_true_eq]
    exact Nat.lt_of_lt_of_le (getB_lt _ big) (Nat.pow_le_pow_right (by decide) (by simp; omega))

theorem pgOf_fits (l : List UInt8) (p : Nat) (wide big : Bool) : rowF ((pgOf l p wide big).Q wide) = true := by
  rw [pgOf_Q, pX]; exact rowF_zip l big _ _
theorem pgOf_L (l : List UInt8) (p : Nat) (wide big : Bool) (h : p + pSize wide ≤ l.length) : (pgOf l p wide big).L wide big = (l.drop p).take (pSize wide) := by
  rw [Pg.L, pgOf_Q, pX, rowB_nums l big _ _ (by rw [sum_pRow]; exact h), sum_pRow]
theorem Pg.sndQ (p : Pg) (wide : Bool) : (p.Q wide).map (·.2) = pRow wide := by
  rw [Pg.Q, pRow, List.map_map]; rfl
theorem pX_put (p : Pg) (wide big : Bool) (hf : rowF (p.Q wide) = true) (pre post : List UInt8) : pX (pre ++ p.L wide big ++ post) pre.length wide big = (pOrd wide).map fun i => p.N.getD i 0 := by
  have := nums_rowB big post (p.Q wide) pre hf
  rw [p.sndQ] at this
  rw [pX, Pg.L, this, Pg.Q, List.map_map]
  rfl
theorem pgOf_put (p : Pg) (wide big : Bool) (hf : rowF (p.Q wide) = true) (pre post : List UInt8) : pgOf (pre ++ p.L wide big ++ post) pre.length wide big = p := by
  have e := pX_put p wide big hf pre post
  unfold pgOf
  rw [e]
  obtain ⟨ty, fl, off, va, pa, fs, ms, al⟩ := p
  cases wide <;> rfl
theorem wide_fitsP (p : Pg) (ok : p.Ok) : rowF (p.Q true) = true := by
  obtain ⟨ty, fl, off, va, pa, fs, ms, al⟩ := p
  obtain ⟨k1, k2, k3, k4, k5, k6, k7, k8⟩ := ok
  simp only [] at *
  have e : (Pg.Q ⟨ty, fl, off, va, pa, fs, ms, al⟩ true) = [(ty, 4), (fl, 4), (off, 8), (va, 8), (pa, 8), (fs, 8), (ms, 8), (al, 8)] := rfl
  rw [e]
  simp only [rowF, Bool.and_eq_true, decide_eq_true_eq, and_true]
  omega
end Go.Proofs.Ytpjkicmkioimjaa
