/-
  What was put is got, in plain words. No walk stands here.
-/
import Derived.Test.YtkohkkgfmkocjaaHeadPut
import Derived.Test.YtkohkkgfmkocjaaHeadSaid
namespace Go.Proofs.Ytkohkkgfmkocjaa
open Go.RowKit

theorem Hd.lenL (h : Hd) : h.L.length = hSize h.wide := by
  rw [Hd.L, List.length_append, length_rowB, ← sum_hRow h.wide]
  rfl

theorem getD_append (l r : List UInt8) (k : Nat) (hk : k < l.length) : (l ++ r).getD k 0 = l.getD k 0 := by
  rw [List.getD_eq_getElem?_getD, List.getD_eq_getElem?_getD, List.getElem?_append_left hk]
theorem wide_idL (wide big : Bool) (o a : UInt8) (r : List UInt8) : lWide (idL wide big o a ++ r) = wide := by cases wide <;> rfl
theorem big_idL (wide big : Bool) (o a : UInt8) (r : List UInt8) : lBig (idL wide big o a ++ r) = big := by cases big <;> rfl
theorem clean_idL (wide big : Bool) (o a : UInt8) (r : List UInt8) : Clean (idL wide big o a ++ r) 7 := clean_of fun j hj hlt => by
  rw [List.getElem_append_left (by simp [idL]; omega), List.getD_eq_getElem?_getD, List.getElem?_eq_getElem (by simp [idL]; omega)]
  rfl

/-- The numbers of bytes that were put. -/
theorem hdX_put (h : Hd) (hf : rowF h.Q = true) (r : List UInt8) : hdX (h.L ++ r) = h.N := by
  have e := nums_rowB h.big r h.Q (idL h.wide h.big h.o h.a) hf
  unfold hdX
  rw [Hd.L, List.append_assoc, wide_idL, big_idL, ← List.append_assoc]
  exact e
theorem hdOf_put (h : Hd) (hf : rowF h.Q = true) (r : List UInt8) : hdOf (h.L ++ r) = h := by
  have e := hdX_put h hf r
  unfold hdOf
  rw [e, Hd.L, List.append_assoc, wide_idL, big_idL]
  rfl

theorem put_told (h : Hd) (hf : rowF h.Q = true) (r : List UInt8) : HTold (h.L ++ r) 0 0 h.V := by
  have e1 := hdX_put h hf r
  have e2 := hdOf_put h hf r
  have hl := h.lenL
  have hs : lWide (h.L ++ r) = h.wide := by rw [Hd.L, List.append_assoc, wide_idL]
  have h16 : 16 ≤ hSize h.wide := by cases h.wide <;> decide
  have ht : Told (h.L ++ r) 0 0 := .inl ⟨rfl, rfl, by rw [Hd.L, List.append_assoc]; exact clean_idL _ _ _ _ _, by rw [List.length_append]; omega⟩
  refine .inr ⟨ht, .inr (.inl ⟨by rw [hs, List.length_append]; omega, fun j _ hb => ?_, rfl, rfl⟩), by rw [e2]; rfl⟩
  unfold HBad at hb
  rw [e1, e2] at hb
  exact hb.1 rfl

theorem take_split (h : Hd) (k : Nat) (hk : 16 ≤ k) : h.L.take k = idL h.wide h.big h.o h.a ++ (rowB h.big h.Q).take (k - 16) := by
  rw [Hd.L, List.take_append]
  rw [List.take_of_length_le (by simp [idL]; omega)]
  rfl

theorem cut_told (h : Hd) (k : Nat) (hk : k < h.L.length) : HTold (h.L.take k) 2 k hd0.V := by
  have hl : (h.L.take k).length = k := by simp; omega
  by_cases h16 : k < 16
  · refine .inl ⟨by omega, .inr (.inl ⟨rfl, hl.symm, clean_of (wide := h.wide) (big := h.big) (o := h.o) (a := h.a) fun j hj hlt => ?_, by omega⟩), rfl⟩
    rw [List.getElem_take]
    simp only [Hd.L]
    rw [List.getElem_append_left (by simp [idL]; omega), List.getD_eq_getElem?_getD, List.getElem?_eq_getElem (by simp [idL]; omega)]
    rfl
  · have e := take_split h k (by omega)
    have hs : lWide (h.L.take k) = h.wide := by rw [e, wide_idL]
    have ht : Told (h.L.take k) 0 0 := .inl ⟨rfl, rfl, by rw [e]; exact clean_idL _ _ _ _ _, by omega⟩
    exact .inr ⟨ht, .inl ⟨by rw [hs, ← h.lenL, hl]; exact hk, rfl, hl.symm⟩, by rw [if_neg (by omega)]⟩

theorem wide_fits (h : Hd) (ok : h.Ok) (hw : h.wide = true) : rowF h.Q = true := by
  obtain ⟨wide, big, o, a, ty, ma, en, ph, sh, fl, pn, sn, st⟩ := h
  obtain ⟨k1, k2, k3, k4, k5, k6, k7, k8, k9⟩ := ok
  simp only [] at *
  subst hw
  have s1 := ifSome_le ((pn : Int) != 0) (byWide true 32 56)
  have s2 := ifSome_le ((sh : Int) != 0) (byWide true 40 64)
  have s3 : byWide true 32 56 = 56 := rfl
  have s4 : byWide true 40 64 = 64 := rfl
  have s5 : hSize true = 64 := rfl
  have s6 : byWide true 4 8 = 8 := rfl
  simp only [Hd.Q, Hd.N, hRow, List.zip_cons_cons, List.zip_nil_right, rowF, Bool.and_true, Bool.and_eq_true, decide_eq_true_eq, s5, s6]
  omega
end Go.Proofs.Ytkohkkgfmkocjaa
