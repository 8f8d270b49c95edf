/-
  A slice of strings that reads as a list of names. No program's function is spoken of here.
-/
import Derived.Test.YtahmdccalgdiaaaTree
import Derived.Test.YtahmdccalgdiaaaStrMath
import Derived.WalkKit
import Derived.Lib.Hide
import Derived.Laws.Strings
namespace Go.Proofs.Ytahmdccalgdiaaa
open Go.RowKit

/-- A name as a string. -/
def bstr (s : Bs) : ByteArray := ⟨s.toArray⟩
theorem bstr_size (s : Bs) : (bstr s).size = s.length := by simp [bstr, ByteArray.size]
theorem bstr_list (s : Bs) : (bstr s).data.toList = s := by simp [bstr]
theorem bstr_inj {a b : Bs} (h : bstr a = bstr b) : a = b := by rw [← bstr_list a, h, bstr_list]
theorem bstr_of (s : ByteArray) : bstr s.data.toList = s := by cases s; simp [bstr]

theorem bstr_toList (s : Bs) : (bstr s).toList = s := by rw [ByteArray.toList_eq, bstr_list]
theorem bstr_at {S : ByteArray} {s : Bs} (hS : S = bstr s) (m : Nat) (h : m < S.size) : s[m]? = some S[m] := by
  subst hS
  have h' : m < s.length := by rw [← bstr_size]; exact h
  rw [List.getElem?_eq_getElem h']
  rfl
theorem bstr_empty {S : ByteArray} {s : Bs} (hS : S = bstr s) : S.toList.isEmpty = s.isEmpty := by rw [hS, bstr_toList]
theorem bstr_eq {S S' : ByteArray} {s s' : Bs} (hS : S = bstr s) (hS' : S' = bstr s') (h : s = s') : (S.toList == S'.toList) = true := by rw [hS, hS', bstr_toList, bstr_toList, h]; exact beq_self_eq_true _
theorem bstr_ne {S S' : ByteArray} {s s' : Bs} (hS : S = bstr s) (hS' : S' = bstr s') (h : s ≠ s') : (S.toList == S'.toList) = false := by rw [hS, hS', bstr_toList, bstr_toList]; exact beq_eq_false_iff_ne.2 h

/-- The slice (A, n, c) reads as the names L; its cells lie below block B. -/
structure SS (w : World) (B : Nat) (A : Option Addr) (n c : Nat) (L : List Bs) : Prop where
  len : n = L.length
  cap : n ≤ c
  max : c ≤ maxLen
  each : ∀ s ∈ L, s.length ≤ maxLen
  pos : 0 < n → ∃ b off, A = some ⟨b, off, none⟩ ∧ b < B ∧ ∀ j, j < L.length → w.cell? ⟨b, off + j, none⟩ = some (.string (bstr (L.getD j [])))

section
variable {w w' : World} {B : Nat} {A : Option Addr} {n c : Nat} {L : List Bs}
theorem SS.keep (h : SS w B A n c L) (hk : ∀ p : Addr, p.block < B → w'.cell? p = w.cell? p) : SS w' B A n c L :=
  ⟨h.len, h.cap, h.max, h.each, fun hn => by
    obtain ⟨b, off, e, hb, hc⟩ := h.pos hn
    exact ⟨b, off, e, hb, fun j hj => (hk ⟨b, off + j, none⟩ hb).trans (hc j hj)⟩⟩
theorem SS.belowAt {B0 : Nat} (h : SS w B A n c L) (hb : Below B0 w w') (hB : B ≤ B0) : SS w' B A n c L := h.keep fun _ hp => hb.cell (by omega)
theorem SS.more {B' : Nat} (h : SS w B A n c L) (hB : B ≤ B') : SS w B' A n c L :=
  ⟨h.len, h.cap, h.max, h.each, fun hn => by
    obtain ⟨b, off, e, hb, hc⟩ := h.pos hn
    exact ⟨b, off, e, by omega, hc⟩⟩
theorem SS.grow (h : SS w w.heap.size A n c L) (hg : Grow w w') : SS w' w'.heap.size A n c L := (h.belowAt hg (Nat.le_refl _)).more hg.size
theorem SS.size (h : SS w B A n c L) (j : Nat) : (L.getD j []).length ≤ maxLen := by
  by_cases hj : j < L.length
  · rw [List.getD_eq_getElem?_getD, List.getElem?_eq_getElem hj]
    exact h.each _ (List.getElem_mem hj)
  · rw [List.getD_eq_getElem?_getD, List.getElem?_eq_none (by omega)]
    exact Nat.zero_le _
end
theorem all_of_getD {L : List Bs} {p : Bs → Prop} (h : ∀ j, j < L.length → p (L.getD j [])) : ∀ s ∈ L, p s := by
  intro s hs
  obtain ⟨j, hj⟩ := List.getElem?_of_mem hs
  have h1 := (List.getElem?_eq_some_iff.1 hj).1
  have := h j h1
  rw [List.getD_eq_getElem?_getD, hj] at this
  exact this
theorem getD_mem {L : List Bs} {j : Nat} (hj : j < L.length) : L.getD j [] ∈ L := by
  rw [List.getD_eq_getElem?_getD, List.getElem?_eq_getElem hj]
  exact List.getElem_mem hj
end Go.Proofs.Ytahmdccalgdiaaa
