/-
  Several texts in one: A file's model, as plain data; What was put is got, and what is got, put, is those bytes, in plain words; What was put is got, and what is got, put, is those bytes, in plain words.
-/
import Derived.Test.YtlccbekalccahaaGreatDoorFbG14
import Derived.Test.YtlccbekalccahaaGreatDoorFbG20
import Derived.Test.YtlccbekalccahaaGreatDoorFbG23

namespace Go.Proofs.YtlccbekalccahaaGreatDoor
open Go.RowKit
set_option linter.unusedVariables false

/-- Where the numbers stand in the header that may be wrong. -/
def oPh (wide : Bool) : Nat := byWide wide 28 32
def oSh (wide : Bool) : Nat := byWide wide 32 40
def oPn (wide : Bool) : Nat := byWide wide 44 56
def oSn (wide : Bool) : Nat := byWide wide 48 60
def oSt (wide : Bool) : Nat := byWide wide 50 62
/-- A file has n bytes from p on; none it always has. -/
def inB (len p n : Nat) : Bool := decide (n = 0) || decide (p + n ≤ len)

section
variable (l : List UInt8)
/-- The first section header (one of 0s, if there is none). -/
def fst_ : Sc := if (hdOf l).sh = 0 then sc0 else scOf l (hdOf l).sh (lWide l) (lBig l)
/-- How many program headers, section headers; Str. -/
def nP : Nat := if (hdOf l).pn = 65535 then (fst_ l).inf else (hdOf l).pn
def nS : Nat := if (hdOf l).sn = 0 then (fst_ l).sz else (hdOf l).sn
def nI : Nat := if (hdOf l).st = 65535 then (fst_ l).li else (hdOf l).st
/-- What is wrong first with how many section headers there are, with how many program headers: a code and a place. -/
def scE : Nat × Nat :=
  if (hdOf l).sh = 0 then (if nS l ≠ 0 then (4, oSn (lWide l)) else (0, 0))
  else if nS l = 0 ∨ 65 < nS l then (8, oSh (lWide l)) else if inB l.length (hdOf l).sh (nS l * sSize (lWide l)) then (0, 0) else (5, oSh (lWide l))
def pgE : Nat × Nat :=
  if (hdOf l).pn = 65535 ∧ (hdOf l).sh = 0 then (4, oPn (lWide l)) else if 16 < nP l then (8, oPn (lWide l)) else if inB l.length (hdOf l).ph (nP l * pSize (lWide l)) then (0, 0) else (5, oPh (lWide l))
def cntE : Nat × Nat :=
  if (hdOf l).sh ≠ 0 ∧ ¬ (hdOf l).sh + sSize (lWide l) ≤ l.length then (5, oSh (lWide l))
  else if (scE l).1 ≠ 0 then scE l else if (pgE l).1 ≠ 0 then pgE l else if (hdOf l).st = 65535 ∧ (hdOf l).sh = 0 then (4, oSt (lWide l)) else (0, 0)
/-- Program header i; section header i. -/
def pAt (i : Nat) : Nat := (hdOf l).ph + i * pSize (lWide l)
def sAt (i : Nat) : Nat := (hdOf l).sh + i * sSize (lWide l)
def pgs (i : Nat) : Pg := pgOf l (pAt l i) (lWide l) (lBig l)
def scs (i : Nat) : Sc := scOf l (sAt l i) (lWide l) (lBig l)
/-- How many bytes a section has in the file. -/
def Sc.held (s : Sc) : Nat := if s.ty = 0 ∨ s.ty = 8 then 0 else s.sz
/-- What is amiss with one: the place, and one more; 0: nothing. -/
def pBad (i : Nat) : Nat := if inB l.length (pgs l i).off (pgs l i).fs then 0 else pAt l i + 1
def sBad (i : Nat) : Nat := if inB l.length (scs l (i + 1)).off (scs l (i + 1)).held then 0 else sAt l (i + 1) + 1
def tabE : Nat × Nat :=
  if fstC (pBad l) (List.range (nP l)) ≠ 0 then (5, fstC (pBad l) (List.range (nP l)) - 1) else if fstC (sBad l) (List.range (nS l - 1)) ≠ 0 then (5, fstC (sBad l) (List.range (nS l - 1)) - 1) else (0, 0)
/-- A segment that is loaded has n bytes from off on. -/
def pHas (off n i : Nat) : Bool := decide ((pgs l i).ty = 1) && (decide ((pgs l i).off ≤ off) && decide (off - (pgs l i).off + n ≤ (pgs l i).fs))
def ownPl (off n : Nat) : Pl := if n = 0 then ⟨-1, 0, 0, []⟩ else ⟨-1, 0, n, (l.drop off).take n⟩
/-- The first of the segments from i to N. -/
def fstP (off n : Nat) : Nat → Nat → Option Nat
  | i, 0 => none
  | i, k + 1 => if pHas l off n i then some i else fstP off n (i + 1) k
def findPl (off n : Nat) : Pl := if n = 0 then ownPl l off n else match fstP l off n 0 (nP l) with | some i => ⟨(i : Int), off - (pgs l i).off, n, []⟩ | none => ownPl l off n
def segF (i : Nat) : Sg := ⟨(pgs l i).ty, (pgs l i).fl, (pgs l i).va, (pgs l i).pa, (pgs l i).ms, (pgs l i).al, if (pgs l i).ty = 1 then ownPl l (pgs l i).off (pgs l i).fs else findPl l (pgs l i).off (pgs l i).fs⟩
/-- Of section header i + 1. -/
def secF (i : Nat) : Se := ⟨(scs l (i + 1)).na, (scs l (i + 1)).ty, (scs l (i + 1)).fl, (scs l (i + 1)).ad, (scs l (i + 1)).sz, (scs l (i + 1)).li, (scs l (i + 1)).inf, (scs l (i + 1)).al, (scs l (i + 1)).en,
  if (scs l (i + 1)).ty = 0 ∨ (scs l (i + 1)).ty = 8 then ownPl l 0 0 else if i + 1 = nI l then ownPl l (scs l (i + 1)).off (scs l (i + 1)).sz else findPl l (scs l (i + 1)).off (scs l (i + 1)).sz⟩
/-- The model, also one that may not be. -/
def mdF : Md := ⟨lWide l, lBig l, (l.getD 7 0).toNat, (l.getD 8 0).toNat, (hdOf l).ty, (hdOf l).ma, (hdOf l).fl, (hdOf l).en, (List.range (nP l)).map (segF l), (List.range (nS l - 1)).map (secF l), (nI l : Int)⟩
/-- No model. -/
def mdN : Md := ⟨false, false, 0, 0, 0, 0, 0, 0, [], [], 0⟩
/-- What is amiss behind the header. -/
def restE : Nat × Nat := if (cntE l).1 ≠ 0 then cntE l else if (tabE l).1 ≠ 0 then tabE l else if (mdF l).planC ≠ 0 then ((mdF l).planC, 0) else (0, 0)
/-- What is told of a file: a code (0: none), a place, a model. -/
def PTold (c p : Nat) (m : Md) : Prop :=
  (65536 < l.length ∧ c = 8 ∧ p = 65536 ∧ m = mdN) ∨ (l.length ≤ 65536 ∧ c ≠ 0 ∧ HTold l c p hd0.V ∧ m = mdN) ∨ (l.length ≤ 65536 ∧ HTold l 0 0 (hdOf l).V ∧ restE l = (c, p) ∧ m = if c = 0 then mdF l else mdN)
end

section
variable {l : List UInt8}
theorem HTold.zero {c p : Nat} {v : Value} (h : HTold l c p v) (hc : c = 0) : p = 0 ∧ v = (hdOf l).V := by
  subst hc
  rcases h with ⟨h, _⟩ | ⟨_, h, e⟩
  · exact absurd rfl h
  · rw [if_pos rfl] at e
    rcases h with ⟨_, h, _⟩ | ⟨_, _, _, h⟩ | ⟨_, h, _⟩
    · omega
    · exact ⟨h, e⟩
    · omega
theorem HTold.not {c p : Nat} {v : Value} (h : HTold l c p v) (hc : c ≠ 0) : v = hd0.V := by
  rcases h with ⟨_, _, e⟩ | ⟨_, _, e⟩
  · exact e
  · rwa [if_neg hc] at e
theorem PTold.one {c p c' p' : Nat} {m m' : Md} (h : PTold l c p m) (h' : PTold l c' p' m') : c = c' ∧ p = p' ∧ m = m' := by
  rcases h with ⟨h1, rfl, rfl, rfl⟩ | ⟨h1, h2, h3, rfl⟩ | ⟨h1, h2, h3, rfl⟩ <;> rcases h' with ⟨g1, rfl, rfl, rfl⟩ | ⟨g1, g2, g3, rfl⟩ | ⟨g1, g2, g3, rfl⟩
  · exact ⟨rfl, rfl, rfl⟩
  · omega
  · omega
  · omega
  · obtain ⟨e1, e2, _⟩ := h3.one g3
    exact ⟨e1, e2, rfl⟩
  · exact absurd (h3.one g2).1 h2
  · omega
  · exact absurd (g3.one h2).1 g2
  · rw [h3] at g3
    injection g3 with e1 e2
    subst e1; subst e2
    exact ⟨rfl, rfl, rfl⟩
/-- The places are small. -/
theorem inB_le {len p n : Nat} (h : inB len p n = true) (hn : n ≠ 0) : p + n ≤ len := by
  unfold inB at h
  simp at h
  rcases h with h | h
  · exact absurd h hn
  · exact h
theorem cnt_ok (h : (cntE l).1 = 0) : (scE l).1 = 0 ∧ (pgE l).1 = 0 ∧ ¬ ((hdOf l).sh ≠ 0 ∧ ¬ (hdOf l).sh + sSize (lWide l) ≤ l.length) ∧ ¬ ((hdOf l).st = 65535 ∧ (hdOf l).sh = 0) := by
  unfold cntE at h
  split at h
  · simp at h
  split at h
  · exact absurd h (by assumption)
  split at h
  · exact absurd h (by assumption)
  split at h
  · simp at h
  · rename_i h1 h2 h3 h4
    exact ⟨by omega, by omega, h1, h4⟩
theorem sc_ok (h : (scE l).1 = 0) : ((hdOf l).sh = 0 ∧ nS l = 0) ∨ ((hdOf l).sh ≠ 0 ∧ 0 < nS l ∧ nS l ≤ 65 ∧ (hdOf l).sh + nS l * sSize (lWide l) ≤ l.length) := by
  unfold scE at h
  split at h
  · rename_i h1
    split at h
    · simp at h
    · exact .inl ⟨h1, by omega⟩
  · rename_i h1
    split at h
    · simp at h
    · rename_i h2
      split at h
      · rename_i h3
        refine .inr ⟨h1, by omega, by omega, inB_le h3 ?_⟩
        have : 0 < sSize (lWide l) := by cases lWide l <;> decide
        exact Nat.ne_of_gt (Nat.mul_pos (by omega) this)
      · simp at h
theorem pg_ok (h : (pgE l).1 = 0) : nP l ≤ 16 ∧ (nP l = 0 ∨ (hdOf l).ph + nP l * pSize (lWide l) ≤ l.length) := by
  unfold pgE at h
  split at h
  · simp at h
  split at h
  · simp at h
  · rename_i h1 h2
    split at h
    · rename_i h3
      refine ⟨by omega, ?_⟩
      rcases Nat.eq_zero_or_pos (nP l) with h0 | h0
      · exact .inl h0
      · refine .inr (inB_le h3 ?_)
        have : 0 < pSize (lWide l) := by cases lWide l <;> decide
        exact Nat.ne_of_gt (Nat.mul_pos h0 this)
    · simp at h
theorem mulS {k n z : Nat} (h : k < n) : k * z + z ≤ n * z := by
  have := Nat.mul_le_mul_right z (show k + 1 ≤ n from h)
  rw [Nat.succ_mul] at this
  exact this
/-- Each header is in the file. -/
theorem pAt_in (h : (cntE l).1 = 0) {i : Nat} (hi : i < nP l) : pAt l i + pSize (lWide l) ≤ l.length := by
  have := (pg_ok (cnt_ok h).2.1).2
  have := mulS (z := pSize (lWide l)) hi
  unfold pAt
  omega
theorem sAt_in (h : (cntE l).1 = 0) {i : Nat} (hi : i < nS l) : sAt l i + sSize (lWide l) ≤ l.length := by
  have := sc_ok (cnt_ok h).1
  have := mulS (z := sSize (lWide l)) hi
  unfold sAt
  omega
end
end Go.Proofs.YtlccbekalccahaaGreatDoor

namespace Go.Proofs.YtlccbekalccahaaGreatDoor
open Go.RowKit

theorem rowF_zip (l : List UInt8) (big : Bool) : ∀ (ns : List Nat) (p : Nat), rowF ((nums l big p ns).zip ns) = true
  | [], _ => rfl
  | n :: r, p => by
    simp only [nums, List.zip_cons_cons, rowF, rowF_zip l big r (p + n), Bool.and_true, decide_eq_true_eq]
    exact Nat.lt_of_lt_of_le (getB_lt _ big) (Nat.pow_le_pow_right (by decide) (by simp; omega))

theorem pgOf_fits (l : List UInt8) (p : Nat) (wide big : Bool) : rowF ((pgOf l p wide big).Q wide) = true := by
  rw [pgOf_Q, pX]; exact rowF_zip l big _ _
theorem pgOf_L (l : List UInt8) (p : Nat) (wide big : Bool) (h : p + pSize wide ≤ l.length) : (pgOf l p wide big).L wide big = (l.drop p).take (pSize wide) := by
  rw [Pg.L, pgOf_Q, pX, rowB_nums l big _ _ (by rw [sum_pRow]; exact h), sum_pRow]
theorem Pg.sndQ (p : Pg) (wide : Bool) : (p.Q wide).map (·.2) = pRow wide := by
  rw [Pg.Q, pRow, List.map_map]; rfl
theorem pX_put (p : Pg) (wide big : Bool) (hf : rowF (p.Q wide) = true) (pre post : List UInt8) : pX (pre ++ p.L wide big ++ post) pre.length wide big = (pOrd wide).map fun i => p.N.getD i 0 := by
  have := nums_rowB big post (p.Q wide) pre hf
  rw [p.sndQ] at this
  rw [pX, Pg.L, this, Pg.Q, List.map_map]
  rfl
theorem pgOf_put (p : Pg) (wide big : Bool) (hf : rowF (p.Q wide) = true) (pre post : List UInt8) : pgOf (pre ++ p.L wide big ++ post) pre.length wide big = p := by
  have e := pX_put p wide big hf pre post
  unfold pgOf
  rw [e]
  obtain ⟨ty, fl, off, va, pa, fs, ms, al⟩ := p
  cases wide <;> rfl
theorem wide_fitsP (p : Pg) (ok : p.Ok) : rowF (p.Q true) = true := by
  obtain ⟨ty, fl, off, va, pa, fs, ms, al⟩ := p
  obtain ⟨k1, k2, k3, k4, k5, k6, k7, k8⟩ := ok
  simp only [] at *
  have e : (Pg.Q ⟨ty, fl, off, va, pa, fs, ms, al⟩ true) = [(ty, 4), (fl, 4), (off, 8), (va, 8), (pa, 8), (fs, 8), (ms, 8), (al, 8)] := rfl
  rw [e]
  simp only [rowF, Bool.and_eq_true, decide_eq_true_eq, and_true]
  omega
end Go.Proofs.YtlccbekalccahaaGreatDoor

namespace Go.Proofs.YtlccbekalccahaaGreatDoor
open Go.RowKit

theorem rowF_zipS (l : List UInt8) (big : Bool) : ∀ (ns : List Nat) (p : Nat), rowF ((nums l big p ns).zip ns) = true
  | [], _ => rfl
  | n :: r, p => by
    simp only [nums, List.zip_cons_cons, rowF, rowF_zipS l big r (p + n), Bool.and_true, decide_eq_true_eq]
    exact Nat.lt_of_lt_of_le (getB_lt _ big) (Nat.pow_le_pow_right (by decide) (by simp; omega))

theorem scOf_fits (l : List UInt8) (p : Nat) (wide big : Bool) : rowF ((scOf l p wide big).Q wide) = true := by
  rw [scOf_Q, sX]; exact rowF_zipS l big _ _
theorem scOf_L (l : List UInt8) (p : Nat) (wide big : Bool) (h : p + sSize wide ≤ l.length) : (scOf l p wide big).L wide big = (l.drop p).take (sSize wide) := by
  rw [Sc.L, scOf_Q, sX, rowB_nums l big _ _ (by rw [sum_sRow]; exact h), sum_sRow]
theorem sX_put (p : Sc) (wide big : Bool) (hf : rowF (p.Q wide) = true) (pre post : List UInt8) : sX (pre ++ p.L wide big ++ post) pre.length wide big = p.N := by
  have := nums_rowB big post (p.Q wide) pre hf
  rw [p.sndQ, p.fstQ] at this
  exact this
theorem scOf_put (p : Sc) (wide big : Bool) (hf : rowF (p.Q wide) = true) (pre post : List UInt8) : scOf (pre ++ p.L wide big ++ post) pre.length wide big = p := by
  have e := sX_put p wide big hf pre post
  unfold scOf
  rw [e]
  rfl
theorem wide_fitsS (p : Sc) (ok : p.Ok) : rowF (p.Q true) = true := by
  obtain ⟨na, ty, fl, ad, off, sz, li, inf, al, en⟩ := p
  obtain ⟨k1, k2, k3, k4, k5, k6, k7, k8, k9, k10⟩ := ok
  simp only [] at *
  have e : (Sc.Q ⟨na, ty, fl, ad, off, sz, li, inf, al, en⟩ true) = [(na, 4), (ty, 4), (fl, 8), (ad, 8), (off, 8), (sz, 8), (li, 4), (inf, 4), (al, 8), (en, 8)] := rfl
  rw [e]
  simp only [rowF, Bool.and_eq_true, decide_eq_true_eq, and_true]
  omega
end Go.Proofs.YtlccbekalccahaaGreatDoor
