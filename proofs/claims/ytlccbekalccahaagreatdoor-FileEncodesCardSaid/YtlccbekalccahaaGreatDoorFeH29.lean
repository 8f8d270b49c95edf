/-
  Several texts in one: What is told of any bytes as a program header, in plain words; What is told of any bytes as a section header, in plain words; A file's model, as plain data; What was put is got, and what is got, put, is those bytes, in plain words; What was put is got, and what is got, put, is those bytes, in plain words; What was written is read, field by field, whatever stands behind it.
-/
import Derived.Test.YtlccbekalccahaaGreatDoorFeH16
import Derived.Test.YtlccbekalccahaaGreatDoorFeH11
import Derived.Test.YtlccbekalccahaaGreatDoorFeH15
import Derived.Test.YtlccbekalccahaaGreatDoorFeH17

namespace Go.Proofs.YtlccbekalccahaaGreatDoor
open Go.RowKit

/-- Of a row of n numbers those are laid that the first k of the order name; the others are 0. -/
def laidIn (os ns : List Nat) (n k : Nat) : List Nat := (List.range n).map fun i => if i ∈ os.take k then ns.getD i 0 else 0
theorem laidIn_zero (os ns : List Nat) (n : Nat) : laidIn os ns n 0 = List.replicate n 0 := by
  apply List.ext_getElem?
  intro i
  by_cases h : i < n
  · simp [laidIn, h]
  · simp [laidIn, h]
theorem laidIn_succ {os ns : List Nat} {n k o v : Nat} (ho : os[k]? = some o) (hv : ns.getD o 0 = v) : (laidIn os ns n k).set o v = laidIn os ns n (k + 1) := by
  obtain ⟨hk, e⟩ := List.getElem?_eq_some_iff.1 ho
  apply List.ext_getElem?
  intro i
  rw [List.getElem?_set]
  simp only [laidIn, List.length_map, List.length_range, List.getElem?_map]
  rw [take_snoc_nat os k hk, e]
  by_cases h : i < n
  · by_cases e2 : o = i
    · subst e2
      rw [if_pos rfl, if_pos h, List.getElem?_range h]
      subst hv
      simp
    · rw [if_neg e2, List.getElem?_range h]
      have e3 : ¬ i = o := fun h => e2 h.symm
      simp [e3]
  · rw [List.getElem?_eq_none (by simp; omega)]
    by_cases e2 : o = i
    · subst e2; rw [if_pos rfl, if_neg h]; rfl
    · rw [if_neg e2]
      rfl
theorem laidIn_all {os ns : List Nat} {n : Nat} (h : ∀ i, i < n → i ∈ os) (hn : ns.length = n) : laidIn os ns n os.length = ns := by
  apply List.ext_getElem?
  intro i
  by_cases hi : i < n
  · have hm := h i hi
    simp [laidIn, hi, hm, show i < ns.length by omega]
  · rw [List.getElem?_eq_none (by simp [laidIn]; omega), List.getElem?_eq_none (by omega)]
theorem len_laidIn (os ns : List Nat) (n k : Nat) : (laidIn os ns n k).length = n := by simp [laidIn]

/-- The eight numbers, as they stand. -/
def pX (l : List UInt8) (p : Nat) (wide big : Bool) : List Nat := nums l big p (pRow wide)
/-- The program header that has them. -/
def pgOf (l : List UInt8) (p : Nat) (wide big : Bool) : Pg :=
  if wide then ⟨(pX l p wide big).getD 0 0, (pX l p wide big).getD 1 0, (pX l p wide big).getD 2 0, (pX l p wide big).getD 3 0, (pX l p wide big).getD 4 0, (pX l p wide big).getD 5 0, (pX l p wide big).getD 6 0, (pX l p wide big).getD 7 0⟩
  else ⟨(pX l p wide big).getD 0 0, (pX l p wide big).getD 6 0, (pX l p wide big).getD 1 0, (pX l p wide big).getD 2 0, (pX l p wide big).getD 3 0, (pX l p wide big).getD 4 0, (pX l p wide big).getD 5 0, (pX l p wide big).getD 7 0⟩
theorem pX_len (l : List UInt8) (p : Nat) (wide big : Bool) : (pX l p wide big).length = 8 := by rw [pX, length_nums, len_pRow]
theorem pgOf_at (l : List UInt8) (p : Nat) (wide big : Bool) (k : Nat) (h : k < 8) : (pgOf l p wide big).N.getD ((pOrd wide).getD k 0) 0 = (pX l p wide big).getD k 0 := by
  cases wide <;> (match k, h with
    | 0, _ => rfl
    | 1, _ => rfl
    | 2, _ => rfl
    | 3, _ => rfl
    | 4, _ => rfl
    | 5, _ => rfl
    | 6, _ => rfl
    | 7, _ => rfl)
theorem pX_lt (l : List UInt8) (p : Nat) (wide big : Bool) (k : Nat) (h : k < 8) : (pX l p wide big).getD k 0 < 256 ^ ((pRow wide).getD k 0) := by
  have h1 : k < (nums l big p (pRow wide)).length := by rw [length_nums, len_pRow]; exact h
  have := nums_lt l big (pRow wide) p k h1
  rw [pX, List.getD_eq_getElem?_getD, List.getElem?_eq_getElem h1]
  exact this
theorem pX_64 (l : List UInt8) (p : Nat) (wide big : Bool) (k : Nat) (h : k < 8) : (pX l p wide big).getD k 0 < 18446744073709551616 := by
  refine Nat.lt_of_lt_of_le (pX_lt l p wide big k h) (show _ ≤ 256 ^ 8 from Nat.pow_le_pow_right (by decide) ?_)
  have e : (pRow wide).getD k 0 = pWid wide ((pOrd wide).getD k 0) := by
    rw [pRow, List.getD_eq_getElem?_getD, List.getD_eq_getElem?_getD, List.getElem?_map, List.getElem?_eq_getElem (by rw [len_pOrd]; exact h)]
    rfl
  rw [e]
  unfold pWid
  split <;> omega
theorem pgOf_ok (l : List UInt8) (p : Nat) (wide big : Bool) : (pgOf l p wide big).Ok := by
  have h := pX_64 l p wide big
  have h0 := pX_lt l p wide big 0 (by omega)
  cases wide
  · have h6 := pX_lt l p false big 6 (by omega)
    exact ⟨h0, h6, h 1 (by omega), h 2 (by omega), h 3 (by omega), h 4 (by omega), h 5 (by omega), h 7 (by omega)⟩
  · have h1 := pX_lt l p true big 1 (by omega)
    exact ⟨h0, h1, h 2 (by omega), h 3 (by omega), h 4 (by omega), h 5 (by omega), h 6 (by omega), h 7 (by omega)⟩
theorem pOrd_all (wide : Bool) (i : Nat) (h : i < 8) : i ∈ pOrd wide := by
  cases wide <;> (match i, h with
    | 0, _ => decide
    | 1, _ => decide
    | 2, _ => decide
    | 3, _ => decide
    | 4, _ => decide
    | 5, _ => decide
    | 6, _ => decide
    | 7, _ => decide)
/-- Its numbers in their order, each with how many bytes it has. -/
theorem pgOf_Q (l : List UInt8) (p : Nat) (wide big : Bool) : (pgOf l p wide big).Q wide = (pX l p wide big).zip (pRow wide) := by
  apply List.ext_getElem
  · rw [Pg.lenQ, List.length_zip, pX_len, len_pRow]; rfl
  · intro k h1 h2
    have hk : k < 8 := by rw [Pg.lenQ] at h1; exact h1
    simp only [Pg.Q, List.getElem_map, List.getElem_zip, pRow]
    have := pgOf_at l p wide big k hk
    rw [List.getD_eq_getElem?_getD (l := pOrd wide), List.getElem?_eq_getElem (by rw [len_pOrd]; exact hk), List.getD_eq_getElem?_getD (l := pX l p wide big), List.getElem?_eq_getElem (by rw [pX_len]; exact hk)] at this
    simp only [Option.getD_some] at this
    rw [this]
end Go.Proofs.YtlccbekalccahaaGreatDoor

namespace Go.Proofs.YtlccbekalccahaaGreatDoor
open Go.RowKit

/-- Of a row of numbers the first k are laid; the others are 0. -/
def laidUp (ns : List Nat) (n k : Nat) : List Nat := (List.range n).map fun i => if i < k then ns.getD i 0 else 0
theorem laidUp_zero (ns : List Nat) (n : Nat) : laidUp ns n 0 = List.replicate n 0 := by
  apply List.ext_getElem?
  intro i
  by_cases h : i < n
  · simp [laidUp, h]
  · simp [laidUp, h]
theorem len_laidUp (ns : List Nat) (n k : Nat) : (laidUp ns n k).length = n := by simp [laidUp]
theorem laidUp_succ {ns : List Nat} {n k v : Nat} (hv : ns.getD k 0 = v) : (laidUp ns n k).set k v = laidUp ns n (k + 1) := by
  apply List.ext_getElem?
  intro i
  rw [List.getElem?_set]
  simp only [laidUp, List.length_map, List.length_range, List.getElem?_map]
  by_cases h : i < n
  · by_cases e2 : k = i
    · subst e2
      rw [if_pos rfl, if_pos h, List.getElem?_range h]
      subst hv
      simp
    · rw [if_neg e2, List.getElem?_range h]
      have e3 : i < k ↔ i < k + 1 := by omega
      simp only [Option.map_some, e3]
  · rw [List.getElem?_eq_none (by simp; omega)]
    by_cases e2 : k = i
    · subst e2; rw [if_pos rfl, if_neg h]; rfl
    · rw [if_neg e2]
      rfl
theorem laidUp_all {ns : List Nat} {n : Nat} (hn : ns.length = n) : laidUp ns n n = ns := by
  apply List.ext_getElem?
  intro i
  by_cases hi : i < n
  · simp [laidUp, hi, show i < ns.length by omega]
  · rw [List.getElem?_eq_none (by simp [laidUp]; omega), List.getElem?_eq_none (by omega)]

/-- The ten numbers, as they stand. -/
def sX (l : List UInt8) (p : Nat) (wide big : Bool) : List Nat := nums l big p (sRow wide)
/-- The section header that has them. -/
def scOf (l : List UInt8) (p : Nat) (wide big : Bool) : Sc :=
  ⟨(sX l p wide big).getD 0 0, (sX l p wide big).getD 1 0, (sX l p wide big).getD 2 0, (sX l p wide big).getD 3 0, (sX l p wide big).getD 4 0, (sX l p wide big).getD 5 0, (sX l p wide big).getD 6 0, (sX l p wide big).getD 7 0, (sX l p wide big).getD 8 0, (sX l p wide big).getD 9 0⟩
theorem sX_len (l : List UInt8) (p : Nat) (wide big : Bool) : (sX l p wide big).length = 10 := by rw [sX, length_nums, len_sRow]
theorem scOf_N (l : List UInt8) (p : Nat) (wide big : Bool) : (scOf l p wide big).N = sX l p wide big := by
  obtain ⟨x0, x1, x2, x3, x4, x5, x6, x7, x8, x9, hx⟩ := list10 (sX_len l p wide big)
  unfold scOf
  rw [hx]
  rfl
theorem sX_lt (l : List UInt8) (p : Nat) (wide big : Bool) (k : Nat) (h : k < 10) : (sX l p wide big).getD k 0 < 256 ^ ((sRow wide).getD k 0) := by
  have h1 : k < (nums l big p (sRow wide)).length := by rw [length_nums, len_sRow]; exact h
  have := nums_lt l big (sRow wide) p k h1
  rw [sX, List.getD_eq_getElem?_getD, List.getElem?_eq_getElem h1]
  exact this
theorem sX_64 (l : List UInt8) (p : Nat) (wide big : Bool) (k : Nat) (h : k < 10) : (sX l p wide big).getD k 0 < 18446744073709551616 := by
  refine Nat.lt_of_lt_of_le (sX_lt l p wide big k h) (show _ ≤ 256 ^ 8 from Nat.pow_le_pow_right (by decide) ?_)
  rw [sRow_at wide k h]
  unfold sWid
  split
  · omega
  · cases wide <;> decide
theorem scOf_ok (l : List UInt8) (p : Nat) (wide big : Bool) : (scOf l p wide big).Ok := by
  have h := sX_64 l p wide big
  exact ⟨sX_lt l p wide big 0 (by omega), sX_lt l p wide big 1 (by omega), h 2 (by omega), h 3 (by omega), h 4 (by omega), h 5 (by omega), sX_lt l p wide big 6 (by omega), sX_lt l p wide big 7 (by omega), h 8 (by omega), h 9 (by omega)⟩
/-- Its numbers in their order, each with how many bytes it has. -/
theorem scOf_Q (l : List UInt8) (p : Nat) (wide big : Bool) : (scOf l p wide big).Q wide = (sX l p wide big).zip (sRow wide) := by
  rw [Sc.Q, scOf_N]
end Go.Proofs.YtlccbekalccahaaGreatDoor

namespace Go.Proofs.YtlccbekalccahaaGreatDoor
open Go.RowKit
set_option linter.unusedVariables false

/-- Where the numbers stand in the header that may be wrong. -/
def oPh (wide : Bool) : Nat := byWide wide 28 32
def oSh (wide : Bool) : Nat := byWide wide 32 40
def oPn (wide : Bool) : Nat := byWide wide 44 56
def oSn (wide : Bool) : Nat := byWide wide 48 60
def oSt (wide : Bool) : Nat := byWide wide 50 62
/-- A file has n bytes from p on; none it always has. -/
def inB (len p n : Nat) : Bool := decide (n = 0) || decide (p + n ≤ len)

section
variable (l : List UInt8)
/-- The first section header (one of 0s, if there is none). -/
def fst_ : Sc := if (hdOf l).sh = 0 then sc0 else scOf l (hdOf l).sh (lWide l) (lBig l)
/-- How many program headers, section headers; Str. -/
def nP : Nat := if (hdOf l).pn = 65535 then (fst_ l).inf else (hdOf l).pn
def nS : Nat := if (hdOf l).sn = 0 then (fst_ l).sz else (hdOf l).sn
def nI : Nat := if (hdOf l).st = 65535 then (fst_ l).li else (hdOf l).st
/-- What is wrong first with how many section headers there are, with how many program headers: a code and a place. -/
def scE : Nat × Nat :=
  if (hdOf l).sh = 0 then (if nS l ≠ 0 then (4, oSn (lWide l)) else (0, 0))
  else if nS l = 0 ∨ 65 < nS l then (8, oSh (lWide l)) else if inB l.length (hdOf l).sh (nS l * sSize (lWide l)) then (0, 0) else (5, oSh (lWide l))
def pgE : Nat × Nat :=
  if (hdOf l).pn = 65535 ∧ (hdOf l).sh = 0 then (4, oPn (lWide l)) else if 16 < nP l then (8, oPn (lWide l)) else if inB l.length (hdOf l).ph (nP l * pSize (lWide l)) then (0, 0) else (5, oPh (lWide l))
def cntE : Nat × Nat :=
  if (hdOf l).sh ≠ 0 ∧ ¬ (hdOf l).sh + sSize (lWide l) ≤ l.length then (5, oSh (lWide l))
  else if (scE l).1 ≠ 0 then scE l else if (pgE l).1 ≠ 0 then pgE l else if (hdOf l).st = 65535 ∧ (hdOf l).sh = 0 then (4, oSt (lWide l)) else (0, 0)
/-- Program header i; section header i. -/
def pAt (i : Nat) : Nat := (hdOf l).ph + i * pSize (lWide l)
def sAt (i : Nat) : Nat := (hdOf l).sh + i * sSize (lWide l)
def pgs (i : Nat) : Pg := pgOf l (pAt l i) (lWide l) (lBig l)
def scs (i : Nat) : Sc := scOf l (sAt l i) (lWide l) (lBig l)
/-- How many bytes a section has in the file. -/
def Sc.held (s : Sc) : Nat := if s.ty = 0 ∨ s.ty = 8 then 0 else s.sz
/-- What is amiss with one: the place, and one more; 0: nothing. -/
def pBad (i : Nat) : Nat := if inB l.length (pgs l i).off (pgs l i).fs then 0 else pAt l i + 1
def sBad (i : Nat) : Nat := if inB l.length (scs l (i + 1)).off (scs l (i + 1)).held then 0 else sAt l (i + 1) + 1
def tabE : Nat × Nat :=
  if fstC (pBad l) (List.range (nP l)) ≠ 0 then (5, fstC (pBad l) (List.range (nP l)) - 1) else if fstC (sBad l) (List.range (nS l - 1)) ≠ 0 then (5, fstC (sBad l) (List.range (nS l - 1)) - 1) else (0, 0)
/-- A segment that is loaded has n bytes from off on. -/
def pHas (off n i : Nat) : Bool := decide ((pgs l i).ty = 1) && (decide ((pgs l i).off ≤ off) && decide (off - (pgs l i).off + n ≤ (pgs l i).fs))
def ownPl (off n : Nat) : Pl := if n = 0 then ⟨-1, 0, 0, []⟩ else ⟨-1, 0, n, (l.drop off).take n⟩
/-- The first of the segments from i to N. -/
def fstP (off n : Nat) : Nat → Nat → Option Nat
  | i, 0 => none
  | i, k + 1 => if pHas l off n i then some i else fstP off n (i + 1) k
def findPl (off n : Nat) : Pl := if n = 0 then ownPl l off n else match fstP l off n 0 (nP l) with | some i => ⟨(i : Int), off - (pgs l i).off, n, []⟩ | none => ownPl l off n
def segF (i : Nat) : Sg := ⟨(pgs l i).ty, (pgs l i).fl, (pgs l i).va, (pgs l i).pa, (pgs l i).ms, (pgs l i).al, if (pgs l i).ty = 1 then ownPl l (pgs l i).off (pgs l i).fs else findPl l (pgs l i).off (pgs l i).fs⟩
/-- Of section header i + 1. -/
def secF (i : Nat) : Se := ⟨(scs l (i + 1)).na, (scs l (i + 1)).ty, (scs l (i + 1)).fl, (scs l (i + 1)).ad, (scs l (i + 1)).sz, (scs l (i + 1)).li, (scs l (i + 1)).inf, (scs l (i + 1)).al, (scs l (i + 1)).en,
  if (scs l (i + 1)).ty = 0 ∨ (scs l (i + 1)).ty = 8 then ownPl l 0 0 else if i + 1 = nI l then ownPl l (scs l (i + 1)).off (scs l (i + 1)).sz else findPl l (scs l (i + 1)).off (scs l (i + 1)).sz⟩
/-- The model, also one that may not be. -/
def mdF : Md := ⟨lWide l, lBig l, (l.getD 7 0).toNat, (l.getD 8 0).toNat, (hdOf l).ty, (hdOf l).ma, (hdOf l).fl, (hdOf l).en, (List.range (nP l)).map (segF l), (List.range (nS l - 1)).map (secF l), (nI l : Int)⟩
/-- No model. -/
def mdN : Md := ⟨false, false, 0, 0, 0, 0, 0, 0, [], [], 0⟩
/-- What is amiss behind the header. -/
def restE : Nat × Nat := if (cntE l).1 ≠ 0 then cntE l else if (tabE l).1 ≠ 0 then tabE l else if (mdF l).planC ≠ 0 then ((mdF l).planC, 0) else (0, 0)
/-- What is told of a file: a code (0: none), a place, a model. -/
def PTold (c p : Nat) (m : Md) : Prop :=
  (65536 < l.length ∧ c = 8 ∧ p = 65536 ∧ m = mdN) ∨ (l.length ≤ 65536 ∧ c ≠ 0 ∧ HTold l c p hd0.V ∧ m = mdN) ∨ (l.length ≤ 65536 ∧ HTold l 0 0 (hdOf l).V ∧ restE l = (c, p) ∧ m = if c = 0 then mdF l else mdN)
end

section
variable {l : List UInt8}
theorem HTold.zero {c p : Nat} {v : Value} (h : HTold l c p v) (hc : c = 0) : p = 0 ∧ v = (hdOf l).V := by
  subst hc
  rcases h with ⟨h, _⟩ | ⟨_, h, e⟩
  · exact absurd rfl h
  · rw [if_pos rfl] at e
    rcases h with ⟨_, h, _⟩ | ⟨_, _, _, h⟩ | ⟨_, h, _⟩
    · omega
    · exact ⟨h, e⟩
    · omega
theorem HTold.not {c p : Nat} {v : Value} (h : HTold l c p v) (hc : c ≠ 0) : v = hd0.V := by
  rcases h with ⟨_, _, e⟩ | ⟨_, _, e⟩
  · exact e
  · rwa [if_neg hc] at e
theorem PTold.one {c p c' p' : Nat} {m m' : Md} (h : PTold l c p m) (h' : PTold l c' p' m') : c = c' ∧ p = p' ∧ m = m' := by
  rcases h with ⟨h1, rfl, rfl, rfl⟩ | ⟨h1, h2, h3, rfl⟩ | ⟨h1, h2, h3, rfl⟩ <;> rcases h' with ⟨g1, rfl, rfl, rfl⟩ | ⟨g1, g2, g3, rfl⟩ | ⟨g1, g2, g3, rfl⟩
  · exact ⟨rfl, rfl, rfl⟩
  · omega
  · omega
  · omega
  · obtain ⟨e1, e2, _⟩ := h3.one g3
    exact ⟨e1, e2, rfl⟩
  · exact absurd (h3.one g2).1 h2
  · omega
  · exact absurd (g3.one h2).1 g2
  · rw [h3] at g3
    injection g3 with e1 e2
    subst e1; subst e2
    exact ⟨rfl, rfl, rfl⟩
/-- The places are small. -/
theorem inB_le {len p n : Nat} (h : inB len p n = true) (hn : n ≠ 0) : p + n ≤ len := by
  unfold inB at h
  simp at h
  rcases h with h | h
  · exact absurd h hn
  · exact h
theorem cnt_ok (h : (cntE l).1 = 0) : (scE l).1 = 0 ∧ (pgE l).1 = 0 ∧ ¬ ((hdOf l).sh ≠ 0 ∧ ¬ (hdOf l).sh + sSize (lWide l) ≤ l.length) ∧ ¬ ((hdOf l).st = 65535 ∧ (hdOf l).sh = 0) := by
  unfold cntE at h
  split at h
  · simp at h
  split at h
  · exact absurd h (by assumption)
  split at h
  · exact absurd h (by assumption)
  split at h
  · simp at h
  · rename_i h1 h2 h3 h4
    exact ⟨by omega, by omega, h1, h4⟩
theorem sc_ok (h : (scE l).1 = 0) : ((hdOf l).sh = 0 ∧ nS l = 0) ∨ ((hdOf l).sh ≠ 0 ∧ 0 < nS l ∧ nS l ≤ 65 ∧ (hdOf l).sh + nS l * sSize (lWide l) ≤ l.length) := by
  unfold scE at h
  split at h
  · rename_i h1
    split at h
    · simp at h
    · exact .inl ⟨h1, by omega⟩
  · rename_i h1
    split at h
    · simp at h
    · rename_i h2
      split at h
      · rename_i h3
        refine .inr ⟨h1, by omega, by omega, inB_le h3 ?_⟩
        have : 0 < sSize (lWide l) := by cases lWide l <;> decide
        exact Nat.ne_of_gt (Nat.mul_pos (by omega) this)
      · simp at h
theorem pg_ok (h : (pgE l).1 = 0) : nP l ≤ 16 ∧ (nP l = 0 ∨ (hdOf l).ph + nP l * pSize (lWide l) ≤ l.length) := by
  unfold pgE at h
  split at h
  · simp at h
  split at h
  · simp at h
  · rename_i h1 h2
    split at h
    · rename_i h3
      refine ⟨by omega, ?_⟩
      rcases Nat.eq_zero_or_pos (nP l) with h0 | h0
      · exact .inl h0
      · refine .inr (inB_le h3 ?_)
        have : 0 < pSize (lWide l) := by cases lWide l <;> decide
        exact Nat.ne_of_gt (Nat.mul_pos h0 this)
    · simp at h
theorem mulS {k n z : Nat} (h : k < n) : k * z + z ≤ n * z := by
  have := Nat.mul_le_mul_right z (show k + 1 ≤ n from h)
  rw [Nat.succ_mul] at this
  exact this
/-- Each header is in the file. -/
theorem pAt_in (h : (cntE l).1 = 0) {i : Nat} (hi : i < nP l) : pAt l i + pSize (lWide l) ≤ l.length := by
  have := (pg_ok (cnt_ok h).2.1).2
  have := mulS (z := pSize (lWide l)) hi
  unfold pAt
  omega
theorem sAt_in (h : (cntE l).1 = 0) {i : Nat} (hi : i < nS l) : sAt l i + sSize (lWide l) ≤ l.length := by
  have := sc_ok (cnt_ok h).1
  have := mulS (z := sSize (lWide l)) hi
  unfold sAt
  omega
end
end Go.Proofs.YtlccbekalccahaaGreatDoor

namespace Go.Proofs.YtlccbekalccahaaGreatDoor
open Go.RowKit

theorem rowF_zip (l : List UInt8) (big : Bool) : ∀ (ns : List Nat) (p : Nat), rowF ((nums l big p ns).zip ns) = true
  | [], _ => rfl
  | n :: r, p => by
    simp only [nums, List.zip_cons_cons, rowF, rowF_zip l big r (p + n), Bool.and_true, decide_eq_true_eq]
    exact Nat.lt_of_lt_of_le (getB_lt _ big) (Nat.pow_le_pow_right (by decide) (by simp; omega))

theorem pgOf_fits (l : List UInt8) (p : Nat) (wide big : Bool) : rowF ((pgOf l p wide big).Q wide) = true := by
  rw [pgOf_Q, pX]; exact rowF_zip l big _ _
theorem pgOf_L (l : List UInt8) (p : Nat) (wide big : Bool) (h : p + pSize wide ≤ l.length) : (pgOf l p wide big).L wide big = (l.drop p).take (pSize wide) := by
  rw [Pg.L, pgOf_Q, pX, rowB_nums l big _ _ (by rw [sum_pRow]; exact h), sum_pRow]
theorem Pg.sndQ (p : Pg) (wide : Bool) : (p.Q wide).map (·.2) = pRow wide := by
  rw [Pg.Q, pRow, List.map_map]; rfl
theorem pX_put (p : Pg) (wide big : Bool) (hf : rowF (p.Q wide) = true) (pre post : List UInt8) : pX (pre ++ p.L wide big ++ post) pre.length wide big = (pOrd wide).map fun i => p.N.getD i 0 := by
  have := nums_rowB big post (p.Q wide) pre hf
  rw [p.sndQ] at this
  rw [pX, Pg.L, this, Pg.Q, List.map_map]
  rfl
theorem pgOf_put (p : Pg) (wide big : Bool) (hf : rowF (p.Q wide) = true) (pre post : List UInt8) : pgOf (pre ++ p.L wide big ++ post) pre.length wide big = p := by
  have e := pX_put p wide big hf pre post
  unfold pgOf
  rw [e]
  obtain ⟨ty, fl, off, va, pa, fs, ms, al⟩ := p
  cases wide <;> rfl
theorem wide_fitsP (p : Pg) (ok : p.Ok) : rowF (p.Q true) = true := by
  obtain ⟨ty, fl, off, va, pa, fs, ms, al⟩ := p
  obtain ⟨k1, k2, k3, k4, k5, k6, k7, k8⟩ := ok
  simp only [] at *
  have e : (Pg.Q ⟨ty, fl, off, va, pa, fs, ms, al⟩ true) = [(ty, 4), (fl, 4), (off, 8), (va, 8), (pa, 8), (fs, 8), (ms, 8), (al, 8)] := rfl
  rw [e]
  simp only [rowF, Bool.and_eq_true, decide_eq_true_eq, and_true]
  omega
end Go.Proofs.YtlccbekalccahaaGreatDoor

namespace Go.Proofs.YtlccbekalccahaaGreatDoor
open Go.RowKit

theorem rowF_zipS (l : List UInt8) (big : Bool) : ∀ (ns : List Nat) (p : Nat), rowF ((nums l big p ns).zip ns) = true
  | [], _ => rfl
  | n :: r, p => by
    simp only [nums, List.zip_cons_cons, rowF, rowF_zipS l big r (p + n), Bool.and_true, decide_eq_true_eq]
    exact Nat.lt_of_lt_of_le (getB_lt _ big) (Nat.pow_le_pow_right (by decide) (by simp; omega))

theorem scOf_fits (l : List UInt8) (p : Nat) (wide big : Bool) : rowF ((scOf l p wide big).Q wide) = true := by
  rw [scOf_Q, sX]; exact rowF_zipS l big _ _
theorem scOf_L (l : List UInt8) (p : Nat) (wide big : Bool) (h : p + sSize wide ≤ l.length) : (scOf l p wide big).L wide big = (l.drop p).take (sSize wide) := by
  rw [Sc.L, scOf_Q, sX, rowB_nums l big _ _ (by rw [sum_sRow]; exact h), sum_sRow]
theorem sX_put (p : Sc) (wide big : Bool) (hf : rowF (p.Q wide) = true) (pre post : List UInt8) : sX (pre ++ p.L wide big ++ post) pre.length wide big = p.N := by
  have := nums_rowB big post (p.Q wide) pre hf
  rw [p.sndQ, p.fstQ] at this
  exact this
theorem scOf_put (p : Sc) (wide big : Bool) (hf : rowF (p.Q wide) = true) (pre post : List UInt8) : scOf (pre ++ p.L wide big ++ post) pre.length wide big = p := by
  have e := sX_put p wide big hf pre post
  unfold scOf
  rw [e]
  rfl
theorem wide_fitsS (p : Sc) (ok : p.Ok) : rowF (p.Q true) = true := by
  obtain ⟨na, ty, fl, ad, off, sz, li, inf, al, en⟩ := p
  obtain ⟨k1, k2, k3, k4, k5, k6, k7, k8, k9, k10⟩ := ok
  simp only [] at *
  have e : (Sc.Q ⟨na, ty, fl, ad, off, sz, li, inf, al, en⟩ true) = [(na, 4), (ty, 4), (fl, 8), (ad, 8), (off, 8), (sz, 8), (li, 4), (inf, 4), (al, 8), (en, 8)] := rfl
  rw [e]
  simp only [rowF, Bool.and_eq_true, decide_eq_true_eq, and_true]
  omega
end Go.Proofs.YtlccbekalccahaaGreatDoor

namespace Go.Proofs.YtlccbekalccahaaGreatDoor
open Go.RowKit
set_option linter.unusedVariables false

theorem split_at {l x : List UInt8} {p : Nat} (h : (l.drop p).take x.length = x) (hl : p + x.length ≤ l.length) : l = l.take p ++ x ++ l.drop (p + x.length) ∧ (l.take p).length = p := by
  refine ⟨?_, by rw [List.length_take]; omega⟩
  conv => lhs; rw [← List.take_append_drop p l, ← List.take_append_drop x.length (l.drop p)]
  rw [h, List.drop_drop, List.append_assoc]
theorem read_more {L r x : List UInt8} {p : Nat} (h : (L.drop p).take x.length = x) (hl : p + x.length ≤ L.length) : ((L ++ r).drop p).take x.length = x := by
  rw [List.drop_append_of_le_length (by omega), List.take_append_of_le_length (by rw [List.length_drop]; omega), h]

/-- The bytes of a model that may be written, and whatever behind. -/
structure Wrote (m : Md) (l : List UInt8) : Prop where
  good : Good m
  len : m.eT ≤ l.length
  max : l.length ≤ 65536
  read : ∀ p x, Stg m m.segs.length m.segs.length m.secs.length m.secs.length p x → p + x.length ≤ m.eT → (l.drop p).take x.length = x
theorem wrote_of {m : Md} (h : Good m) {L r : List UInt8} (hf : FileIs m L) (hl : (L ++ r).length ≤ 65536) : Wrote m (L ++ r) :=
  ⟨h, by rw [List.length_append, hf.2]; omega, hl, fun p x hs hx => read_more (hf.1.read hs) (by rw [hf.2]; exact hx)⟩
section
variable {m : Md} {l : List UInt8}
theorem Wrote.head (w : Wrote m l) : ∃ r, l = m.hd.L ++ r := by
  have ho := w.good.planned.order
  have hh : m.hd.L.length = hSize m.wide := m.hd.lenL
  have h1 := w.read 0 m.hd.L (Stg.head m _ _ _ _) (by omega)
  have h2 := (split_at h1 (by have := w.len; omega)).1
  rw [List.take_zero, List.nil_append] at h2
  exact ⟨_, h2⟩
theorem Wrote.hdOf (w : Wrote m l) : hdOf l = m.hd := by
  obtain ⟨r, e⟩ := w.head
  rw [e]
  exact hdOf_put _ w.good.hdFits r
theorem Wrote.told (w : Wrote m l) : HTold l 0 0 (Go.Proofs.YtlccbekalccahaaGreatDoor.hdOf l).V := by
  rw [w.hdOf]
  obtain ⟨r, e⟩ := w.head
  rw [e]
  exact put_told _ w.good.hdFits r
theorem Wrote.wide (w : Wrote m l) : lWide l = m.wide := by
  have := congrArg Hd.wide w.hdOf
  exact this
theorem Wrote.big (w : Wrote m l) : lBig l = m.big := by
  have := congrArg Hd.big w.hdOf
  exact this
theorem Wrote.nP (w : Wrote m l) : nP l = m.segs.length := by
  have h1 := w.good.n1
  unfold Go.Proofs.YtlccbekalccahaaGreatDoor.nP
  rw [w.hdOf, if_neg (by show ¬ m.segs.length = 65535; omega)]
  rfl
theorem Wrote.nI (w : Wrote m l) : nI l = m.str.toNat := by
  have h1 := w.good.str
  have h2 := w.good.n2
  unfold Go.Proofs.YtlccbekalccahaaGreatDoor.nI
  rw [w.hdOf, if_neg (by show ¬ m.str.toNat = 65535; omega)]
  rfl
theorem shoff_pos (h : Good m) (h0 : 0 < m.secs.length) : 0 < m.shoff := by
  have a := shoff_is h h0
  have b := h.planned.order
  have c : 52 ≤ hSize m.wide := by cases m.wide <;> decide
  omega
theorem shoff_zero (h0 : m.secs.length = 0) : m.shoff = 0 := by
  unfold Md.shoff
  rw [if_neg (by omega)]
theorem Wrote.nS (w : Wrote m l) : nS l = if 0 < m.secs.length then m.secs.length + 1 else 0 := by
  unfold Go.Proofs.YtlccbekalccahaaGreatDoor.nS
  rw [w.hdOf]
  show (if (if 0 < m.secs.length then m.secs.length + 1 else 0) = 0 then (fst_ l).sz else (if 0 < m.secs.length then m.secs.length + 1 else 0)) = _
  by_cases h0 : 0 < m.secs.length
  · rw [if_pos h0, if_neg (by omega)]
  · rw [if_neg h0, if_pos rfl]
    unfold fst_
    rw [w.hdOf, if_pos (show m.hd.sh = 0 from shoff_zero (by omega))]
    rfl
theorem Wrote.nS1 (w : Wrote m l) : Go.Proofs.YtlccbekalccahaaGreatDoor.nS l - 1 = m.secs.length := by
  rw [w.nS]
  split <;> omega
theorem Wrote.pAt (w : Wrote m l) (i : Nat) : pAt l i = m.phoff + i * pSize m.wide := by
  unfold Go.Proofs.YtlccbekalccahaaGreatDoor.pAt
  rw [w.hdOf, w.wide]
  rfl
theorem Wrote.sAt (w : Wrote m l) (i : Nat) : sAt l i = m.shoff + i * sSize m.wide := by
  unfold Go.Proofs.YtlccbekalccahaaGreatDoor.sAt
  rw [w.hdOf, w.wide]
  rfl
theorem Wrote.pgs (w : Wrote m l) {i : Nat} (hi : i < m.segs.length) (hf : rowF ((m.pg i).Q m.wide) = true) : pgs l i = m.pg i := by
  have hz := w.good.z1 hi
  have ho := w.good.planned.order
  have h1 := w.read (m.phoff + i * pSize m.wide) ((m.pg i).L m.wide m.big) (.inr (.inl ⟨i, hi, rfl, rfl⟩)) (by omega)
  obtain ⟨h2, h3⟩ := split_at h1 (by have := w.len; omega)
  unfold Go.Proofs.YtlccbekalccahaaGreatDoor.pgs
  rw [w.pAt, w.wide, w.big]
  have := pgOf_put (m.pg i) m.wide m.big hf (l.take (m.phoff + i * pSize m.wide)) (l.drop (m.phoff + i * pSize m.wide + ((m.pg i).L m.wide m.big).length))
  rw [← h2, h3] at this
  exact this
theorem Wrote.scs (w : Wrote m l) {i : Nat} (hi : i < m.secs.length) (hf : rowF ((m.sc i).Q m.wide) = true) : scs l (i + 1) = m.sc i := by
  have hz := w.good.z4 hi
  have h1 := w.read (m.shoff + (i + 1) * sSize m.wide) ((m.sc i).L m.wide m.big) (.inr (.inr (.inr (.inr ⟨i, hi, rfl, rfl⟩)))) (by omega)
  obtain ⟨h2, h3⟩ := split_at h1 (by have := w.len; omega)
  unfold Go.Proofs.YtlccbekalccahaaGreatDoor.scs
  rw [w.sAt, w.wide, w.big]
  have := scOf_put (m.sc i) m.wide m.big hf (l.take (m.shoff + (i + 1) * sSize m.wide)) (l.drop (m.shoff + (i + 1) * sSize m.wide + ((m.sc i).L m.wide m.big).length))
  rw [← h2, h3] at this
  exact this
theorem in_yes {len p n : Nat} (h : p + n ≤ len) : inB len p n = true := by unfold inB; simp [h]
theorem Wrote.cnt (w : Wrote m l) : cntE l = (0, 0) := by
  have g := w.good
  have ho := g.planned.order
  have hl := w.len
  have h1 := g.n1
  have h2 := g.n2
  have h3 := g.str
  have hs : scE l = (0, 0) := by
    unfold scE
    rw [w.hdOf, w.nS, w.wide]
    by_cases h0 : 0 < m.secs.length
    · have a := shoff_is g h0
      have b := shoff_pos g h0
      rw [if_pos h0, if_neg (show ¬ m.hd.sh = 0 by show ¬ m.shoff = 0; omega), if_neg (by omega), if_pos]
      exact in_yes (by rw [Nat.mul_comm]; show m.shoff + _ ≤ _; omega)
    · rw [if_neg h0, if_pos (show m.hd.sh = 0 from shoff_zero (by omega)), if_neg (by omega)]
  have hp : pgE l = (0, 0) := by
    unfold pgE
    rw [w.hdOf, w.nP, w.wide, if_neg (by rintro ⟨a, _⟩; have : m.segs.length = 65535 := a; omega), if_neg (by omega), if_pos]
    by_cases h0 : 0 < m.segs.length
    · have a := phoff_is g h0
      exact in_yes (by rw [Nat.mul_comm]; show m.phoff + _ ≤ _; omega)
    · unfold inB
      rw [show m.segs.length = 0 by omega]
      simp
  unfold cntE
  rw [hs, hp, w.hdOf, w.wide, if_neg, if_neg (by simp), if_neg (by simp), if_neg]
  · rintro ⟨a, _⟩
    have : m.str.toNat = 65535 := a
    omega
  · rintro ⟨a, b⟩
    have a' : m.shoff ≠ 0 := a
    have h0 : 0 < m.secs.length := by
      rcases Nat.eq_zero_or_pos m.secs.length with h | h
      · exact absurd (shoff_zero h) a'
      · exact h
    have c := shoff_is g h0
    have d : sSize m.wide ≤ sSize m.wide * (m.secs.length + 1) := Nat.le_mul_of_pos_right _ (by omega)
    apply b
    show m.shoff + _ ≤ _
    omega
/-- The own bytes of a segment, of a section. -/
theorem Wrote.ownS (w : Wrote m l) {i : Nat} (hi : i < m.segs.length) (hn : (m.sg i).pl.inn = -1) : ownPl l (m.P2 i) (m.sg i).pl.size = (m.sg i).pl := by
  obtain ⟨h1, h2⟩ := may_own_len (w.good.segMay hi) hn
  have a := w.good.seg_at hi
  have h3 := w.read (m.P2 i) (m.sg i).pl.own (.inr (.inr (.inl ⟨i, hi, rfl, rfl⟩))) (by omega)
  unfold ownPl
  generalize (m.sg i).pl = p at *
  obtain ⟨inn, off, size, own⟩ := p
  simp only [] at *
  subst hn; subst h1
  split
  · rename_i h0
    subst h0
    rw [List.eq_nil_of_length_eq_zero h2]
  · rw [← h2, h3]
theorem Wrote.ownT (w : Wrote m l) {i : Nat} (hi : i < m.secs.length) (hn : (m.se i).pl.inn = -1) : ownPl l (m.P3 i) (m.se i).pl.size = (m.se i).pl := by
  obtain ⟨h1, h2⟩ := may_own_len (w.good.secMay hi).1 hn
  have a := w.good.sec_at hi
  have h3 := w.read (m.P3 i) (m.se i).pl.own (.inr (.inr (.inr (.inl ⟨i, hi, rfl, rfl⟩)))) (by omega)
  unfold ownPl
  generalize (m.se i).pl = p at *
  obtain ⟨inn, off, size, own⟩ := p
  simp only [] at *
  subst hn; subst h1
  split
  · rename_i h0
    subst h0
    rw [List.eq_nil_of_length_eq_zero h2]
  · rw [← h2, h3]
theorem fstP_none {off n : Nat} : ∀ {i k : Nat}, (∀ j, i ≤ j → j < i + k → pHas l off n j = false) → fstP l off n i k = none
  | i, 0, _ => rfl
  | i, k + 1, h => by
    rw [fstP, if_neg (by rw [h i (Nat.le_refl _) (by omega)]; simp)]
    exact fstP_none fun j h1 h2 => h j (by omega) (by omega)
theorem fstP_some {off n : Nat} : ∀ {i k q : Nat}, i ≤ q → q < i + k → (∀ j, i ≤ j → j < q → pHas l off n j = false) → pHas l off n q = true → fstP l off n i k = some q
  | i, 0, q, h1, h2, _, _ => by omega
  | i, k + 1, q, h1, h2, h3, h4 => by
    rw [fstP]
    by_cases e : i = q
    · subst e
      rw [if_pos h4]
    · rw [if_neg (by rw [h3 i (Nat.le_refl _) (by omega)]; simp)]
      exact fstP_some (by omega) (by omega) (fun j a b => h3 j (by omega) b) h4
theorem Wrote.has (w : Wrote m l) (fits : ∀ i, i < m.segs.length → rowF ((m.pg i).Q m.wide) = true) {j : Nat} (hj : j < m.segs.length) (off n : Nat) : pHas l off n j = (decide ((m.sg j).typ = 1) && (decide (m.P2 j ≤ off) && decide (off - m.P2 j + n ≤ (m.sg j).pl.size))) := by
  unfold pHas
  rw [w.pgs hj (fits j hj)]
  rfl
/-- Nothing beyond the segments that are loaded is in one. -/
theorem Wrote.beyond (w : Wrote m l) (fits : ∀ i, i < m.segs.length → rowF ((m.pg i).Q m.wide) = true) {off n : Nat} (h0 : 0 < n) (ho : m.eL m.segs.length ≤ off) : fstP l off n 0 (Go.Proofs.YtlccbekalccahaaGreatDoor.nP l) = none := by
  rw [w.nP]
  refine fstP_none fun j _ hj => ?_
  have hj : j < m.segs.length := by omega
  rw [w.has fits hj]
  by_cases ht : (m.sg j).typ = 1
  · have a := w.good.planned.load_at hj ht
    have b := w.good.planned.eL_in (k := j + 1) hj
    have : decide (off - m.P2 j + n ≤ (m.sg j).pl.size) = false := decide_eq_false (by omega)
    rw [this, Bool.and_false, Bool.and_false]
  · rw [decide_eq_false ht, Bool.false_and]
/-- What stands in a segment that is loaded stands in that one alone. -/
theorem Wrote.within (w : Wrote m l) (fits : ∀ i, i < m.segs.length → rowF ((m.pg i).Q m.wide) = true) {k off n : Nat} (hk : k < m.segs.length) (ht : (m.sg k).typ = 1) (h0 : 0 < n) (hn : off + n ≤ (m.sg k).pl.size) : fstP l (m.P2 k + off) n 0 (Go.Proofs.YtlccbekalccahaaGreatDoor.nP l) = some k := by
  rw [w.nP]
  have a := w.good.planned.load_at hk ht
  refine fstP_some (Nat.zero_le _) (by omega) (fun j _ hj => ?_) ?_
  · have hj' : j < m.segs.length := by omega
    rw [w.has fits hj']
    by_cases hjt : (m.sg j).typ = 1
    · have b := w.good.planned.load_at hj' hjt
      have c : m.eL (j + 1) ≤ m.eL k := mono_of (m.eL_step w.good.planned.ok.n1) (by omega)
      have : decide (m.P2 k + off - m.P2 j + n ≤ (m.sg j).pl.size) = false := decide_eq_false (by omega)
      rw [this, Bool.and_false, Bool.and_false]
    · rw [decide_eq_false hjt, Bool.false_and]
  · rw [w.has fits hk, decide_eq_true ht, decide_eq_true (by omega), decide_eq_true (by omega)]
    rfl
theorem Wrote.findS (w : Wrote m l) (fits : ∀ i, i < m.segs.length → rowF ((m.pg i).Q m.wide) = true) {i : Nat} (hi : i < m.segs.length) (ht : (m.sg i).typ ≠ 1) : findPl l (m.P2 i) (m.sg i).pl.size = (m.sg i).pl := by
  by_cases hn : (m.sg i).pl.inn = -1
  · unfold findPl
    split
    · exact w.ownS hi hn
    · rename_i h0
      have a := w.good.planned.other_at hi ht hn
      have c : m.eO 0 ≤ m.eO i := mono_of (m.eO_step w.good.planned.ok.n1) (by omega)
      have d : m.eO 0 = m.eL m.segs.length := rfl
      rw [w.beyond fits (by omega) (by omega)]
      exact w.ownS hi hn
  · obtain ⟨q1, q2, k, q3, q4, q5, q6⟩ := may_in_is (w.good.segMay hi) hn
    obtain ⟨_, k', r1, r2, r3, r4⟩ := w.good.planned.seg_in hi hn
    have e : k = k' := by omega
    subst e
    have c := (w.good.load_len q4 q5).2
    unfold findPl
    rw [if_neg (by omega), r3, w.within fits q4 q5 q2 (by omega)]
    show (⟨(k : Int), m.P2 k + (m.sg i).pl.off - (Go.Proofs.YtlccbekalccahaaGreatDoor.pgs l k).off, _, []⟩ : Pl) = _
    rw [w.pgs q4 (fits k q4)]
    show (⟨(k : Int), m.P2 k + (m.sg i).pl.off - m.P2 k, _, []⟩ : Pl) = _
    rw [Nat.add_sub_cancel_left, ← q3, ← q1]
theorem Wrote.findT (w : Wrote m l) (fits : ∀ i, i < m.segs.length → rowF ((m.pg i).Q m.wide) = true) {i : Nat} (hi : i < m.secs.length) : findPl l (m.P3 i) (m.se i).pl.size = (m.se i).pl := by
  by_cases hn : (m.se i).pl.inn = -1
  · unfold findPl
    split
    · exact w.ownT hi hn
    · rename_i h0
      have ho := w.good.planned.order
      have a := w.good.planned.sec_at hi hn
      have c : m.eS 0 ≤ m.eS i := mono_of (m.eS_step w.good.planned.ok.n1) (by omega)
      rw [w.beyond fits (by omega) (by omega)]
      exact w.ownT hi hn
  · obtain ⟨q1, q2, k, q3, q4, q5, q6⟩ := may_in_is (w.good.secMay hi).1 hn
    obtain ⟨k', r1, r2, r3, r4⟩ := w.good.planned.sec_in hi hn
    have e : k = k' := by omega
    subst e
    have c := (w.good.load_len q4 q5).2
    unfold findPl
    rw [if_neg (by omega), r3, w.within fits q4 q5 q2 (by omega)]
    show (⟨(k : Int), m.P2 k + (m.se i).pl.off - (Go.Proofs.YtlccbekalccahaaGreatDoor.pgs l k).off, _, []⟩ : Pl) = _
    rw [w.pgs q4 (fits k q4)]
    show (⟨(k : Int), m.P2 k + (m.se i).pl.off - m.P2 k, _, []⟩ : Pl) = _
    rw [Nat.add_sub_cancel_left, ← q3, ← q1]
/-- The section with the names. -/
theorem Good.tab (h : Good m) (h0 : m.str ≠ 0) : (m.se (m.str.toNat - 1)).typ = 3 ∧ (m.se (m.str.toNat - 1)).pl.inn = -1 := by
  have hs := h.str
  have hc := h.chk
  unfold Md.chk at hc
  split at hc
  · omega
  split at hc
  · omega
  split at hc
  · omega
  split at hc
  · omega
  · unfold Md.namesC at hc
    rw [if_neg (by omega), if_neg (by omega)] at hc
    split at hc
    · rename_i hn
      unfold Md.named at hn
      rw [if_neg h0] at hn
      simp only [Bool.and_eq_true, decide_eq_true_eq] at hn
      have e : m.tab = m.se (m.str.toNat - 1) := by
        unfold Md.tab Md.se
        rw [show (m.str - 1).toNat = m.str.toNat - 1 by omega]
      rw [← e]
      exact hn.1
    · omega
theorem Wrote.segF (w : Wrote m l) (fits : ∀ i, i < m.segs.length → rowF ((m.pg i).Q m.wide) = true) {i : Nat} (hi : i < m.segs.length) : segF l i = m.sg i := by
  unfold Go.Proofs.YtlccbekalccahaaGreatDoor.segF
  rw [w.pgs hi (fits i hi)]
  show (⟨(m.sg i).typ, (m.sg i).flags, (m.sg i).vaddr, (m.sg i).paddr, (m.sg i).memsz, (m.sg i).align, if (m.sg i).typ = 1 then ownPl l (m.P2 i) (m.sg i).pl.size else findPl l (m.P2 i) (m.sg i).pl.size⟩ : Sg) = _
  by_cases ht : (m.sg i).typ = 1
  · rw [if_pos ht, w.ownS hi (w.good.planned.load i hi ht)]
  · rw [if_neg ht, w.findS fits hi ht]
theorem Wrote.secF (w : Wrote m l) (fits : ∀ i, i < m.segs.length → rowF ((m.pg i).Q m.wide) = true) (fitc : ∀ i, i < m.secs.length → rowF ((m.sc i).Q m.wide) = true) {i : Nat} (hi : i < m.secs.length) : secF l i = m.se i := by
  unfold Go.Proofs.YtlccbekalccahaaGreatDoor.secF
  rw [w.scs hi (fitc i hi), w.nI]
  show (⟨(m.se i).name, (m.se i).typ, (m.se i).flags, (m.se i).addr, (m.se i).size, (m.se i).link, (m.se i).info, (m.se i).align, (m.se i).entsize, if (m.se i).typ = 0 ∨ (m.se i).typ = 8 then ownPl l 0 0 else if i + 1 = m.str.toNat then ownPl l (m.P3 i) (m.se i).size else findPl l (m.P3 i) (m.se i).size⟩ : Se) = _
  have hh := (w.good.secMay hi).2
  unfold Se.held at hh
  by_cases ht : (m.se i).typ = 0 ∨ (m.se i).typ = 8
  · rw [if_pos ht] at hh ⊢
    have hn : (m.se i).pl.inn = -1 := by
      by_cases hn : (m.se i).pl.inn = -1
      · exact hn
      · have := (may_in_is (w.good.secMay hi).1 hn).2.1
        omega
    obtain ⟨h1, h2⟩ := may_own_len (w.good.secMay hi).1 hn
    have : ownPl l 0 0 = (m.se i).pl := by
      unfold ownPl
      rw [if_pos rfl]
      generalize (m.se i).pl = p at *
      obtain ⟨inn, off, size, own⟩ := p
      simp only [] at *
      subst hn; subst h1; subst hh
      rw [List.eq_nil_of_length_eq_zero h2]
    rw [this]
  · rw [if_neg ht] at hh ⊢
    rw [← hh]
    by_cases hs : i + 1 = m.str.toNat
    · have ha := w.good.str
      have hb := w.good.tab (by omega)
      rw [show m.str.toNat - 1 = i by omega] at hb
      rw [if_pos hs, w.ownT hi hb.2, hh]
    · rw [if_neg hs, w.findT fits hi, hh]
theorem range_segs (f : Nat → Sg) (h : ∀ i, i < m.segs.length → f i = m.sg i) : (List.range m.segs.length).map f = m.segs := by
  apply List.ext_getElem
  · simp
  · intro i h1 h2
    rw [List.getElem_map, List.getElem_range, h i h2]
    unfold Md.sg
    rw [List.getD_eq_getElem?_getD, List.getElem?_eq_getElem h2]
    rfl
theorem range_secs (f : Nat → Se) (h : ∀ i, i < m.secs.length → f i = m.se i) : (List.range m.secs.length).map f = m.secs := by
  apply List.ext_getElem
  · simp
  · intro i h1 h2
    rw [List.getElem_map, List.getElem_range, h i h2]
    unfold Md.se
    rw [List.getD_eq_getElem?_getD, List.getElem?_eq_getElem h2]
    rfl
theorem Wrote.mdF (w : Wrote m l) (fits : ∀ i, i < m.segs.length → rowF ((m.pg i).Q m.wide) = true) (fitc : ∀ i, i < m.secs.length → rowF ((m.sc i).Q m.wide) = true) : mdF l = m := by
  have ho : l.getD 7 0 = UInt8.ofNat m.osabi := congrArg Hd.o w.hdOf
  have ha : l.getD 8 0 = UInt8.ofNat m.abi := congrArg Hd.a w.hdOf
  have hs := w.good.str
  unfold Go.Proofs.YtlccbekalccahaaGreatDoor.mdF
  rw [w.wide, w.big, ho, ha, u8_of _ w.good.ok.osabi, u8_of _ w.good.ok.abi, w.nP, w.nS1, w.nI, range_segs _ (fun i hi => w.segF fits hi), range_secs _ (fun i hi => w.secF fits fitc hi), w.hdOf]
  show (⟨m.wide, m.big, m.osabi, m.abi, m.typ, m.mach, m.flags, m.entry, m.segs, m.secs, ((m.str.toNat : Nat) : Int)⟩ : Md) = m
  rw [show ((m.str.toNat : Nat) : Int) = m.str by omega]
theorem Wrote.tab0 (w : Wrote m l) (fits : ∀ i, i < m.segs.length → rowF ((m.pg i).Q m.wide) = true) (fitc : ∀ i, i < m.secs.length → rowF ((m.sc i).Q m.wide) = true) : tabE l = (0, 0) := by
  have hl := w.len
  have h1 : fstC (pBad l) (List.range (Go.Proofs.YtlccbekalccahaaGreatDoor.nP l)) = 0 := fstC_zero.2 fun i hi => by
    rw [w.nP] at hi
    have hi := List.mem_range.1 hi
    have a := w.good.seg_at hi
    unfold pBad
    rw [w.pgs hi (fits i hi)]
    exact if_pos (in_yes (show m.P2 i + (m.sg i).pl.size ≤ _ by omega))
  have h2 : fstC (sBad l) (List.range (Go.Proofs.YtlccbekalccahaaGreatDoor.nS l - 1)) = 0 := fstC_zero.2 fun i hi => by
    rw [w.nS1] at hi
    have hi := List.mem_range.1 hi
    have a := w.good.sec_at hi
    have hh : (m.sc i).held = (m.se i).pl.size := (w.good.secMay hi).2.symm
    unfold sBad
    rw [w.scs hi (fitc i hi), hh]
    exact if_pos (in_yes (show m.P3 i + (m.se i).pl.size ≤ _ by omega))
  unfold tabE
  rw [h1, h2]
  rfl
/-- What was written is read. -/
theorem Wrote.back (w : Wrote m l) (fits : ∀ i, i < m.segs.length → rowF ((m.pg i).Q m.wide) = true) (fitc : ∀ i, i < m.secs.length → rowF ((m.sc i).Q m.wide) = true) : PTold l 0 0 m := by
  refine .inr (.inr ⟨w.max, w.told, ?_, by rw [if_pos rfl, w.mdF fits fitc]⟩)
  unfold restE
  rw [w.cnt, w.tab0 fits fitc, w.mdF fits fitc, w.good.plan]
  rfl
end
end Go.Proofs.YtlccbekalccahaaGreatDoor
