/-
  Several texts in one: A file's model, as plain data; Rows of the call's own, of several kinds; Images, as plain data; The contracts of image.
-/
import Derived.Test.YtfglppjilcaafaaGreatDoorTtH10
import Derived.Test.YtfglppjilcaafaaGreatDoorTtH12
import Derived.Test.YtfglppjilcaafaaGreatDoorTtH13
import Derived.Test.YtfglppjilcaafaaGreatDoorTtH4
import Derived.Test.YtfglppjilcaafaaGreatDoorTtH2
import Derived.Lib.Hide
import Derived.OwnWalk
namespace Go.Proofs.YtfglppjilcaafaaGreatDoor
open Go.Lib (hid)
open Go.RowKit
set_option linter.unusedVariables false
def oPh (wide : Bool) : Nat := byWide wide 28 32
def oSh (wide : Bool) : Nat := byWide wide 32 40
def oPn (wide : Bool) : Nat := byWide wide 44 56
def oSn (wide : Bool) : Nat := byWide wide 48 60
def oSt (wide : Bool) : Nat := byWide wide 50 62
def inB (len p n : Nat) : Bool := decide (n = 0) || decide (p + n ≤ len)
section
variable (l : List UInt8)
def fst_ : Sc := if (hdOf l).sh = 0 then sc0 else scOf l (hdOf l).sh (lWide l) (lBig l)
def nP : Nat := if (hdOf l).pn = 65535 then (fst_ l).inf else (hdOf l).pn
def nS : Nat := if (hdOf l).sn = 0 then (fst_ l).sz else (hdOf l).sn
def nI : Nat := if (hdOf l).st = 65535 then (fst_ l).li else (hdOf l).st
def scE : Nat × Nat :=
 if (hdOf l).sh = 0 then (if nS l ≠ 0 then (4, oSn (lWide l)) else (0, 0))
 else if nS l = 0 ∨ 65 < nS l then (8, oSh (lWide l)) else if inB l.length (hdOf l).sh (nS l * sSize (lWide l)) then (0, 0) else (5, oSh (lWide l))
def pgE : Nat × Nat :=
 if (hdOf l).pn = 65535 ∧ (hdOf l).sh = 0 then (4, oPn (lWide l)) else if 16 < nP l then (8, oPn (lWide l)) else if inB l.length (hdOf l).ph (nP l * pSize (lWide l)) then (0, 0) else (5, oPh (lWide l))
def cntE : Nat × Nat :=
 if (hdOf l).sh ≠ 0 ∧ ¬ (hdOf l).sh + sSize (lWide l) ≤ l.length then (5, oSh (lWide l))
 else if (scE l).1 ≠ 0 then scE l else if (pgE l).1 ≠ 0 then pgE l else if (hdOf l).st = 65535 ∧ (hdOf l).sh = 0 then (4, oSt (lWide l)) else (0, 0)
def pAt (i : Nat) : Nat := (hdOf l).ph + i * pSize (lWide l)
def sAt (i : Nat) : Nat := (hdOf l).sh + i * sSize (lWide l)
def pgs (i : Nat) : Pg := pgOf l (pAt l i) (lWide l) (lBig l)
def scs (i : Nat) : Sc := scOf l (sAt l i) (lWide l) (lBig l)
def Sc.held (s : Sc) : Nat := if s.ty = 0 ∨ s.ty = 8 then 0 else s.sz
def pBad (i : Nat) : Nat := if inB l.length (pgs l i).off (pgs l i).fs then 0 else pAt l i + 1
def sBad (i : Nat) : Nat := if inB l.length (scs l (i + 1)).off (scs l (i + 1)).held then 0 else sAt l (i + 1) + 1
def tabE : Nat × Nat :=
 if fstC (pBad l) (List.range (nP l)) ≠ 0 then (5, fstC (pBad l) (List.range (nP l)) - 1) else if fstC (sBad l) (List.range (nS l - 1)) ≠ 0 then (5, fstC (sBad l) (List.range (nS l - 1)) - 1) else (0, 0)
def pHas (off n i : Nat) : Bool := decide ((pgs l i).ty = 1) && (decide ((pgs l i).off ≤ off) && decide (off - (pgs l i).off + n ≤ (pgs l i).fs))
def ownPl (off n : Nat) : Pl := if n = 0 then ⟨-1, 0, 0, []⟩ else ⟨-1, 0, n, (l.drop off).take n⟩
def fstP (off n : Nat) : Nat → Nat → Option Nat
 | i, 0 => none
 | i, k + 1 => if pHas l off n i then some i else fstP off n (i + 1) k
def findPl (off n : Nat) : Pl := if n = 0 then ownPl l off n else match fstP l off n 0 (nP l) with | some i => ⟨(i : Int), off - (pgs l i).off, n, []⟩ | none => ownPl l off n
def segF (i : Nat) : Sg := ⟨(pgs l i).ty, (pgs l i).fl, (pgs l i).va, (pgs l i).pa, (pgs l i).ms, (pgs l i).al, if (pgs l i).ty = 1 then ownPl l (pgs l i).off (pgs l i).fs else findPl l (pgs l i).off (pgs l i).fs⟩
def secF (i : Nat) : Se := ⟨(scs l (i + 1)).na, (scs l (i + 1)).ty, (scs l (i + 1)).fl, (scs l (i + 1)).ad, (scs l (i + 1)).sz, (scs l (i + 1)).li, (scs l (i + 1)).inf, (scs l (i + 1)).al, (scs l (i + 1)).en,
 if (scs l (i + 1)).ty = 0 ∨ (scs l (i + 1)).ty = 8 then ownPl l 0 0 else if i + 1 = nI l then ownPl l (scs l (i + 1)).off (scs l (i + 1)).sz else findPl l (scs l (i + 1)).off (scs l (i + 1)).sz⟩
def mdF : Md := ⟨lWide l, lBig l, (l.getD 7 0).toNat, (l.getD 8 0).toNat, (hdOf l).ty, (hdOf l).ma, (hdOf l).fl, (hdOf l).en, (List.range (nP l)).map (segF l), (List.range (nS l - 1)).map (secF l), (nI l : Int)⟩
def mdN : Md := ⟨false, false, 0, 0, 0, 0, 0, 0, [], [], 0⟩
def restE : Nat × Nat := if (cntE l).1 ≠ 0 then cntE l else if (tabE l).1 ≠ 0 then tabE l else if (mdF l).planC ≠ 0 then ((mdF l).planC, 0) else (0, 0)
def PTold (c p : Nat) (m : Md) : Prop :=
 (65536 < l.length ∧ c = 8 ∧ p = 65536 ∧ m = mdN) ∨ (l.length ≤ 65536 ∧ c ≠ 0 ∧ HTold l c p hd0.V ∧ m = mdN) ∨ (l.length ≤ 65536 ∧ HTold l 0 0 (hdOf l).V ∧ restE l = (c, p) ∧ m = if c = 0 then mdF l else mdN)
end
section
variable {l : List UInt8}
theorem HTold.zero {c p : Nat} {v : Value} (h : HTold l c p v) (hc : c = 0) : p = 0 ∧ v = (hdOf l).V := by
 subst hc
 rcases h with ⟨h, _⟩ | ⟨_, h, e⟩
 ·exact absurd rfl h
 ·rw [if_pos rfl] at e
  rcases h with ⟨_, h, _⟩ | ⟨_, _, _, h⟩ | ⟨_, h, _⟩
  ·omega
  ·exact ⟨h, e⟩
  ·omega
theorem HTold.not {c p : Nat} {v : Value} (h : HTold l c p v) (hc : c ≠ 0) : v = hd0.V := by
 rcases h with ⟨_, _, e⟩ | ⟨_, _, e⟩
 ·exact e
 ·rwa [if_neg hc] at e
theorem PTold.one {c p c' p' : Nat} {m m' : Md} (h : PTold l c p m) (h' : PTold l c' p' m') : c = c' ∧ p = p' ∧ m = m' := by
 rcases h with ⟨h1, rfl, rfl, rfl⟩ | ⟨h1, h2, h3, rfl⟩ | ⟨h1, h2, h3, rfl⟩ <;> rcases h' with ⟨g1, rfl, rfl, rfl⟩ | ⟨g1, g2, g3, rfl⟩ | ⟨g1, g2, g3, rfl⟩
 ·exact ⟨rfl, rfl, rfl⟩
 ·omega
 ·omega
 ·omega
 ·obtain ⟨e1, e2, _⟩ := h3.one g3
  exact ⟨e1, e2, rfl⟩
 ·exact absurd (h3.one g2).1 h2
 ·omega
 ·exact absurd (g3.one h2).1 g2
 ·rw [h3] at g3
  injection g3 with e1 e2
  subst e1; subst e2
  exact ⟨rfl, rfl, rfl⟩
theorem inB_le {len p n : Nat} (h : inB len p n = true) (hn : n ≠ 0) : p + n ≤ len := by
 unfold inB at h
 simp at h
 rcases h with h | h
 ·exact absurd h hn
 ·exact h
theorem cnt_ok (h : (cntE l).1 = 0) : (scE l).1 = 0 ∧ (pgE l).1 = 0 ∧ ¬ ((hdOf l).sh ≠ 0 ∧ ¬ (hdOf l).sh + sSize (lWide l) ≤ l.length) ∧ ¬ ((hdOf l).st = 65535 ∧ (hdOf l).sh = 0) := by
 unfold cntE at h
 split at h
 ·simp at h
 split at h
 ·exact absurd h (by assumption)
 split at h
 ·exact absurd h (by assumption)
 split at h
 ·simp at h
 ·rename_i h1 h2 h3 h4
  exact ⟨by omega, by omega, h1, h4⟩
theorem sc_ok (h : (scE l).1 = 0) : ((hdOf l).sh = 0 ∧ nS l = 0) ∨ ((hdOf l).sh ≠ 0 ∧ 0 < nS l ∧ nS l ≤ 65 ∧ (hdOf l).sh + nS l * sSize (lWide l) ≤ l.length) := by
 unfold scE at h
 split at h
 ·rename_i h1
  split at h
  ·simp at h
  ·exact .inl ⟨h1, by omega⟩
 ·rename_i h1
  split at h
  ·simp at h
  ·rename_i h2
   split at h
   ·rename_i h3
    refine .inr ⟨h1, by omega, by omega, inB_le h3 ?_⟩
    have : 0 < sSize (lWide l) := by cases lWide l <;> decide
    exact Nat.ne_of_gt (Nat.mul_pos (by omega) this)
   ·simp at h
theorem pg_ok (h : (pgE l).1 = 0) : nP l ≤ 16 ∧ (nP l = 0 ∨ (hdOf l).ph + nP l * pSize (lWide l) ≤ l.length) := by
 unfold pgE at h
 split at h
 ·simp at h
 split at h
 ·simp at h
 ·rename_i h1 h2
  split at h
  ·rename_i h3
   refine ⟨by omega, ?_⟩
   rcases Nat.eq_zero_or_pos (nP l) with h0 | h0
   ·exact .inl h0
   ·refine .inr (inB_le h3 ?_)
    have : 0 < pSize (lWide l) := by cases lWide l <;> decide
    exact Nat.ne_of_gt (Nat.mul_pos h0 this)
  ·simp at h
theorem mulS {k n z : Nat} (h : k < n) : k * z + z ≤ n * z := by
 have := Nat.mul_le_mul_right z (show k + 1 ≤ n from h)
 rw [Nat.succ_mul] at this
 exact this
theorem pAt_in (h : (cntE l).1 = 0) {i : Nat} (hi : i < nP l) : pAt l i + pSize (lWide l) ≤ l.length := by
 have := (pg_ok (cnt_ok h).2.1).2
 have := mulS (z := pSize (lWide l)) hi
 unfold pAt
 omega
theorem sAt_in (h : (cntE l).1 = 0) {i : Nat} (hi : i < nS l) : sAt l i + sSize (lWide l) ≤ l.length := by
 have := sc_ok (cnt_ok h).1
 have := mulS (z := sSize (lWide l)) hi
 unfold sAt
 omega
end
set_option linter.unusedVariables false
theorem range_map {α : Type} (f : Nat → α) (k : Nat) : (List.range (k + 1)).map f = (List.range k).map f ++ [f k] := by rw [List.range_succ, List.map_append]; rfl
def pgR (l : List UInt8) (k : Nat) : List (Array Value) := (List.range k).map fun i => (pgs l i).C
def scR (l : List UInt8) (k : Nat) : List (Array Value) := (List.range k).map fun i => (scs l (i + 1)).C
theorem pgR_succ (l : List UInt8) (k : Nat) : pgR l (k + 1) = pgR l k ++ [(pgs l k).C] := by unfold pgR; rw [List.range_succ, List.map_append]; rfl
theorem scR_succ (l : List UInt8) (k : Nat) : scR l (k + 1) = scR l k ++ [(scs l (k + 1)).C] := by unfold scR; rw [List.range_succ, List.map_append]; rfl
theorem pgR_at (l : List UInt8) (P k : Nat) (h : k < P) (h' : k < (pgR l P).length) : (pgR l P)[k] = (pgs l k).C := by simp [pgR]
theorem OB.from_ {w : World} {base : Nat} {e : TypeId} {A : Option Addr} {n c : Nat} {l : List UInt8} (h : OB w base e A n c l) {g : Nat} (hg : own A = some g) : base ≤ g ∧ g < w.heap.size := by
 rcases h.2 with ⟨hv, _⟩ | ⟨g', cap, cur, hv, hb, hh, _⟩
 ·injection hv with e1 _ _
  subst e1
  cases hg
 ·injection hv with e1 _ _
  subst e1
  have e3 : g' = g := Option.some.inj hg
  subst e3
  refine ⟨hb, ?_⟩
  rcases Nat.lt_or_ge g' w.heap.size with h1 | h1
  ·exact h1
  ·rw [Array.getElem?_eq_none h1] at hh; cases hh
theorem OB.beside {w : World} {base : Nat} {e : TypeId} {A : Option Addr} {n c g : Nat} {l : List UInt8} (h : OB w base e A n c l) (hne : own A ≠ some g) (cs' : Array Value) : OB (w.setRow g cs') base e A n c l := by
 refine ⟨h.1, ?_⟩
 rcases h.2 with h0 | ⟨g', cap, cur, hv, hb, hh, r⟩
 ·exact .inl h0
 ·refine .inr ⟨g', cap, cur, hv, hb, ?_, r⟩
  have : g' ≠ g := fun he => hne (by injection hv with e1 _ _; subst e1; subst he; rfl)
  rw [setRow_other w g g' cs' (by exact this)]
  exact hh
section
variable {W W' : World} {base : Nat}
theorem ZO.kinds {b1 b2 : Nat} {e e' : TypeId} {z z' : Nat} {A A' : Option Addr} {n c n' c' : Nat} {R R' : List (Array Value)} (h : ZO W b1 e z A n c R) (h' : ZO W b2 e' z' A' n' c' R') (ht : e ≠ e') : own A = none ∨ own A ≠ own A' := by
 rcases h.1.2 with ⟨hv, _⟩ | ⟨g, cap, cur, hv, _, hh, _⟩
 ·injection hv with e1 _ _
  subst e1
  exact .inl rfl
 ·injection hv with e1 _ _
  subst e1
  refine .inr fun hA => ?_
  rcases h'.1.2 with ⟨hv', _⟩ | ⟨g', cap', cur', hv', _, hh', _⟩
  ·injection hv' with e1 _ _
   subst e1
   cases hA
  ·injection hv' with e1 _ _
   subst e1
   have e3 : g = g' := Option.some.inj hA
   subst e3
   rw [hh] at hh'
   injection hh' with hh'
   injection hh' with _ hh'
   exact ht hh'
theorem ZO.past {b1 : Nat} {e : TypeId} {z : Nat} {A : Option Addr} {n c : Nat} {R : List (Array Value)} {row : Option Nat} (h : ZO W b1 e z A n c R) (hg : W.grownBy W' row) (hne : own A = none ∨ own A ≠ row) : ZO W' b1 e z A n c R := ⟨World.ownsRow.kept h.1 hg (by rw [own_slice]; exact hne), h.2⟩
theorem ZO.notb {e : TypeId} {z : Nat} {A : Option Addr} {n c g : Nat} {l : List (Array Value)} (h : ZO W base e z A n c l) (hg : g < base) : own A ≠ some g := fun e => by have := h.ge e; omega
end
def RO {α : Type} (K : RK α) (w : World) (base : Nat) (r : Array Value) (a : α) : Prop := ∃ A n c, r = K.cs a (.slice A n c) ∧ OB w base 5 A n c (K.by_ a)
def GR {α : Type} (K : RK α) (w : World) (base : Nat) (e : TypeId) (A : Option Addr) (k c : Nat) (L : List α) : Prop :=
 ∃ R, ZO w base e K.z A k c R ∧ R.length = L.length ∧ ∀ j (h : j < R.length) (h' : j < L.length), RO K w base R[j] L[j]
theorem OB.kindNe {w : World} {base base' : Nat} {e e' : TypeId} {z : Nat} {A A' : Option Addr} {n c n' c' : Nat} {l : List UInt8} {R : List (Array Value)} (h : OB w base e A n c l) (h' : ZO w base' e' z A' n' c' R) (ht : e ≠ e') : own A = none ∨ own A ≠ own A' := by
 rcases h.2 with ⟨hv, _⟩ | ⟨g, cap, cur, hv, _, hh, _⟩
 ·injection hv with e1 _ _
  subst e1
  exact .inl rfl
 ·injection hv with e1 _ _
  subst e1
  refine .inr fun hA => ?_
  rcases h'.1.2 with ⟨hv', _⟩ | ⟨g', cap', cur', hv', _, hh', _⟩
  ·injection hv' with e1 _ _
   subst e1
   cases hA
  ·injection hv' with e1 _ _
   subst e1
   have e3 : g = g' := Option.some.inj hA
   subst e3
   rw [hh] at hh'
   injection hh' with hh'
   injection hh' with _ hh'
   exact ht hh'
theorem OB.passed {w w' : World} {base : Nat} {e : TypeId} {A : Option Addr} {n c : Nat} {l : List UInt8} {row : Option Nat} (h : OB w base e A n c l) (hg : w.grownBy w' row) (hne : own A = none ∨ own A ≠ row) : OB w' base e A n c l := World.ownsRow.kept h hg (by rw [own_slice]; exact hne)
section
variable {α β : Type} {K : RK α} {K' : RK β} {w w' : World} {base : Nat} {e e' : TypeId} {A A' : Option Addr} {k c k' c' : Nat} {L : List α} {L' : List β}
theorem GR.nil (hz : True) : GR K w base e none 0 0 ([] : List α) := ⟨[], ZO.nil, rfl, fun j h => absurd h (by simp)⟩
theorem RO.keep {r : Array Value} {a : α} (h : RO K w base r a) (hg : Grow w w') : RO K w' base r a := by
 obtain ⟨A, n, c, e1, h1⟩ := h
 exact ⟨A, n, c, e1, h1.keep hg⟩
theorem GR.keep (h : GR K w base e A k c L) (hg : Grow w w') : GR K w' base e A k c L := by
 obtain ⟨R, h1, h2, h3⟩ := h
 exact ⟨R, h1.keep hg, h2, fun j a b => (h3 j a b).keep hg⟩
theorem GR.past {z : Nat} {A2 : Option Addr} {n2 c2 : Nat} {R2 : List (Array Value)} (h : GR K w base e A k c L) (h' : ZO w base e' z A2 n2 c2 R2) (hne : e ≠ e') (hu : 5 ≠ e') (hg : w.grownBy w' (own A2)) : GR K w' base e A k c L := by
 obtain ⟨R, h1, h2, h3⟩ := h
 refine ⟨R, h1.past hg (h1.kinds h' hne), h2, fun j a b => ?_⟩
 obtain ⟨A, n, c, e1, h4⟩ := h3 j a b
 exact ⟨A, n, c, e1, h4.passed hg (h4.kindNe h' hu)⟩
theorem GR.set {g : Nat} (h : GR K w base e A k c L) (hg : g < base) (cs : Array Value) : GR K (w.setRow g cs) base e A k c L := by
 obtain ⟨R, h1, h2, h3⟩ := h
 refine ⟨R, h1.other (h1.notb hg) cs, h2, fun j a b => ?_⟩
 obtain ⟨A, n, c, e1, h4⟩ := h3 j a b
 exact ⟨A, n, c, e1, h4.beside (fun e => by have := (h4.from_ e).1; omega) cs⟩
theorem GR.mono {b : Nat} (h : GR K w base e A k c L) (hb : b ≤ base) : GR K w b e A k c L := by
 obtain ⟨R, h1, h2, h3⟩ := h
 exact ⟨R, h1.mono hb, h2, fun j a b' => by
  obtain ⟨A, n, c, e1, h4⟩ := h3 j a b'
  exact ⟨A, n, c, e1, h4.mono hb⟩⟩
theorem GR.zr (h : GR K w base e A k c L) : ZR K w w.heap.size A k c L := by
 obtain ⟨R, h1, h2, h3⟩ := h
 exact ⟨R, h1.zs, h2, fun j a b => by
  obtain ⟨A, n, c, e1, h4⟩ := h3 j a b
  exact ⟨A, n, c, e1, h4.rb⟩⟩
theorem GR.snoc {A2 : Option Addr} {c2 : Nat} {r : Array Value} {a : α} {R : List (Array Value)} (h1 : ZO w base e K.z A k c R) (h2 : R.length = L.length) (h3 : ∀ j (h : j < R.length) (h' : j < L.length), RO K w base R[j] L[j]) (hr : RO K w base r a) (hu : 5 ≠ e)
  (ho : ZO w' base e K.z A2 (k + 1) c2 (R ++ [r])) (hg : w.grownBy w' (own A)) : GR K w' base e A2 (k + 1) c2 (L ++ [a]) := by
 have key : ∀ {r : Array Value} {a : α}, RO K w base r a → RO K w' base r a := fun h => by
  obtain ⟨A, n, c, e1, h4⟩ := h
  exact ⟨A, n, c, e1, h4.passed hg (h4.kindNe h1 hu)⟩
 refine ⟨R ++ [r], ho, by simp [h2], fun j h h' => ?_⟩
 by_cases hj : j < R.length
 ·have hj' : j < L.length := by rw [← h2]; exact hj
  rw [List.getElem_append_left hj, List.getElem_append_left hj']
  exact key (h3 j hj hj')
 ·have e1 : j = R.length := by simp at h; omega
  subst e1
  have hl : L.length ≤ R.length := by rw [h2]; exact Nat.le_refl _
  rw [List.getElem_append_right (Nat.le_refl _), List.getElem_append_right hl]
  simpa using key hr
end
theorem Blk.rb {w : World} {g : Nat} {t : TypeId} {l : List UInt8} (h : Blk w g t (l.map byt).toArray) (hm : l.length ≤ maxLen) : RB w w.heap.size (some ⟨g, 0, none⟩) l.length l.length l :=
 ⟨rfl, Nat.le_refl _, hm, fun _ => ⟨g, 0, rfl, h.lt, fun j hj => by
  rw [Nat.zero_add, h.at j]
  simp [byt, hj]⟩⟩
theorem ZR.one {α : Type} {K : RK α} {w : World} {B g : Nat} {t : TypeId} {a : α} {A : Option Addr} {n c : Nat} (h : Blk w g t (K.cs a (.slice A n c))) (hr : RB w B A n c (K.by_ a)) (hz : (K.cs a (.slice A n c)).size = K.z) (hB : g < B) : ZR K w B (some ⟨g, 0, none⟩) 1 1 [a] :=
 ⟨[K.cs a (.slice A n c)], hz ▸ ZS.one h hB, rfl, fun j h1 h2 => by
  obtain rfl : j = 0 := by simpa using h1
  exact ⟨A, n, c, rfl, hr⟩⟩
theorem kept_row {w W : World} {S : Nat → Prop} {row : Option Nat} (h : w.grownBy W row) (hS : ∀ k, row = some k → ¬ S k) : Kept S w W := ⟨h.size, fun k hk hs => h.block k hk (fun e => hS k e.symm hs)⟩
set_option linter.unusedVariables false
structure Rg where
 addr : Nat
 size : Nat
 flags : Nat
 bytes : List UInt8
def rgC (r : Rg) (s : Value) : Array Value := #[.int .u64 (r.addr : Nat), .int .u64 (r.size : Nat), .int .u32 (r.flags : Nat), s]
def rgK : RK Rg := ⟨4, rgC, fun r => r.bytes⟩
def imC (e : Nat) (s : Value) : Array Value := #[.int .u64 (e : Nat), s]
def Rg.has (r : Rg) (x : Nat) : Bool := decide (r.addr ≤ x) && decide (x - r.addr < r.size)
def Rg.at_ (r : Rg) (x : Nat) : Nat := (r.bytes.getD (x - r.addr) 0).toNat
def atL : List Rg → Nat → Nat × Nat × Bool
 | [], _ => (0, 0, false)
 | r :: L, x => if r.has x then (r.at_ x, r.flags, true) else atL L x
theorem atL_drop {L : List Rg} {k : Nat} (h : k < L.length) (x : Nat) : atL (L.drop k) x = if L[k].has x then (L[k].at_ x, L[k].flags, true) else atL (L.drop (k + 1)) x := by
 rw [List.drop_eq_getElem_cons h]
 rfl
def sgRg (s : Sg) : Rg := ⟨s.vaddr, s.memsz, s.flags, s.pl.own⟩
def sgImg (l : List Sg) : List Rg := (l.filter (fun s => s.typ == 1)).map sgRg
def Md.img (m : Md) : List Rg := sgImg m.segs
section
variable (l : List UInt8)
def pgRg (p : Pg) : Rg := ⟨p.va, p.ms, p.fl, (l.drop p.off).take p.fs⟩
def fImg (k : Nat) : List Rg := ((List.range k).filter (fun i => (pgs l i).ty == 1)).map (fun i => pgRg l (pgs l i))
def imL : List Rg := fImg l (hdOf l).pn
def ImIn : Prop := ∀ i, i < (hdOf l).pn → pAt l i + pSize (lWide l) ≤ l.length
def ImOwn : Prop := ∀ i, i < (hdOf l).pn → (pgs l i).ty = 1 → inB l.length (pgs l i).off (pgs l i).fs = true
def Img : Prop := HTold l 0 0 (hdOf l).V ∧ (hdOf l).pn ≠ 65535 ∧ ImIn l ∧ ImOwn l
theorem fImg_succ (k : Nat) : fImg l (k + 1) = fImg l k ++ if (pgs l k).ty = 1 then [pgRg l (pgs l k)] else [] := by
 unfold fImg
 rw [List.range_succ, List.filter_append, List.map_append]
 congr 1
 by_cases ht : (pgs l k).ty = 1
 ·simp [ht]
 ·simp [ht]
theorem fImg_le (k : Nat) : (fImg l k).length ≤ k := by
 unfold fImg
 rw [List.length_map]
 exact Nat.le_trans (List.length_filter_le _ _) (by simp)
end
theorem filter_map_same {α β γ : Type} {f : α → γ} {g : β → γ} {p : α → Bool} {q : β → Bool} : ∀ {a : List α} {b : List β}, a.length = b.length → (∀ i (h : i < a.length) (h' : i < b.length), p a[i] = q b[i] ∧ (p a[i] = true → f a[i] = g b[i])) →
  (a.filter p).map f = (b.filter q).map g
 | [], [], _, _ => rfl
 | x :: a, y :: b, hl, h => by
  obtain ⟨h1, h2⟩ := h 0 (by simp) (by simp)
  simp only [List.getElem_cons_zero] at h1 h2
  have ih := filter_map_same (f := f) (g := g) (p := p) (q := q) (a := a) (b := b) (by simpa using hl) (fun i h3 h4 => by
   have := h (i + 1) (by simpa using h3) (by simpa using h4)
   simpa using this)
  rw [List.filter_cons, List.filter_cons, ← h1]
  cases hp : p x with
  | true => simp only [if_true, List.map_cons]; rw [h2 hp, ih]
  | false => simpa using ih
set_option maxRecDepth 100000
set_option linter.unusedVariables false
theorem byteOf_any (r : Rg) (A : Option Addr) (n c : Nat) (x : Nat) (w : World) (h : RB w w.heap.size A n c r.bytes) (hx : x < 18446744073709551616) :
  Calls Tryz.prog 46 #[.agg (rgC r (.slice A n c)), .int .u64 x] w fun e w' => e = .returned (.int .u8 ((r.bytes.getD x 0).toNat : Nat)) ∧ Grow w w' := by
 have hc := h.cap
 have hm := h.max
 unfold maxLen at hm
 have hlen := h.len
 have z1 : IntKind.u64.wrap (n : Int) = (n : Int) := by rw [IntKind.wrap_u64]; omega
 unfold rgC
 by_cases hin : x < n
 ·obtain ⟨b, off, rfl, hb, hcell⟩ := h.pos (by omega)
  have d1 : decide ((x : Int) < (n : Int)) = true := decide_eq_true (by omega)
  have hxl : x < r.bytes.length := by omega
  have c0 := hcell x hxl
  have c1 : (w.alloc (.cells #[.int .u64 (r.addr : Nat), .int .u64 (r.size : Nat), .int .u32 (r.flags : Nat), .slice (some ⟨b, off, none⟩) n c] 107)).cell? ⟨b, off + x, none⟩ = some (.int .u8 (r.bytes[x].toNat : Int)) := by
   rw [Below.cell (Grow.of_alloc w _) hb]; exact c0
  have e0 : r.bytes.getD x 0 = r.bytes[x] := by rw [List.getD_eq_getElem?_getD, List.getElem?_eq_getElem hxl]; rfl
  rw [e0]
  generalize r.bytes[x] = v at c1 ⊢
  have w0 : (0 : Int) ≤ (x : Int) := by omega
  have w1 : (x : Int) < (n : Int) := by omega
  have w2 : (x : Int).toNat = x := by omega
  clear h hcell c0 hlen hxl e0
  go_enter Tryz.func46, Tryz.ntmps46
  go_wp2
  go_ret
  exact ⟨rfl, Grow.of_alloc _ _⟩
 ·have d1 : decide ((x : Int) < (n : Int)) = false := decide_eq_false (by omega)
  have e0 : r.bytes.getD x 0 = 0 := by rw [List.getD_eq_getElem?_getD, List.getElem?_eq_none (by omega)]; rfl
  rw [e0]
  clear h hlen
  go_enter Tryz.func46, Tryz.ntmps46
  go_wp2
  go_ret
  exact ⟨rfl, Grow.of_alloc _ _⟩
set_option maxHeartbeats 4000000 in
theorem at_any (e : Nat) (A : Option Addr) (n c : Nat) (L : List Rg) (x : Nat) (w : World) (h : ZR rgK w w.heap.size A n c L) (hx : x < 18446744073709551616) :
  Calls Tryz.prog 18 #[.agg (imC e (.slice A n c)), .int .u64 x] w fun e' w' => e' = .returned (.tuple #[.int .u8 ((atL L x).1 : Nat), .int .u32 ((atL L x).2.1 : Nat), .bool (atL L x).2.2]) ∧ Grow w w' := by
 have H1 := hid h
 have HLn := hid h.len
 have hc := h.cap
 have hm := h.max
 unfold maxLen at hm
 have HAt := hid (fun k (hk : k < L.length) => atL_drop hk x)
 have HA0 : Hid (atL L x = atL (L.drop 0) x) := hid rfl
 have HAe : Hid (atL (L.drop n) x = (0, 0, false)) := hid (by rw [h.len, List.drop_length]; rfl)
 unfold imC
 clear h
 generalize atL L x = T at HA0 ⊢
 go_enter Tryz.func18, Tryz.ntmps18
 go_wp2_with fail
 go_loopw [13] (fun i wr => ∃ k : Nat, k ≤ n ∧ i = .int .i64 k ∧ Hid (T = atL (L.drop k) x) ∧ Grow w wr) (fun i _ => n - (intOf i).toNat)
 case atStart => exact ⟨0, Nat.zero_le _, rfl, HA0, Grow.of_alloc _ _⟩
 case round =>
  obtain ⟨k, hk, rfl, HT, hg⟩ := hrel
  have HG := hid hg
  clear hg
  by_cases hlt : k < n
  ·have hkl : k < L.length := by rw [← HLn.out]; exact hlt
   obtain ⟨b, off, hAA, hb⟩ := H1.out.pos (by omega)
   subst hAA
   obtain ⟨B1, k1, e1, -, p, g1⟩ := H1.out.at hkl
   have p' : ∀ i v, (rgC L[k] (.slice B1 k1 e1))[i]? = some v → wr.cell? ⟨b, off + k * 4 + i, none⟩ = some v := fun i v hv => (Below.cell HG.out hb).trans (p i v hv)
   have HTk : Hid (T = if L[k].has x then (L[k].at_ x, L[k].flags, true) else atL (L.drop (k + 1)) x) := hid (by rw [HT.out]; exact HAt.out k hkl)
   have HBy := hid (fun W (hW : Grow w W) q hq => byteOf_any L[k] B1 k1 e1 q W ((g1.belowAt hW (Nat.le_refl _)).more hW.size) hq)
   clear p g1 HT
   generalize L[k] = r at p' HTk HBy
   clear hkl
   unfold rgC at p' HBy
   have s0 : wr.cell? ⟨b, off + k * 4, none⟩ = _ := p' 0 _ rfl
   have s1 : wr.cell? ⟨b, off + k * 4 + 1, none⟩ = _ := p' 1 _ rfl
   have s2 : wr.cell? ⟨b, off + k * 4 + 2, none⟩ = _ := p' 2 _ rfl
   have s3 : wr.cell? ⟨b, off + k * 4 + 3, none⟩ = _ := p' 3 _ rfl
   clear p'
   have w0 : (0 : Int) ≤ (k : Int) := by omega
   have w1 : (k : Int) < (n : Int) := by omega
   have d1 : decide ((k : Int) < (n : Int)) = true := decide_eq_true (by omega)
   by_cases ha : r.addr ≤ x
   ·have d2 : decide ((r.addr : Int) ≤ (x : Int)) = true := decide_eq_true (by omega)
    have z1 : IntKind.u64.wrap ((x : Int) - (r.addr : Int)) = ((x - r.addr : Nat) : Int) := by rw [IntKind.wrap_u64]; omega
    by_cases hs : x - r.addr < r.size
    ·have d3 : decide (((x - r.addr : Nat) : Int) < (r.size : Int)) = true := decide_eq_true (by omega)
     go_wp2_with fail
     generalize hW : World.alloc _ _ = W5
     obtain ⟨b5, hgr⟩ := blk1 hW
     clear hW s0 s1 s2 s3 d1 d2 d3 z1
     have HX := hid (b5.drew)
     have HG5 : Hid (Grow w W5.drew) := hid ((HG.out.trans hgr).trans (Grow.of_drew _))
     clear b5 hgr HG
     refine wp_region_chain [(0, true), (1, true), (3, true), (4, true), (2, false), (5, true), (6, true), (7, true)] (by kernel_rfl) (by kernel_rfl) (by kernel_rfl) ?_
     generalize W5.drew = v0 at HX HG5 ⊢
     have q0 : ∀ W, Grow v0 W → W.cell? ⟨wr.heap.size, 0, none⟩ = some (.int .u64 (r.addr : Nat)) := fun W hW => (HX.out.grow hW).at 0
     have q1 : ∀ W, Grow v0 W → W.cell? ⟨wr.heap.size, 1, none⟩ = some (.int .u64 (r.size : Nat)) := fun W hW => (HX.out.grow hW).at 1
     have q2 : ∀ W, Grow v0 W → W.cell? ⟨wr.heap.size, 2, none⟩ = some (.int .u32 (r.flags : Nat)) := fun W hW => (HX.out.grow hW).at 2
     have q3 : ∀ W, Grow v0 W → W.cell? ⟨wr.heap.size, 3, none⟩ = some (.slice B1 k1 e1) := fun W hW => (HX.out.grow hW).at 3
     repeat ((first | (refine chain_take rfl (by rfl) ?_ (fun W hG => ?_) ?_; rotate_left; (go_simp; rfl)) | refine chain_skip rfl (by rfl) ?_); simp only [Act.put, List.setIfInBounds_toArray, List.set_cons_zero, List.set_cons_succ])
     clear q0 q1 q2 q3
     refine chain_only rfl (by rfl) (fun K hK => ?_)
     go_simp
     refine (HBy.out _ HG5.out _ (by omega)).mono ?_
     rintro e2 v1 ⟨rfl, hg⟩
     refine hK _ _ hg ?_
     clear hK K
     have HG6 : Hid (Grow w v1) := hid (HG5.out.trans hg)
     repeat ((first | (refine chain_take rfl (by rfl) ?_ (fun W hG => ?_) ?_; rotate_left; (go_simp; rfl)) | refine chain_skip rfl (by rfl) ?_); simp only [Act.put, List.setIfInBounds_toArray, List.set_cons_zero, List.set_cons_succ])
     refine chain_done ?_
     have hT : T = (r.at_ x, r.flags, true) := by rw [HTk.out, if_pos (by unfold Rg.has; rw [decide_eq_true ha, decide_eq_true hs]; rfl)]
     subst hT
     go_wp2
     go_ret3
     exact ⟨rfl, HG6.out⟩
    ·have d3 : decide (((x - r.addr : Nat) : Int) < (r.size : Int)) = false := decide_eq_false (by omega)
     have hT : T = atL (L.drop (k + 1)) x := by rw [HTk.out, if_neg (by unfold Rg.has; rw [decide_eq_false hs]; simp)]
     have hg := HG.out.trans (Grow.of_alloc wr (.cells #[.int .u64 (r.addr : Nat), .int .u64 (r.size : Nat), .int .u32 (r.flags : Nat), .slice B1 k1 e1] 107))
     go_wp2
     go_roundw
     case rel => exact ⟨k + 1, by omega, by go_num, hid hT, hg⟩
     case measure => simp [intOf]; omega
   ·have d2 : decide ((r.addr : Int) ≤ (x : Int)) = false := decide_eq_false (by omega)
    have hT : T = atL (L.drop (k + 1)) x := by rw [HTk.out, if_neg (by unfold Rg.has; rw [decide_eq_false ha]; simp)]
    have hg := HG.out.trans (Grow.of_alloc wr (.cells #[.int .u64 (r.addr : Nat), .int .u64 (r.size : Nat), .int .u32 (r.flags : Nat), .slice B1 k1 e1] 107))
    go_wp2
    go_roundw
    case rel => exact ⟨k + 1, by omega, by go_num, hid hT, hg⟩
    case measure => simp [intOf]; omega
  ·have d1 : decide ((k : Int) < (n : Int)) = false := decide_eq_false (by omega)
   have hT : T = (0, 0, false) := by
    have := HT.out
    rw [show k = n by omega, HAe.out] at this
    exact this
   subst hT
   go_wp2
   go_ret3
   exact ⟨rfl, HG.out⟩
end Go.Proofs.YtfglppjilcaafaaGreatDoor
