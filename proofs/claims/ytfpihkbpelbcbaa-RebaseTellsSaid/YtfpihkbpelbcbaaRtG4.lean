/-
  Several texts in one: A model at another address, as plain data; The contracts of slices; append of several numbers that were laid side by side; Bytes and rows of the call's own; The contract of model; string(b) of bytes that are known, in this program, in every world that has only grown since; The contract of strs; The contracts of model; A region that draws its order, in which all that reads may be taken first, and what is left (a new block, stores, assignments) comes in one order; and results that lie in memory; What Get tells, in plain words, and the contract of ident; Small words on beginnings, errors, and blocks of cells, that later layers use too; The contract of wire; The contract of wire.
-/
import Derived.Test.YtfpihkbpelbcbaaRtG2
import Derived.Test.YtfpihkbpelbcbaaRtG3
import Derived.Test.YtfpihkbpelbcbaaRtG1
import Derived.Test.YtfpihkbpelbcbaaRows
import Derived.Laws.Bits64b
import Derived.Laws.Bits128
import Derived.WalkKit
import Derived.Lib.Hide
import Derived.Lib.BytesEntry
import Derived.Laws.Entries
import Derived.Laws.ResultCell
import Derived.BigQuiet
import Derived.Deep.QuietTactic
import Derived.Lib.BufferWrite
import Derived.Deep.WholeRow
import Derived.Lib.SmallJoins
namespace Go.Proofs.Ytfpihkbpelbcbaa
open Go.Lib (hid)
set_option linter.unusedVariables false
def wdN (wide : Bool) : Nat := byWide wide 4 8
theorem wdN_pos (wide : Bool) : 0 < wdN wide := by cases wide <;> decide
theorem wdN_le (wide : Bool) : wdN wide ≤ 8 := by cases wide <;> decide
theorem wdN_wid (wide : Bool) : wid ((wdN wide : Nat) : Int) = true := by cases wide <;> decide
def putIn (l : List UInt8) (p : Nat) (b : List UInt8) : List UInt8 := l.take p ++ (b ++ l.drop (p + b.length))
theorem putIn_len {l : List UInt8} {p : Nat} {b : List UInt8} (h : p + b.length ≤ l.length) : (putIn l p b).length = l.length := by
 unfold putIn
 simp only [List.length_append, List.length_take, List.length_drop]
 omega
theorem putIn_at {l : List UInt8} {p : Nat} {b : List UInt8} (h : p + b.length ≤ l.length) (j : Nat) : (putIn l p b)[j]? = if p ≤ j ∧ j < p + b.length then b[j - p]? else l[j]? := by
 unfold putIn
 have hl : (l.take p).length = p := by rw [List.length_take]; omega
 by_cases h1 : j < p
 ·rw [if_neg (by omega), List.getElem?_append_left (by omega), List.getElem?_take_of_lt h1]
 ·rw [List.getElem?_append_right (by omega), hl]
  by_cases h2 : j < p + b.length
  ·rw [if_pos (by omega), List.getElem?_append_left (by omega)]
  ·rw [if_neg (by omega), List.getElem?_append_right (by omega), List.getElem?_drop]
   congr 1
   omega
theorem fi_step {α : Type} {l : List α} {p : α → Bool} {k : Nat} (hk : k ≤ l.findIdx p) :
  (∀ h : k < l.length, p l[k] = true → l.findIdx p = k) ∧ (∀ h : k < l.length, p l[k] = false → k + 1 ≤ l.findIdx p) ∧ (l.length ≤ k → l.findIdx p = l.length) := by
 refine ⟨fun h h1 => ?_, fun h h1 => ?_, fun h => ?_⟩
 ·rcases Nat.lt_or_ge k (l.findIdx p) with h2 | h2
  ·have := List.not_of_lt_findIdx h2
   rw [h1] at this
   exact absurd this (by decide)
  ·omega
 ·rcases Nat.lt_or_ge k (l.findIdx p) with h2 | h2
  ·exact h2
  ·have e : l.findIdx p = k := by omega
   have := List.findIdx_getElem (xs := l) (p := p) (w := by omega)
   simp only [e] at this
   rw [h1] at this
   cases this
 ·have := List.findIdx_le_length (xs := l) (p := p)
  omega
theorem fi_at {α : Type} {l : List α} {p : α → Bool} (h : l.findIdx p < l.length) : p l[l.findIdx p] = true := List.findIdx_getElem (w := h)
def Sg.has (s : Sg) (a n : Nat) : Bool := decide (s.typ = 1) && (decide (s.vaddr ≤ a) && decide (a - s.vaddr + n ≤ s.pl.own.length))
def Md.fnd (m : Md) (a n : Nat) : Nat := m.segs.findIdx fun s => s.has a n
def Md.among (m : Md) (a n : Nat) : Option (Nat × Nat) := if m.fnd a n < m.segs.length then some (m.fnd a n, a - (m.segs.getD (m.fnd a n) sg0).vaddr) else none
theorem getD_at {l : List Sg} {i : Nat} (h : i < l.length) : l.getD i sg0 = l[i] := by rw [List.getD_eq_getElem?_getD, List.getElem?_eq_getElem h]; rfl
theorem Md.among_some {m : Md} {a n i p : Nat} (h : m.among a n = some (i, p)) : ∃ hi : i < m.segs.length, m.segs[i].typ = 1 ∧ m.segs[i].vaddr ≤ a ∧ p = a - m.segs[i].vaddr ∧ p + n ≤ m.segs[i].pl.own.length := by
 unfold Md.among at h
 split at h
 ·rename_i h1
  injection h with h
  injection h with h2 h3
  have this : (m.segs[m.fnd a n]'h1).has a n = true := fi_at (l := m.segs) (p := fun s => s.has a n) h1
  subst h2
  unfold Sg.has at this
  simp only [Bool.and_eq_true, decide_eq_true_eq] at this
  rw [getD_at h1] at h3
  have h4 : (m.segs[m.fnd a n]'h1).typ = 1 ∧ (m.segs[m.fnd a n]'h1).vaddr ≤ a ∧ a - (m.segs[m.fnd a n]'h1).vaddr + n ≤ (m.segs[m.fnd a n]'h1).pl.own.length := this
  exact ⟨h1, h4.1, h4.2.1, h3.symm, by rw [← h3]; exact h4.2.2⟩
 ·cases h
def Md.dynI (m : Md) : Nat := m.segs.findIdx fun s => decide (s.typ = 2)
def Md.hasDyn (m : Md) : Bool := decide (m.dynI < m.segs.length)
def Md.dynS (m : Md) : Sg := m.segs.getD m.dynI sg0
def plX : Pl := ⟨-1, 0, 0, []⟩
def Md.dynP (m : Md) : Pl := if m.hasDyn then m.dynS.pl else plX
def Md.dynB (m : Md) : List UInt8 := m.bytes m.dynS.pl
def Md.ents (m : Md) : List Dy := if m.hasDyn then (if dyIn m.dynB m.wide m.big then dyns m.dynB m.wide m.big else []) else []
def relT (adds : Bool) : Nat := if adds then 7 else 17
def Md.relA (m : Md) (adds : Bool) : Nat × Bool := dyF m.ents (relT adds)
def Md.relZ (m : Md) (adds : Bool) : Nat × Bool := dyF m.ents (relT adds + 1)
def Md.relB (m : Md) (x : Nat × Nat) (adds : Bool) : List UInt8 := ((m.segs.getD x.1 sg0).pl.own.drop x.2).take (m.relZ adds).1
def Md.relsOf (m : Md) (adds : Bool) : List Re :=
 if (m.relA adds).2 && (m.relZ adds).2 then
  match m.among (m.relA adds).1 (m.relZ adds).1 with
  | none => []
  | some x => if (m.relB x adds).length % reSize m.wide adds = 0 then rels (m.relB x adds) m.wide adds m.big else []
 else []
def Md.allRels (m : Md) : List Re := m.relsOf true ++ m.relsOf false
def isRel (mach ty : Nat) : Bool := if mach = 183 then decide (ty = 1027) else (decide (mach = 3) || decide (mach = 62)) && decide (ty = 8)
def adTags : List Nat := [3, 4, 5, 6, 7, 12, 13, 17, 23, 25, 26, 32, 1879047925, 1879048176, 1879048188, 1879048190]
def isAdT (t : Nat) : Bool := adTags.any fun x => decide (x = t)
def Sg.inMem (s : Sg) (a : Nat) : Bool := decide (s.typ = 1) && (decide (s.vaddr ≤ a) && decide (a - s.vaddr < s.memsz))
def Md.isAd (m : Md) (e : Dy) : Bool := isAdT e.tag && m.segs.any fun s => s.inMem e.val
def putAt (B : List (List UInt8)) (i p : Nat) (b : List UInt8) : List (List UInt8) := B.set i (putIn (B.getD i []) p b)
def wordAt (B : List (List UInt8)) (i p : Nat) (wide big : Bool) : Nat := getB (((B.getD i []).drop p).take (wdN wide)) big
def Md.putW (m : Md) (B : List (List UInt8)) (i p v : Nat) : List (List UInt8) := putAt B i p (putB (v % 18446744073709551616) (wdN m.wide) m.big)
def Md.relStep (m : Md) (d : Nat) (B : List (List UInt8)) (r : Re) : List (List UInt8) :=
 if isRel m.mach r.ty then
  match m.among r.off (wdN m.wide) with
  | none => B
  | some x => m.putW B x.1 x.2 (wordAt B x.1 x.2 m.wide m.big + d)
 else B
def Md.own0 (m : Md) : List (List UInt8) := m.segs.map fun s => s.pl.own
def Md.relTo (m : Md) (d k : Nat) : List (List UInt8) := (m.allRels.take k).foldl (m.relStep d) m.own0
theorem Md.relTo_zero (m : Md) (d : Nat) : m.relTo d 0 = m.own0 := rfl
theorem Md.relTo_succ (m : Md) (d k : Nat) (h : k < m.allRels.length) : m.relTo d (k + 1) = m.relStep d (m.relTo d k) m.allRels[k] := by
 unfold Md.relTo
 rw [List.take_succ_eq_append_getElem h, List.foldl_append]
 rfl
def Md.relEnd (m : Md) (d : Nat) : List (List UInt8) := m.relTo d m.allRels.length
def Md.entStep (m : Md) (d : Nat) (B : List (List UInt8)) (k : Nat) (e : Dy) : List (List UInt8) :=
 if m.isAd e then m.putW B m.dynP.inn.toNat (m.dynP.off + wdN m.wide * (2 * k + 1)) (e.val + d) else B
def Md.entTo (m : Md) (d : Nat) : Nat → List (List UInt8)
 | 0 => m.relEnd d
 | k + 1 => m.entStep d (m.entTo d k) k (m.ents.getD k dy0)
def Md.words (m : Md) (d : Nat) : List (List UInt8) := if m.dynP.inn = -1 then m.relEnd d else m.entTo d m.ents.length
def segB (s : Sg) (b : List UInt8) : Sg := { s with pl := { s.pl with own := b } }
def Md.withB (m : Md) (B : List (List UInt8)) : Md := { m with segs := List.zipWith segB m.segs B }
def mvA (a d : Nat) : Nat := (a + d) % 18446744073709551616
def mvS (d : Nat) (s : Sg) : Sg := { s with vaddr := mvA s.vaddr d }
def Se.isIn (s : Se) : Bool := decide (s.flags / 2 % 2 = 1)
def mvE (d : Nat) (s : Se) : Se := if s.isIn then { s with addr := mvA s.addr d } else s
def mvN (d a : Nat) : Nat := if a = 0 then 0 else mvA a d
def Md.moved (m : Md) (d : Nat) : Md := { m with entry := mvN d m.entry, segs := m.segs.map (mvS d), secs := m.secs.map (mvE d) }
def Md.rebase (m : Md) (d : Nat) : Md := (m.withB (m.words d)).moved d
def Md.alBad (m : Md) (d : Nat) : Bool := m.segs.any fun s => !decide (d % max s.align 1 = 0)
def overA (wide : Bool) (a d : Nat) : Bool := !decide (a + d ≤ lastA wide)
def Sg.over (s : Sg) (wide : Bool) (d : Nat) : Bool := overA wide s.vaddr d || (decide (0 < s.memsz) && overA wide (s.vaddr + d) (s.memsz - 1))
def Se.over (s : Se) (wide : Bool) (d : Nat) : Bool := s.isIn && overA wide s.addr d
def Md.wrBad (m : Md) (d : Nat) : Bool := (!decide (m.entry = 0) && overA m.wide m.entry d) || (m.segs.any (fun s => s.over m.wide d) || m.secs.any (fun s => s.over m.wide d))
def Md.rbC (m : Md) (d : Nat) : Nat := if m.typ = 3 then (if m.alBad d then 6 else if m.wrBad d then 12 else 0) else 11
def md0 : Md := ⟨false, false, 0, 0, 0, 0, 0, 0, [], [], 0⟩
def Md.rbM (m : Md) (d : Nat) : Md := if m.rbC d = 0 then m.rebase d else md0
structure Fit (m : Md) (B : List (List UInt8)) : Prop where
 len : B.length = m.segs.length
 each : ∀ i (h : i < B.length) (h' : i < m.segs.length), B[i].length = m.segs[i].pl.own.length
theorem fit_own0 (m : Md) : Fit m m.own0 := ⟨by simp [Md.own0], fun i h h' => by simp [Md.own0]⟩
theorem putB_len8 (v n : Nat) (big : Bool) : (putB v n big).length = n := length_putB v n big
theorem Fit.put {m : Md} {B : List (List UInt8)} (h : Fit m B) {i p : Nat} {b : List UInt8} (hi : i < m.segs.length) (hp : p + b.length ≤ m.segs[i].pl.own.length) : Fit m (putAt B i p b) := by
 have hiB : i < B.length := by rw [h.len]; exact hi
 refine ⟨by simp [putAt, h.len], fun j h1 h2 => ?_⟩
 have e : (putAt B i p b)[j] = if i = j then putIn (B.getD i []) p b else B[j]'(by rw [h.len]; exact h2) := List.getElem_set ..
 rw [e]
 split
 ·rename_i e
  subst e
  rw [putIn_len, List.getD_eq_getElem?_getD, List.getElem?_eq_getElem hiB]
  ·exact h.each i hiB hi
  ·rw [List.getD_eq_getElem?_getD, List.getElem?_eq_getElem hiB]
   show _ ≤ B[i].length
   rw [h.each i hiB hi]
   exact hp
 ·exact h.each j (by rw [h.len]; exact h2) h2
theorem Fit.rel {m : Md} {d : Nat} {B : List (List UInt8)} (h : Fit m B) (r : Re) : Fit m (m.relStep d B r) := by
 unfold Md.relStep
 split
 ·split
  ·exact h
  ·rename_i x hx
   obtain ⟨hi, -, -, -, hp⟩ := m.among_some (show m.among r.off (wdN m.wide) = some (x.1, x.2) from hx)
   exact h.put hi (by rw [putB_len8]; exact hp)
 ·exact h
theorem Fit.relTo (m : Md) (d : Nat) : ∀ k, k ≤ m.allRels.length → Fit m (m.relTo d k)
 | 0, _ => fit_own0 m
 | k + 1, h => by rw [m.relTo_succ d k h]; exact (Fit.relTo m d k (by omega)).rel _
theorem Fit.relEnd (m : Md) (d : Nat) : Fit m (m.relEnd d) := Fit.relTo m d _ (Nat.le_refl _)
theorem ent_room {m : Md} (hck : m.chk = 0) (hin : m.dynP.inn ≠ -1) {k : Nat} (hk : k < m.ents.length) : ∃ hi : m.dynP.inn.toNat < m.segs.length, m.dynP.inn = (m.dynP.inn.toNat : Int) ∧ m.segs[m.dynP.inn.toNat].typ = 1 ∧ m.dynP.off + wdN m.wide * (2 * k + 1) + wdN m.wide ≤ m.segs[m.dynP.inn.toNat].pl.own.length := by
 unfold Md.ents at hk
 unfold Md.dynP at hin ⊢
 cases hd : m.hasDyn with
 | false => rw [hd] at hin; exact absurd rfl hin
 | true =>
  rw [hd] at hk hin
  rw [if_pos rfl] at hk hin ⊢
  have hl : m.dynI < m.segs.length := by unfold Md.hasDyn at hd; simpa using hd
  have hs : m.dynS = m.segs[m.dynI] := getD_at hl
  have hc := (Md.chk_zero hck).1 m.dynS (by rw [hs]; exact List.getElem_mem hl)
  have hm : m.may m.dynS.pl = true := by
   unfold Md.segC at hc
   split at hc
   ·omega
   split at hc
   ·omega
   rename_i h2
   simpa using h2
  have hlen := Md.may_len hm
  unfold Md.may at hm
  rw [if_neg hin] at hm
  simp only [Bool.and_eq_true, decide_eq_true_eq] at hm
  obtain ⟨⟨h1, h2⟩, h3⟩ := hm
  obtain ⟨i, hi, hil⟩ := isSegN_true h1
  rw [hi] at h2 h3 ⊢
  rw [m.seg_nat i hil] at h2 h3
  unfold Pl.inMay Pl.within at h3
  simp only [Bool.and_eq_true, decide_eq_true_eq] at h3
  refine ⟨by simpa using hil, by simp, by simpa using h2, ?_⟩
  simp only [Int.toNat_natCast]
  split at hk
  ·rename_i hdi
   unfold dyns at hk
   rw [dynTo_len] at hk
   have hk1 := dyK_le m.dynB m.wide m.big
   have hmul := dyn_mul m.wide hk
   unfold Md.dynB at hk1 hmul
   rw [hlen] at hk1
   unfold dySize dyW at hmul hk1
   unfold wdN
   generalize byWide m.wide 4 8 = W at *
   have e1 : W * (2 * k + 1) + W = k * (2 * W) + 2 * W := by
    rw [Nat.mul_add, Nat.mul_one, Nat.mul_left_comm W 2 k, Nat.mul_left_comm k 2 W, Nat.mul_comm W k]
    omega
   omega
  ·simp at hk
theorem Fit.ent {m : Md} {d : Nat} {B : List (List UInt8)} (hck : m.chk = 0) (hin : m.dynP.inn ≠ -1) {k : Nat} (hk : k < m.ents.length) (h : Fit m B) (e : Dy) : Fit m (m.entStep d B k e) := by
 unfold Md.entStep
 split
 ·obtain ⟨hi, -, -, hp⟩ := ent_room hck hin hk
  exact h.put hi (by rw [putB_len8]; exact hp)
 ·exact h
theorem Fit.entTo {m : Md} {d : Nat} (hck : m.chk = 0) (hin : m.dynP.inn ≠ -1) : ∀ k, k ≤ m.ents.length → Fit m (m.entTo d k)
 | 0, _ => Fit.relEnd m d
 | k + 1, h => (Fit.entTo hck hin k (by omega)).ent hck hin h _
theorem withB_len {m : Md} {B : List (List UInt8)} (h : Fit m B) : (m.withB B).segs.length = m.segs.length := by simp [Md.withB, h.len]
theorem withB_at {m : Md} {B : List (List UInt8)} (h : Fit m B) {i : Nat} (h1 : i < (m.withB B).segs.length) (h2 : i < m.segs.length) (h3 : i < B.length) : (m.withB B).segs[i] = segB m.segs[i] B[i] := by simp [Md.withB]
theorem findIdx_same {l l' : List Sg} {p : Sg → Bool} (hl : l'.length = l.length) (h : ∀ i (h1 : i < l'.length) (h2 : i < l.length), p l'[i] = p l[i]) : l'.findIdx p = l.findIdx p := by
 have key : l'.map p = l.map p := List.ext_getElem (by simpa using hl) fun i h1 h2 => by
  rw [List.getElem_map, List.getElem_map]
  exact h i (by simpa using h1) (by simpa using h2)
 have e : ∀ L : List Sg, L.findIdx p = (L.map p).findIdx id := fun L => by
  rw [List.findIdx_map]
  rfl
 rw [e l', e l, key]
theorem withB_among {m : Md} {B : List (List UInt8)} (h : Fit m B) (a n : Nat) : (m.withB B).among a n = m.among a n := by
 have e : (m.withB B).fnd a n = m.fnd a n := findIdx_same (withB_len h) fun i h1 h2 => by
  have h3 : i < B.length := by rw [h.len]; exact h2
  rw [withB_at h h1 h2 h3]
  unfold Sg.has segB
  simp only [h.each i h3 h2]
 unfold Md.among
 rw [e, withB_len h]
 split
 ·rename_i h1
  have h2 : m.fnd a n < (m.withB B).segs.length := by rw [withB_len h]; exact h1
  rw [getD_at h2, getD_at h1, withB_at h h2 h1 (by rw [h.len]; exact h1)]
  rfl
 ·rfl
theorem withB_any {m : Md} {B : List (List UInt8)} (h : Fit m B) (a : Nat) : (m.withB B).segs.any (fun s => s.inMem a) = m.segs.any fun s => s.inMem a := by
 have e : ∀ L : List Sg, L.any (fun s => s.inMem a) = (L.map fun s => s.inMem a).any id := fun L => by rw [List.any_map]; rfl
 rw [e, e]
 congr 1
 exact List.ext_getElem (by simpa using withB_len h) fun i h1 h2 => by
  rw [List.getElem_map, List.getElem_map]
  have h4 : i < m.segs.length := by simpa using h2
  rw [withB_at h (by simpa using h1) h4 (by rw [h.len]; exact h4)]
  rfl
theorem withB_own0 (m : Md) : m.withB m.own0 = m := by
 unfold Md.withB Md.own0
 have : List.zipWith segB m.segs (m.segs.map fun s => s.pl.own) = m.segs := List.ext_getElem (by simp) fun i h1 h2 => by simp [segB]
 rw [this]
theorem withB_set {m : Md} {B : List (List UInt8)} (h : Fit m B) {i : Nat} (b : List UInt8) (hi : i < (m.withB B).segs.length) : (m.withB (B.set i b)).segs = (m.withB B).segs.set i (segB (m.withB B).segs[i] b) := by
 refine List.ext_getElem (by simp [Md.withB]) fun j h1 h2 => ?_
 rw [List.getElem_set]
 simp only [Md.withB, List.getElem_zipWith, List.getElem_set]
 split
 ·rename_i e
  subst e
  rfl
 ·rfl
theorem withB_moved (m : Md) (B : List (List UInt8)) (d : Nat) : (m.withB B).moved d = (m.moved d).withB B := by
 unfold Md.withB Md.moved
 have : (List.zipWith segB m.segs B).map (mvS d) = List.zipWith segB (m.segs.map (mvS d)) B := List.ext_getElem (by simp) fun i h1 h2 => by simp [segB, mvS]
 simp only [this]
theorem Fit.moved {m : Md} {B : List (List UInt8)} (h : Fit m B) (d : Nat) : Fit (m.moved d) B := ⟨by simp [Md.moved, h.len], fun i h1 h2 => by
 simp only [Md.moved, List.getElem_map, mvS]
 exact h.each i h1 (by simpa [Md.moved] using h2)⟩
def Md.alMax (m : Md) : Nat := m.segs.foldl (fun a s => max a s.align) 1
def alTo (l : List Sg) (k : Nat) : Nat := (l.take k).foldl (fun a s => max a s.align) 1
theorem alTo_succ (l : List Sg) (k : Nat) (h : k < l.length) : alTo l (k + 1) = max (alTo l k) l[k].align := by
 unfold alTo
 rw [List.take_succ_eq_append_getElem h, List.foldl_append]
 rfl
theorem alTo_all (m : Md) {n : Nat} (h : n = m.segs.length) : alTo m.segs n = m.alMax := by unfold alTo Md.alMax; rw [List.take_of_length_le (by omega)]
theorem alFold (l : List Sg) : ∀ a, (∀ s ∈ l, s.align ≤ l.foldl (fun a s => max a s.align) a) ∧ a ≤ l.foldl (fun a s => max a s.align) a ∧ (l.foldl (fun a s => max a s.align) a = a ∨ ∃ s ∈ l, l.foldl (fun a s => max a s.align) a = s.align) := by
 induction l with
 | nil => intro a; exact ⟨fun s h => absurd h (by simp), Nat.le_refl _, .inl rfl⟩
 | cons x l ih =>
  intro a
  obtain ⟨h1, h2, h3⟩ := ih (max a x.align)
  simp only [List.foldl_cons]
  refine ⟨fun s hs => ?_, by omega, ?_⟩
  ·rcases List.mem_cons.1 hs with e | e
   ·subst e; omega
   ·exact h1 s e
  ·rcases h3 with h3 | ⟨s, hs, h3⟩
   ·rw [h3]
    rcases Nat.le_total a x.align with h | h
    ·exact .inr ⟨x, by simp, by omega⟩
    ·exact .inl (by omega)
   ·exact .inr ⟨s, by simp [hs], h3⟩
theorem alMax_pos (m : Md) : 0 < m.alMax := (alFold m.segs 1).2.1
theorem alMax_lt {m : Md} (ok : m.Ok) : m.alMax < 18446744073709551616 := by
 rcases (alFold m.segs 1).2.2 with h | ⟨s, hs, h⟩
 ·unfold Md.alMax; omega
 ·unfold Md.alMax; rw [h]; exact (ok.segs s hs).align
theorem alBad_max {m : Md} (ok : m.Ok) (hck : m.chk = 0) (d : Nat) : m.alBad d = !decide (d % m.alMax = 0) := by
 obtain ⟨h1, h2, h3⟩ := alFold m.segs 1
 have hpw : ∀ s ∈ m.segs, s.align = 0 ∨ ∃ k, s.align = 2 ^ k := fun s hs => (ones_one _ (ok.segs s hs).align).1 (by
  have := (Md.chk_zero hck).1 s hs
  unfold Md.segC at this
  split at this
  ·omega
  ·omega)
 have hmx : ∃ k, m.alMax = 2 ^ k := by
  unfold Md.alMax
  rcases h3 with h | ⟨s, hs, h⟩
  ·exact ⟨0, h⟩
  ·rcases hpw s hs with e | ⟨k, e⟩
   ·rw [h, e] at h2; omega
   ·exact ⟨k, by rw [h, e]⟩
 cases hb : m.alBad d with
 | true =>
  unfold Md.alBad at hb
  obtain ⟨s, hs, hd⟩ := List.any_eq_true.1 hb
  simp only [Bool.not_eq_true', decide_eq_false_iff_not] at hd
  symm
  rw [Bool.not_eq_true', decide_eq_false_iff_not]
  intro h0
  apply hd
  obtain ⟨q, hq⟩ := hmx
  rcases hpw s hs with e | ⟨k, e⟩
  ·rw [e]; simp [Nat.mod_one]
  ·have hle : s.align ≤ m.alMax := h1 s hs
   have hp : 0 < 2 ^ k := Nat.two_pow_pos k
   have e2 : max s.align 1 = 2 ^ k := by omega
   rw [e2]
   rw [e, hq] at hle
   have hkq : k ≤ q := (Nat.pow_le_pow_iff_right (by omega)).1 hle
   rw [hq] at h0
   exact Nat.mod_eq_zero_of_dvd (Nat.dvd_trans (Nat.pow_dvd_pow 2 hkq) (Nat.dvd_of_mod_eq_zero h0))
 | false =>
  symm
  rw [Bool.not_eq_false', decide_eq_true_iff]
  unfold Md.alBad at hb
  rw [List.any_eq_false] at hb
  rcases h3 with h | ⟨s, hs, h⟩
  ·unfold Md.alMax; rw [h]; exact Nat.mod_one d
  ·have := hb s hs
   simp only [Bool.not_eq_true', decide_eq_false_iff_not, Decidable.not_not] at this
   unfold Md.alMax
   rw [h] at h2 ⊢
   rwa [show max s.align 1 = s.align by omega] at this
end Go.Proofs.Ytfpihkbpelbcbaa
namespace Go.Proofs.Ytfpihkbpelbcbaa
open Go.Lib (hid)
open Go.RowKit
theorem fits_wide (wide : Bool) (v : Nat) : fits (v : Int) ((byWide wide 4 8 : Nat) : Int) = fitW wide v := by
 cases wide
 ·have h1 : wid ((byWide false 4 8 : Nat) : Int) = true := by decide
  unfold fits fitW
  rw [h1, Bool.true_and, Bool.eq_iff_iff, decide_eq_true_iff, decide_eq_true_iff]
  show (v : Int) < 256 ^ 4 ↔ v < 256 ^ 4
  omega
 ·have h1 : wid ((byWide true 4 8 : Nat) : Int) = true := by decide
  unfold fits fitW
  rw [h1, Bool.true_and, Bool.eq_iff_iff, decide_eq_true_iff, decide_eq_true_iff]
  show (v : Int) < 256 ^ 8 ↔ v < 256 ^ 8
  omega
theorem run_appendM {P : Program} (w : World) (base : Nat) (t ty e : TypeId) (k : IntKind) (bytes : Nat) (ht : P.underlying t = some (.slice e))
  (hinfo : (P.info? e).map (fun i => (i.zero, i.size, i.bytes)) = some (some (.int k 0), 1, bytes))
  (A : Option Addr) (n c : Nat) (l : List Nat) (hown : ON w base e k A n c l) (g : Nat) (t' : TypeId) (m : Nat) (y : List Nat) (hm : y.length = m) (hr : Blk w g t' (y.map (ival k)).toArray) (hm0 : 0 < m)
  (h63 : n + m ≤ maxLen) (hsz : (n + m) * bytes ≤ 140737488355328) (hbase : base ≤ w.heap.size) :
  ∃ A2 c2 w', (Builtin.append_ #[t, t] ty #[.slice A n c, .slice (some ⟨g, 0, none⟩) m m]).run P w = .ok (.slice A2 (n + m) c2) w' ∧ ON w' base e k A2 (n + m) c2 (l ++ y) ∧ Below base w w' := by
 obtain ⟨i, hi, hz, hs, hby⟩ := info_parts hinfo
 obtain ⟨v', w', hrun, h2, h3, _, _⟩ := run_append_own_at (P := P) w base t ty e i (.int k 0) 1 bytes ht hi hz hs hby rfl (by omega) _ n _ hown ⟨g, 0, none⟩ m m (y.map (ival k))
  (by simp [hm]) (fun j u hj => by
   have e2 : (⟨g, 0, none⟩ : Addr).add j = ⟨g, j, none⟩ := by unfold Addr.add; split <;> simp_all
   rw [e2, hr.at]
   simpa using hj) (by intro u hu; obtain ⟨x, _, rfl⟩ := List.mem_map.1 hu; rfl) h63 hsz hbase
 have hv : ∃ A2 c2, v' = .slice A2 (n + m) c2 := by
  rcases h2.2 with ⟨h0, h1⟩ | ⟨g, cap, cur, h0, _⟩
  ·omega
  ·exact ⟨_, _, h0⟩
 obtain ⟨A2, c2, rfl⟩ := hv
 exact ⟨A2, c2, w', hrun, by rw [ON, List.map_append]; exact h2, (Below.refl base w).grown h3 hbase fun k hk => (World.ownsRow.lt hown k hk).1⟩
theorem wpList_appendM {P : Program} (w : World) {ops : Array Oper} {rest : List Oper} {o : Oper} {a : Act} {Q : Exit → Act → World → Prop} (hgd : o.guard = none) (s x : Operand) (t : TypeId)
  (ho : o.op = .call { callee := .builtin .append, args := #[s, x], argTypes := #[t, t] })
  (base : Nat) (e : TypeId) (k : IntKind) (bytes : Nat) (ht : P.underlying t = some (.slice e)) (hinfo : (P.info? e).map (fun i => (i.zero, i.size, i.bytes)) = some (some (.int k 0), 1, bytes))
  (A : Option Addr) (n c : Nat) (l : List Nat) (hs : a.eval s = .slice A n c) (hown : ON w base e k A n c l)
  (g : Nat) (t' : TypeId) (m : Nat) (y : List Nat) (hm : y.length = m) (hx : a.eval x = .slice (some ⟨g, 0, none⟩) m m) (hr : Blk w g t' (y.map (ival k)).toArray) (hm0 : 0 < m)
  (h63 : n + m ≤ maxLen) (hsz : (n + m) * bytes ≤ 140737488355328) (hbase : base ≤ w.heap.size)
  (h : ∀ A2 c2 w', ON w' base e k A2 (n + m) c2 (l ++ y) → Below base w w' → wpList P ops Q rest (a.put o.dst (.slice A2 (n + m) c2)) w') : wpList P ops Q (o :: rest) a w := by
 refine wpList_plain hgd fun K hK => ?_
 obtain ⟨A2, c2, w', hrun, h2, h3⟩ := run_appendM (P := P) w base t o.type e k bytes ht hinfo A n c l hown g t' m y hm hr hm0 h63 hsz hbase
 unfold Oper.wp execOp
 simp only [ho, resolve, invoke, builtin, Sem.run_bind, Sem.run_pure, Result.andThen_ok, List.map_toArray, List.map_cons, List.map_nil, hs, hx, hrun]
 exact hK _ _ (h A2 c2 w' h2 h3)
theorem ON.of_blk {w : World} {base g : Nat} {e : TypeId} {k : IntKind} {l : List Nat} (h : Blk w g e (l.map (ival k)).toArray) (hb : base ≤ g) (hm : l.length ≤ maxLen) : ON w base e k (some ⟨g, 0, none⟩) l.length l.length l :=
 ⟨by simp, .inr ⟨g, l.length, (l.map (ival k)).toArray, rfl, hb, h, Nat.le_refl _, hm, by simp, by simp [List.take_of_length_le]⟩⟩
theorem own_lt_of {w : World} {base : Nat} {e : TypeId} {z n c : Nat} {A : Option Addr} {cs : List Value} (h : w.ownsRow base e z (.slice A n c) n cs) {g : Nat} (hg : own A = some g) : base ≤ g ∧ g < w.heap.size := by
 rcases h.2 with ⟨hv, _⟩ | ⟨g', cap, cur, hv, hb, hh, _⟩
 ·injection hv with e1 _ _
  subst e1
  cases hg
 ·injection hv with e1 _ _
  subst e1
  have e3 : g' = g := Option.some.inj hg
  subst e3
  refine ⟨hb, ?_⟩
  rcases Nat.lt_or_ge g' w.heap.size with h1 | h1
  ·exact h1
  ·rw [Array.getElem?_eq_none h1] at hh; cases hh
theorem ZO.in {w : World} {base : Nat} {e : TypeId} {z : Nat} {A : Option Addr} {n c : Nat} {l : List (Array Value)} (h : ZO w base e z A n c l) {g : Nat} (hg : own A = some g) : base ≤ g ∧ g < w.heap.size := own_lt_of h.1 hg
theorem ZO.ne {w : World} {base : Nat} {e : TypeId} {z : Nat} {A : Option Addr} {n c : Nat} {l : List (Array Value)} (h : ZO w base e z A n c l) {g : Nat} (hg : g < base ∨ w.heap.size ≤ g) : own A ≠ some g := fun he => by
 have := h.in he
 omega
theorem loads_lt {l : List Sg} (ok : ∀ s ∈ l, s.Ok) : ∀ x ∈ loads l, x.1 < 18446744073709551616 ∧ x.2 < 18446744073709551616 := fun x hx => by
 obtain ⟨s, hs, _, rfl⟩ := mem_loads hx
 exact ⟨(ok s hs).vaddr, (ok s hs).memsz⟩
theorem RB.conv {w : World} {B : Nat} {A : Option Addr} {n c : Nat} {l : List UInt8} (h : RB w B A n c l) (hB : B ≤ w.heap.size) :
  ∀ W, Grow w W → (convert 44 9 (.slice A n c)).run Try.prog W = .ok (.string ⟨l.toArray⟩) W := fun _ hk =>
 (h.belowAt hk hB).str _ _ _ Try.underlying44 Try.underlying5 Try.underlying9
def GotN (l : Bs) (off : Nat) (w : World) (e : Ending) (w' : World) : Prop :=
 e = .returned (.tuple #[.string (bstr ((nameAt l off).getD [])), .bool (nameAt l off).isSome]) ∧ w = w'
theorem gotN_none {l : Bs} {off : Nat} {w : World} (h : nameAt l off = none) : GotN l off w (.returned (.tuple #[.string { data := #[] }, .bool false])) w := by
 unfold GotN; rw [h]; exact ⟨rfl, rfl⟩
theorem gotN_some {l s : Bs} {off : Nat} {w : World} (h : nameAt l off = some s) : GotN l off w (.returned (.tuple #[.string ⟨s.toArray⟩, .bool true])) w := by
 unfold GotN; rw [h]; exact ⟨rfl, rfl⟩
theorem nameAt_far {l : Bs} {off : Nat} (h : l.length ≤ off) : nameAt l off = none := by unfold nameAt; rw [List.drop_of_length_le h]; rfl
theorem Md.tab_at (m : Md) (k : Nat) (h : m.str = (k : Int) + 1) (hk : k < m.secs.length) : m.tab = m.secs[k] := by
 unfold Md.tab
 rw [h]
 simp [List.getD_eq_getElem?_getD, hk]
def But (g : Nat) (w W : World) : Prop := ∀ p : Addr, p.block ≠ g → p.block < w.heap.size → W.cell? p = w.cell? p
theorem But.refl (g : Nat) (w : World) : But g w w := fun _ _ _ => rfl
section
variable {P : Program} {ops : Array Oper} {Q : Exit → Act → World → Prop} {S : World → Prop} {R : Act → World → Prop}
end
def Err (w : World) (e : Value) (c p : Nat) : Prop :=
 (c = 0 ∧ p = 0 ∧ e = .nilIface) ∨ (0 < c ∧ ∃ b, e = .iface 129 (.pointer (some ⟨b, 0, none⟩)) ∧ b < w.heap.size ∧ w.cell? ⟨b, 0, none⟩ = some (.int .i64 p) ∧ w.cell? ⟨b, 1, none⟩ = some (.int .i64 c))
section
variable (b off c : Nat) (l : List UInt8) (w : World)
end
theorem Err.box (w : World) (c p : Nat) (t : TypeId) (h : 0 < c) : Err (w.alloc (.cells #[.int .i64 (p : Int), .int .i64 (c : Int)] t)) (.iface 129 (.pointer (some ⟨w.heap.size, 0, none⟩))) c p :=
 .inr ⟨h, w.heap.size, rfl, by simp, by simp, by simp⟩
theorem shift_any (i n : Nat) (big : Bool) (w : World) (hi : i < n) (hn : n ≤ 8) : Calls Try.prog 87 #[.int .i64 i, .int .i64 n, .bool big] w fun e w' => e = .returned (.int .u64 (8 * (rank i n big : Nat) : Int)) ∧ w = w' := by
 cases big
 ·go_enter Try.func87, Try.ntmps87
  go_wp2
  go_ret
  exact ⟨ret_int (by simp [rank]), rfl⟩
 ·go_enter Try.func87, Try.ntmps87
  go_wp2
  go_ret
  exact ⟨ret_int (by simp [rank]; omega), rfl⟩
theorem quietL {P : Program} {f : FuncId} {args : Array Value} {w : World} {v : Value}
  (h : Calls P f args w fun e w' => e = .returned v ∧ w = w') : Calls P f args w fun e w' => e = .returned v ∧ w' = w :=
 h.mono fun _ _ hh => ⟨hh.1, hh.2.symm⟩
theorem shl_lt (u r : Nat) (hu : u ≤ 255) (hr : r < 8) : u * 2 ^ (8 * r) < 18446744073709551616 := by
 have h1 : u * 2 ^ (8 * r) ≤ 255 * 2 ^ (8 * r) := Nat.mul_le_mul_right _ hu
 have h2 : 2 ^ (8 * r) ≤ 2 ^ 56 := Nat.pow_le_pow_right (by omega) (by omega)
 omega
theorem shl_fact (u r : Nat) (hu : u ≤ 255) (hr : r < 8) : Op.shift .shl .u64 (u : Int) .u64 (8 * (r : Nat) : Int) = pure (.int .u64 ((u * 2 ^ (8 * r) : Nat) : Int)) := by
 rw [shift_shl_any _ _ _ _ (by omega), show min ((8 * (r : Nat) : Int)).toNat IntKind.u64.bits = 8 * r by simp [IntKind.bits]; omega, IntKind.wrap_u64]
 congr 2
 have h := shl_lt u r hu hr
 have e : (u : Int) * 2 ^ (8 * r) = ((u * 2 ^ (8 * r) : Nat) : Int) := by simp
 rw [e]
 omega
set_option maxHeartbeats 400000 in
theorem get_yes (b off c : Nat) (l : List UInt8) (p n : Nat) (big : Bool) (w : World) (hw : wid n = true) (hp : p + n ≤ l.length) (hl : l.length ≤ c) (hc : c ≤ maxLen)
  (hcell : ∀ j (h : j < l.length), w.cell? ⟨b, off + j, none⟩ = some (.int .u8 (l[j].toNat : Int))) :
  Calls Try.prog 70 #[.slice (some ⟨b, off, none⟩) l.length c, .int .u64 p, .int .i64 n, .bool big] w fun e w' =>
   e = .returned (.tuple #[.int .u64 (getB ((l.drop p).take n) big : Nat), .bool true]) ∧ ∃ m, w' = w.drewN m := by
 unfold maxLen at hc
 have hn8 : n ≤ 8 := by have := wid_cases hw; omega
 obtain ⟨q, hq⟩ : ∃ q, q = (l.drop p).take n := ⟨_, rfl⟩
 have hql : q.length = n := by rw [hq]; simp; omega
 have hqc : ∀ j (h : j < q.length), w.cell? ⟨b, off + (p + j), none⟩ = some (.int .u8 (q[j].toNat : Int)) := by
  intro j h
  rw [hcell (p + j) (by omega)]
  simp [hq]
 rw [← hq]
 have H := hid hw
 have HC := hid hqc
 have HL := hid hql
 have HT := hid (show wthn p n l.length = true from decide_eq_true (by omega))
 clear hw hcell hqc hql hq
 go_enter Try.func70, Try.ntmps70
 go_wp2_with (first
  | (go_at_call 86; refine (isWidth_any _ _).mono ?_; rintro e w' ⟨rfl, rfl⟩; rw [H.out])
  | (go_at_call 57; refine (within_any _ _ _ _ (by omega) (by omega) (by omega)).mono ?_; rintro e w' ⟨rfl, rfl⟩; rw [HT.out]))
 go_loopw [10, 26] (fun v i wr => ∃ k : Nat, k ≤ n ∧ i = .int .i64 k ∧ v = .int .u64 (part q big k : Nat) ∧ ∃ m, wr = w.drewN m) (fun _ i _ => n - (intOf i).toNat)
 case atStart => exact ⟨0, Nat.zero_le _, rfl, by rw [part_zero]; rfl, 0, rfl⟩
 case round =>
  obtain ⟨k, hk, rfl, rfl, hm⟩ := hrel
  have HM := hid hm
  have hcw : ∀ a, wr.cell? a = w.cell? a := by obtain ⟨m, rfl⟩ := hm; intro a; rfl
  clear hm
  by_cases hlt : k < n
  ·have hkq : k < q.length := by rw [HL.out]; exact hlt
   obtain ⟨u, hu⟩ : ∃ u : UInt8, u = q[k] := ⟨_, rfl⟩
   have hcl : wr.cell? ⟨b, off + (p + k), none⟩ = some (.int .u8 u.toNat) := by rw [hcw, hu]; exact HC.out k hkq
   have HS := hid (part_succ q big k hkq)
   rw [← hu, HL.out] at HS
   have hu8 : u.toNat ≤ 255 := by have := u.toNat_lt; omega
   clear hu hkq hcw
   go_wp2_with fail
   have z1 : IntKind.u64.wrap (k : Int) = (k : Int) := by rw [IntKind.wrap_u64]; omega
   have z2 : IntKind.u64.wrap ((p : Int) + (k : Int)) = (p : Int) + (k : Int) := by rw [IntKind.wrap_u64]; omega
   have z6 : IntKind.u64.wrap (u.toNat : Int) = (u.toNat : Int) := by rw [IntKind.wrap_u64]; omega
   obtain ⟨x, hx⟩ : ∃ x, x = u.toNat * 2 ^ (8 * rank k n big) := ⟨_, rfl⟩
   have z7 : Op.shift .shl .u64 (u.toNat : Int) .u64 (8 * (rank k n big : Nat) : Int) = pure (.int .u64 (x : Int)) := by rw [hx]; exact shl_fact u.toNat (rank k n big) (by omega) (by have := rank_lt k n big hlt; omega)
   rw [← hx] at HS
   have h1 : part q big k < 18446744073709551616 := Nat.lt_of_lt_of_le (part_lt q big k (by rw [HL.out]; exact hk)) (by rw [HL.out]; exact (Nat.pow_le_pow_right (by omega) hn8 : 256 ^ n ≤ 256 ^ 8))
   have h2 : x < 18446744073709551616 := by rw [hx]; exact shl_lt u.toNat (rank k n big) (by omega) (by have := rank_lt k n big hlt; omega)
   clear hx
   have z3 : (0 : Int) ≤ (p : Int) + (k : Int) := by omega
   have z4 : ((p : Int) + (k : Int)).toNat = p + k := by omega
   have z5 : (p : Int) + (k : Int) < (l.length : Int) := by omega
   go_quiet ((go_at_call 87; exact Calls.quiet_of_same (quietL (shift_any k n big _ hlt hn8))))
   clear z1 z2 z3 z4 z5 z6 z7
   rw [u64_or_nat _ _ h1 h2, ← HS.out]
   clear h1 h2
   go_wp2
   go_roundw
   case rel => exact ⟨k + 1, by omega, by go_num, rfl, by obtain ⟨m, hm⟩ := HM.out; exact ⟨m + nq, by rw [hm, World.drewN_drewN]⟩⟩
   case measure => simp [intOf]; omega
  ·go_wp2
   go_ret2
   have e : k = q.length := by rw [HL.out]; omega
   exact ⟨by rw [e, part_all]; rfl, HM.out⟩
def gotB (l : List UInt8) (p n : Int) : Bool := wid n && wthn p n l.length
def gotV (l : List UInt8) (p n : Int) (big : Bool) : Nat := if gotB l p n then getB ((l.drop p.toNat).take n.toNat) big else 0
theorem get_no (A : Option Addr) (len c : Nat) (p n : Int) (big : Bool) (w : World) (hl : len ≤ c) (hc : c ≤ maxLen) (hp : 0 ≤ p) (h : wid n = false ∨ (wid n = true ∧ wthn p n len = false)) :
  Calls Try.prog 70 #[.slice A len c, .int .u64 p, .int .i64 n, .bool big] w fun e w' =>
   e = .returned (.tuple #[.int .u64 0, .bool false]) ∧ w = w' := by
 unfold maxLen at hc
 rcases h with h | ⟨h, ht⟩
 ·have H := hid h
  clear h
  go_enter Try.func70, Try.ntmps70
  go_wp2_with (go_at_call 86; refine (isWidth_any _ _).mono ?_; rintro e w' ⟨rfl, rfl⟩; rw [H.out])
  go_ret2
  exact ⟨rfl, rfl⟩
 ·obtain ⟨N, rfl⟩ : ∃ N : Nat, n = N := ⟨n.toNat, by have := wid_cases h; omega⟩
  have hn8 : N ≤ 8 := by have := wid_cases h; omega
  have H := hid h
  have HT := hid ht
  clear h ht
  go_enter Try.func70, Try.ntmps70
  go_wp2_with (first
   | (go_at_call 86; refine (isWidth_any _ _).mono ?_; rintro e w' ⟨rfl, rfl⟩; rw [H.out])
   | (go_at_call 57; refine (within_any _ _ _ _ (by omega) (by omega) (by omega)).mono ?_; rintro e w' ⟨rfl, rfl⟩; rw [HT.out]))
  go_ret2
  exact ⟨rfl, rfl⟩
theorem get_any (A : Option Addr) (len c : Nat) (l : List UInt8) (B : Nat) (p n : Int) (big : Bool) (w : World) (h : RB w B A len c l) (hp : 0 ≤ p) :
  Calls Try.prog 70 #[.slice A len c, .int .u64 p, .int .i64 n, .bool big] w fun e w' =>
   e = .returned (.tuple #[.int .u64 (gotV l p n big : Nat), .bool (gotB l p n)]) ∧ ∃ m, w' = w.drewN m := by
 have hl := h.len
 cases hg : gotB l p n
 ·have e : gotV l p n big = 0 := by simp [gotV, hg]
  rw [e]
  refine (get_no A len c p n big w h.cap h.max hp ?_).mono fun e w' ⟨h1, h2⟩ => ⟨h1, 0, h2.symm⟩
  rw [hl]
  cases hw : wid n
  ·exact .inl rfl
  ·exact .inr ⟨rfl, by simpa [gotB, hw] using hg⟩
 ·have hw : wid n = true ∧ wthn p n l.length = true := by simpa [gotB] using hg
  obtain ⟨N, rfl⟩ : ∃ N : Nat, n = N := ⟨n.toNat, by have := wid_cases hw.1; omega⟩
  obtain ⟨K, rfl⟩ : ∃ N : Nat, p = N := ⟨p.toNat, by omega⟩
  have hN := wid_cases hw.1
  have hpn := of_decide_eq_true hw.2
  obtain ⟨b, off, rfl, _, hcell⟩ := h.pos (by omega)
  have e : gotV l K N big = getB ((l.drop K).take N) big := by simp [gotV, hg]
  rw [e, hl]
  exact get_yes b off c l K N big w hw.1 (by omega) (by have := h.cap; omega) h.max hcell
end Go.Proofs.Ytfpihkbpelbcbaa
