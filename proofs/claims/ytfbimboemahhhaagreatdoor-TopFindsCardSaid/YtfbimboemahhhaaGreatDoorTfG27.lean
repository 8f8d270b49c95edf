/-
  Several texts in one: What was written is read, field by field, whatever stands behind it; The contracts of file; copy of bytes into a block of the call's own; and what of a file's writing stays.
-/
import Derived.Test.YtfbimboemahhhaaGreatDoorTfG26
import Derived.Test.YtfbimboemahhhaaGreatDoorTfG22
import Derived.Test.YtfbimboemahhhaaGreatDoorTfG14
import Derived.Test.YtfbimboemahhhaaGreatDoorTfG21
namespace Go.Proofs.YtfbimboemahhhaaGreatDoor
open Go.Lib (hid)
open Go.RowKit
set_option linter.unusedVariables false
theorem split_at {l x : List UInt8} {p : Nat} (h : (l.drop p).take x.length = x) (hl : p + x.length ≤ l.length) : l = l.take p ++ x ++ l.drop (p + x.length) ∧ (l.take p).length = p := by
 refine ⟨?_, by rw [List.length_take]; omega⟩
 conv => lhs; rw [← List.take_append_drop p l, ← List.take_append_drop x.length (l.drop p)]
 rw [h, List.drop_drop, List.append_assoc]
theorem read_more {L r x : List UInt8} {p : Nat} (h : (L.drop p).take x.length = x) (hl : p + x.length ≤ L.length) : ((L ++ r).drop p).take x.length = x := by
 rw [List.drop_append_of_le_length (by omega), List.take_append_of_le_length (by rw [List.length_drop]; omega), h]
structure Wrote (m : Md) (l : List UInt8) : Prop where
 good : Good m
 len : m.eT ≤ l.length
 max : l.length ≤ 65536
 read : ∀ p x, Stg m m.segs.length m.segs.length m.secs.length m.secs.length p x → p + x.length ≤ m.eT → (l.drop p).take x.length = x
theorem wrote_of {m : Md} (h : Good m) {L r : List UInt8} (hf : FileIs m L) (hl : (L ++ r).length ≤ 65536) : Wrote m (L ++ r) :=
 ⟨h, by rw [List.length_append, hf.2]; omega, hl, fun p x hs hx => read_more (hf.1.read hs) (by rw [hf.2]; exact hx)⟩
section
variable {m : Md} {l : List UInt8}
theorem Wrote.head (w : Wrote m l) : ∃ r, l = m.hd.L ++ r := by
 have ho := w.good.planned.order
 have hh : m.hd.L.length = hSize m.wide := m.hd.lenL
 have h1 := w.read 0 m.hd.L (Stg.head m _ _ _ _) (by omega)
 have h2 := (split_at h1 (by have := w.len; omega)).1
 rw [List.take_zero, List.nil_append] at h2
 exact ⟨_, h2⟩
theorem Wrote.hdOf (w : Wrote m l) : hdOf l = m.hd := by
 obtain ⟨r, e⟩ := w.head
 rw [e]
 exact hdOf_put _ w.good.hdFits r
theorem Wrote.told (w : Wrote m l) : HTold l 0 0 (Go.Proofs.YtfbimboemahhhaaGreatDoor.hdOf l).V := by
 rw [w.hdOf]
 obtain ⟨r, e⟩ := w.head
 rw [e]
 exact put_told _ w.good.hdFits r
theorem Wrote.wide (w : Wrote m l) : lWide l = m.wide := by
 have := congrArg Hd.wide w.hdOf
 exact this
theorem Wrote.big (w : Wrote m l) : lBig l = m.big := by
 have := congrArg Hd.big w.hdOf
 exact this
theorem Wrote.nP (w : Wrote m l) : nP l = m.segs.length := by
 have h1 := w.good.n1
 unfold Go.Proofs.YtfbimboemahhhaaGreatDoor.nP
 rw [w.hdOf, if_neg (by show ¬ m.segs.length = 65535; omega)]
 rfl
theorem Wrote.nI (w : Wrote m l) : nI l = m.str.toNat := by
 have h1 := w.good.str
 have h2 := w.good.n2
 unfold Go.Proofs.YtfbimboemahhhaaGreatDoor.nI
 rw [w.hdOf, if_neg (by show ¬ m.str.toNat = 65535; omega)]
 rfl
theorem shoff_pos (h : Good m) (h0 : 0 < m.secs.length) : 0 < m.shoff := by
 have a := shoff_is h h0
 have b := h.planned.order
 have c : 52 ≤ hSize m.wide := by cases m.wide <;> decide
 omega
theorem shoff_zero (h0 : m.secs.length = 0) : m.shoff = 0 := by
 unfold Md.shoff
 rw [if_neg (by omega)]
theorem Wrote.nS (w : Wrote m l) : nS l = if 0 < m.secs.length then m.secs.length + 1 else 0 := by
 unfold Go.Proofs.YtfbimboemahhhaaGreatDoor.nS
 rw [w.hdOf]
 show (if (if 0 < m.secs.length then m.secs.length + 1 else 0) = 0 then (fst_ l).sz else (if 0 < m.secs.length then m.secs.length + 1 else 0)) = _
 by_cases h0 : 0 < m.secs.length
 ·rw [if_pos h0, if_neg (by omega)]
 ·rw [if_neg h0, if_pos rfl]
  unfold fst_
  rw [w.hdOf, if_pos (show m.hd.sh = 0 from shoff_zero (by omega))]
  rfl
theorem Wrote.nS1 (w : Wrote m l) : Go.Proofs.YtfbimboemahhhaaGreatDoor.nS l - 1 = m.secs.length := by
 rw [w.nS]
 split <;> omega
theorem Wrote.pAt (w : Wrote m l) (i : Nat) : pAt l i = m.phoff + i * pSize m.wide := by
 unfold Go.Proofs.YtfbimboemahhhaaGreatDoor.pAt
 rw [w.hdOf, w.wide]
 rfl
theorem Wrote.sAt (w : Wrote m l) (i : Nat) : sAt l i = m.shoff + i * sSize m.wide := by
 unfold Go.Proofs.YtfbimboemahhhaaGreatDoor.sAt
 rw [w.hdOf, w.wide]
 rfl
theorem Wrote.pgs (w : Wrote m l) {i : Nat} (hi : i < m.segs.length) (hf : rowF ((m.pg i).Q m.wide) = true) : pgs l i = m.pg i := by
 have hz := w.good.z1 hi
 have ho := w.good.planned.order
 have h1 := w.read (m.phoff + i * pSize m.wide) ((m.pg i).L m.wide m.big) (.inr (.inl ⟨i, hi, rfl, rfl⟩)) (by omega)
 obtain ⟨h2, h3⟩ := split_at h1 (by have := w.len; omega)
 unfold Go.Proofs.YtfbimboemahhhaaGreatDoor.pgs
 rw [w.pAt, w.wide, w.big]
 have := pgOf_put (m.pg i) m.wide m.big hf (l.take (m.phoff + i * pSize m.wide)) (l.drop (m.phoff + i * pSize m.wide + ((m.pg i).L m.wide m.big).length))
 rw [← h2, h3] at this
 exact this
theorem Wrote.scs (w : Wrote m l) {i : Nat} (hi : i < m.secs.length) (hf : rowF ((m.sc i).Q m.wide) = true) : scs l (i + 1) = m.sc i := by
 have hz := w.good.z4 hi
 have h1 := w.read (m.shoff + (i + 1) * sSize m.wide) ((m.sc i).L m.wide m.big) (.inr (.inr (.inr (.inr ⟨i, hi, rfl, rfl⟩)))) (by omega)
 obtain ⟨h2, h3⟩ := split_at h1 (by have := w.len; omega)
 unfold Go.Proofs.YtfbimboemahhhaaGreatDoor.scs
 rw [w.sAt, w.wide, w.big]
 have := scOf_put (m.sc i) m.wide m.big hf (l.take (m.shoff + (i + 1) * sSize m.wide)) (l.drop (m.shoff + (i + 1) * sSize m.wide + ((m.sc i).L m.wide m.big).length))
 rw [← h2, h3] at this
 exact this
theorem in_yes {len p n : Nat} (h : p + n ≤ len) : inB len p n = true := by unfold inB; simp [h]
theorem Wrote.cnt (w : Wrote m l) : cntE l = (0, 0) := by
 have g := w.good
 have ho := g.planned.order
 have hl := w.len
 have h1 := g.n1
 have h2 := g.n2
 have h3 := g.str
 have hs : scE l = (0, 0) := by
  unfold scE
  rw [w.hdOf, w.nS, w.wide]
  by_cases h0 : 0 < m.secs.length
  ·have a := shoff_is g h0
   have b := shoff_pos g h0
   rw [if_pos h0, if_neg (show ¬ m.hd.sh = 0 by show ¬ m.shoff = 0; omega), if_neg (by omega), if_pos]
   exact in_yes (by rw [Nat.mul_comm]; show m.shoff + _ ≤ _; omega)
  ·rw [if_neg h0, if_pos (show m.hd.sh = 0 from shoff_zero (by omega)), if_neg (by omega)]
 have hp : pgE l = (0, 0) := by
  unfold pgE
  rw [w.hdOf, w.nP, w.wide, if_neg (by rintro ⟨a, _⟩; have : m.segs.length = 65535 := a; omega), if_neg (by omega), if_pos]
  by_cases h0 : 0 < m.segs.length
  ·have a := phoff_is g h0
   exact in_yes (by rw [Nat.mul_comm]; show m.phoff + _ ≤ _; omega)
  ·unfold inB
   rw [show m.segs.length = 0 by omega]
   simp
 unfold cntE
 rw [hs, hp, w.hdOf, w.wide, if_neg, if_neg (by simp), if_neg (by simp), if_neg]
 ·rintro ⟨a, _⟩
  have : m.str.toNat = 65535 := a
  omega
 ·rintro ⟨a, b⟩
  have a' : m.shoff ≠ 0 := a
  have h0 : 0 < m.secs.length := by
   rcases Nat.eq_zero_or_pos m.secs.length with h | h
   ·exact absurd (shoff_zero h) a'
   ·exact h
  have c := shoff_is g h0
  have d : sSize m.wide ≤ sSize m.wide * (m.secs.length + 1) := Nat.le_mul_of_pos_right _ (by omega)
  apply b
  show m.shoff + _ ≤ _
  omega
theorem Wrote.ownS (w : Wrote m l) {i : Nat} (hi : i < m.segs.length) (hn : (m.sg i).pl.inn = -1) : ownPl l (m.P2 i) (m.sg i).pl.size = (m.sg i).pl := by
 obtain ⟨h1, h2⟩ := may_own_len (w.good.segMay hi) hn
 have a := w.good.seg_at hi
 have h3 := w.read (m.P2 i) (m.sg i).pl.own (.inr (.inr (.inl ⟨i, hi, rfl, rfl⟩))) (by omega)
 unfold ownPl
 generalize (m.sg i).pl = p at *
 obtain ⟨inn, off, size, own⟩ := p
 simp only [] at *
 subst hn; subst h1
 split
 ·rename_i h0
  subst h0
  rw [List.eq_nil_of_length_eq_zero h2]
 ·rw [← h2, h3]
theorem Wrote.ownT (w : Wrote m l) {i : Nat} (hi : i < m.secs.length) (hn : (m.se i).pl.inn = -1) : ownPl l (m.P3 i) (m.se i).pl.size = (m.se i).pl := by
 obtain ⟨h1, h2⟩ := may_own_len (w.good.secMay hi).1 hn
 have a := w.good.sec_at hi
 have h3 := w.read (m.P3 i) (m.se i).pl.own (.inr (.inr (.inr (.inl ⟨i, hi, rfl, rfl⟩)))) (by omega)
 unfold ownPl
 generalize (m.se i).pl = p at *
 obtain ⟨inn, off, size, own⟩ := p
 simp only [] at *
 subst hn; subst h1
 split
 ·rename_i h0
  subst h0
  rw [List.eq_nil_of_length_eq_zero h2]
 ·rw [← h2, h3]
theorem fstP_none {off n : Nat} : ∀ {i k : Nat}, (∀ j, i ≤ j → j < i + k → pHas l off n j = false) → fstP l off n i k = none
 | i, 0, _ => rfl
 | i, k + 1, h => by
  rw [fstP, if_neg (by rw [h i (Nat.le_refl _) (by omega)]; simp)]
  exact fstP_none fun j h1 h2 => h j (by omega) (by omega)
theorem fstP_some {off n : Nat} : ∀ {i k q : Nat}, i ≤ q → q < i + k → (∀ j, i ≤ j → j < q → pHas l off n j = false) → pHas l off n q = true → fstP l off n i k = some q
 | i, 0, q, h1, h2, _, _ => by omega
 | i, k + 1, q, h1, h2, h3, h4 => by
  rw [fstP]
  by_cases e : i = q
  ·subst e
   rw [if_pos h4]
  ·rw [if_neg (by rw [h3 i (Nat.le_refl _) (by omega)]; simp)]
   exact fstP_some (by omega) (by omega) (fun j a b => h3 j (by omega) b) h4
theorem Wrote.has (w : Wrote m l) (fits : ∀ i, i < m.segs.length → rowF ((m.pg i).Q m.wide) = true) {j : Nat} (hj : j < m.segs.length) (off n : Nat) : pHas l off n j = (decide ((m.sg j).typ = 1) && (decide (m.P2 j ≤ off) && decide (off - m.P2 j + n ≤ (m.sg j).pl.size))) := by
 unfold pHas
 rw [w.pgs hj (fits j hj)]
 rfl
theorem Wrote.beyond (w : Wrote m l) (fits : ∀ i, i < m.segs.length → rowF ((m.pg i).Q m.wide) = true) {off n : Nat} (h0 : 0 < n) (ho : m.eL m.segs.length ≤ off) : fstP l off n 0 (Go.Proofs.YtfbimboemahhhaaGreatDoor.nP l) = none := by
 rw [w.nP]
 refine fstP_none fun j _ hj => ?_
 have hj : j < m.segs.length := by omega
 rw [w.has fits hj]
 by_cases ht : (m.sg j).typ = 1
 ·have a := w.good.planned.load_at hj ht
  have b := w.good.planned.eL_in (k := j + 1) hj
  have : decide (off - m.P2 j + n ≤ (m.sg j).pl.size) = false := decide_eq_false (by omega)
  rw [this, Bool.and_false, Bool.and_false]
 ·rw [decide_eq_false ht, Bool.false_and]
theorem Wrote.within (w : Wrote m l) (fits : ∀ i, i < m.segs.length → rowF ((m.pg i).Q m.wide) = true) {k off n : Nat} (hk : k < m.segs.length) (ht : (m.sg k).typ = 1) (h0 : 0 < n) (hn : off + n ≤ (m.sg k).pl.size) : fstP l (m.P2 k + off) n 0 (Go.Proofs.YtfbimboemahhhaaGreatDoor.nP l) = some k := by
 rw [w.nP]
 have a := w.good.planned.load_at hk ht
 refine fstP_some (Nat.zero_le _) (by omega) (fun j _ hj => ?_) ?_
 ·have hj' : j < m.segs.length := by omega
  rw [w.has fits hj']
  by_cases hjt : (m.sg j).typ = 1
  ·have b := w.good.planned.load_at hj' hjt
   have c : m.eL (j + 1) ≤ m.eL k := mono_of (m.eL_step w.good.planned.ok.n1) (by omega)
   have : decide (m.P2 k + off - m.P2 j + n ≤ (m.sg j).pl.size) = false := decide_eq_false (by omega)
   rw [this, Bool.and_false, Bool.and_false]
  ·rw [decide_eq_false hjt, Bool.false_and]
 ·rw [w.has fits hk, decide_eq_true ht, decide_eq_true (by omega), decide_eq_true (by omega)]
  rfl
theorem Wrote.findS (w : Wrote m l) (fits : ∀ i, i < m.segs.length → rowF ((m.pg i).Q m.wide) = true) {i : Nat} (hi : i < m.segs.length) (ht : (m.sg i).typ ≠ 1) : findPl l (m.P2 i) (m.sg i).pl.size = (m.sg i).pl := by
 by_cases hn : (m.sg i).pl.inn = -1
 ·unfold findPl
  split
  ·exact w.ownS hi hn
  ·rename_i h0
   have a := w.good.planned.other_at hi ht hn
   have c : m.eO 0 ≤ m.eO i := mono_of (m.eO_step w.good.planned.ok.n1) (by omega)
   have d : m.eO 0 = m.eL m.segs.length := rfl
   rw [w.beyond fits (by omega) (by omega)]
   exact w.ownS hi hn
 ·obtain ⟨q1, q2, k, q3, q4, q5, q6⟩ := may_in_is (w.good.segMay hi) hn
  obtain ⟨_, k', r1, r2, r3, r4⟩ := w.good.planned.seg_in hi hn
  have e : k = k' := by omega
  subst e
  have c := (w.good.load_len q4 q5).2
  unfold findPl
  rw [if_neg (by omega), r3, w.within fits q4 q5 q2 (by omega)]
  show (⟨(k : Int), m.P2 k + (m.sg i).pl.off - (Go.Proofs.YtfbimboemahhhaaGreatDoor.pgs l k).off, _, []⟩ : Pl) = _
  rw [w.pgs q4 (fits k q4)]
  show (⟨(k : Int), m.P2 k + (m.sg i).pl.off - m.P2 k, _, []⟩ : Pl) = _
  rw [Nat.add_sub_cancel_left, ← q3, ← q1]
theorem Wrote.findT (w : Wrote m l) (fits : ∀ i, i < m.segs.length → rowF ((m.pg i).Q m.wide) = true) {i : Nat} (hi : i < m.secs.length) : findPl l (m.P3 i) (m.se i).pl.size = (m.se i).pl := by
 by_cases hn : (m.se i).pl.inn = -1
 ·unfold findPl
  split
  ·exact w.ownT hi hn
  ·rename_i h0
   have ho := w.good.planned.order
   have a := w.good.planned.sec_at hi hn
   have c : m.eS 0 ≤ m.eS i := mono_of (m.eS_step w.good.planned.ok.n1) (by omega)
   rw [w.beyond fits (by omega) (by omega)]
   exact w.ownT hi hn
 ·obtain ⟨q1, q2, k, q3, q4, q5, q6⟩ := may_in_is (w.good.secMay hi).1 hn
  obtain ⟨k', r1, r2, r3, r4⟩ := w.good.planned.sec_in hi hn
  have e : k = k' := by omega
  subst e
  have c := (w.good.load_len q4 q5).2
  unfold findPl
  rw [if_neg (by omega), r3, w.within fits q4 q5 q2 (by omega)]
  show (⟨(k : Int), m.P2 k + (m.se i).pl.off - (Go.Proofs.YtfbimboemahhhaaGreatDoor.pgs l k).off, _, []⟩ : Pl) = _
  rw [w.pgs q4 (fits k q4)]
  show (⟨(k : Int), m.P2 k + (m.se i).pl.off - m.P2 k, _, []⟩ : Pl) = _
  rw [Nat.add_sub_cancel_left, ← q3, ← q1]
theorem Good.tab (h : Good m) (h0 : m.str ≠ 0) : (m.se (m.str.toNat - 1)).typ = 3 ∧ (m.se (m.str.toNat - 1)).pl.inn = -1 := by
 have hs := h.str
 have hc := h.chk
 unfold Md.chk at hc
 split at hc
 ·omega
 split at hc
 ·omega
 split at hc
 ·omega
 split at hc
 ·omega
 ·unfold Md.namesC at hc
  rw [if_neg (by omega), if_neg (by omega)] at hc
  split at hc
  ·rename_i hn
   unfold Md.named at hn
   rw [if_neg h0] at hn
   simp only [Bool.and_eq_true, decide_eq_true_eq] at hn
   have e : m.tab = m.se (m.str.toNat - 1) := by
    unfold Md.tab Md.se
    rw [show (m.str - 1).toNat = m.str.toNat - 1 by omega]
   rw [← e]
   exact hn.1
  ·omega
theorem Wrote.segF (w : Wrote m l) (fits : ∀ i, i < m.segs.length → rowF ((m.pg i).Q m.wide) = true) {i : Nat} (hi : i < m.segs.length) : segF l i = m.sg i := by
 unfold Go.Proofs.YtfbimboemahhhaaGreatDoor.segF
 rw [w.pgs hi (fits i hi)]
 show (⟨(m.sg i).typ, (m.sg i).flags, (m.sg i).vaddr, (m.sg i).paddr, (m.sg i).memsz, (m.sg i).align, if (m.sg i).typ = 1 then ownPl l (m.P2 i) (m.sg i).pl.size else findPl l (m.P2 i) (m.sg i).pl.size⟩ : Sg) = _
 by_cases ht : (m.sg i).typ = 1
 ·rw [if_pos ht, w.ownS hi (w.good.planned.load i hi ht)]
 ·rw [if_neg ht, w.findS fits hi ht]
theorem Wrote.secF (w : Wrote m l) (fits : ∀ i, i < m.segs.length → rowF ((m.pg i).Q m.wide) = true) (fitc : ∀ i, i < m.secs.length → rowF ((m.sc i).Q m.wide) = true) {i : Nat} (hi : i < m.secs.length) : secF l i = m.se i := by
 unfold Go.Proofs.YtfbimboemahhhaaGreatDoor.secF
 rw [w.scs hi (fitc i hi), w.nI]
 show (⟨(m.se i).name, (m.se i).typ, (m.se i).flags, (m.se i).addr, (m.se i).size, (m.se i).link, (m.se i).info, (m.se i).align, (m.se i).entsize, if (m.se i).typ = 0 ∨ (m.se i).typ = 8 then ownPl l 0 0 else if i + 1 = m.str.toNat then ownPl l (m.P3 i) (m.se i).size else findPl l (m.P3 i) (m.se i).size⟩ : Se) = _
 have hh := (w.good.secMay hi).2
 unfold Se.held at hh
 by_cases ht : (m.se i).typ = 0 ∨ (m.se i).typ = 8
 ·rw [if_pos ht] at hh ⊢
  have hn : (m.se i).pl.inn = -1 := by
   by_cases hn : (m.se i).pl.inn = -1
   ·exact hn
   ·have := (may_in_is (w.good.secMay hi).1 hn).2.1
    omega
  obtain ⟨h1, h2⟩ := may_own_len (w.good.secMay hi).1 hn
  have : ownPl l 0 0 = (m.se i).pl := by
   unfold ownPl
   rw [if_pos rfl]
   generalize (m.se i).pl = p at *
   obtain ⟨inn, off, size, own⟩ := p
   simp only [] at *
   subst hn; subst h1; subst hh
   rw [List.eq_nil_of_length_eq_zero h2]
  rw [this]
 ·rw [if_neg ht] at hh ⊢
  rw [← hh]
  by_cases hs : i + 1 = m.str.toNat
  ·have ha := w.good.str
   have hb := w.good.tab (by omega)
   rw [show m.str.toNat - 1 = i by omega] at hb
   rw [if_pos hs, w.ownT hi hb.2, hh]
  ·rw [if_neg hs, w.findT fits hi, hh]
theorem range_segs (f : Nat → Sg) (h : ∀ i, i < m.segs.length → f i = m.sg i) : (List.range m.segs.length).map f = m.segs := by
 apply List.ext_getElem
 ·simp
 ·intro i h1 h2
  rw [List.getElem_map, List.getElem_range, h i h2]
  unfold Md.sg
  rw [List.getD_eq_getElem?_getD, List.getElem?_eq_getElem h2]
  rfl
theorem range_secs (f : Nat → Se) (h : ∀ i, i < m.secs.length → f i = m.se i) : (List.range m.secs.length).map f = m.secs := by
 apply List.ext_getElem
 ·simp
 ·intro i h1 h2
  rw [List.getElem_map, List.getElem_range, h i h2]
  unfold Md.se
  rw [List.getD_eq_getElem?_getD, List.getElem?_eq_getElem h2]
  rfl
theorem Wrote.mdF (w : Wrote m l) (fits : ∀ i, i < m.segs.length → rowF ((m.pg i).Q m.wide) = true) (fitc : ∀ i, i < m.secs.length → rowF ((m.sc i).Q m.wide) = true) : mdF l = m := by
 have ho : l.getD 7 0 = UInt8.ofNat m.osabi := congrArg Hd.o w.hdOf
 have ha : l.getD 8 0 = UInt8.ofNat m.abi := congrArg Hd.a w.hdOf
 have hs := w.good.str
 unfold Go.Proofs.YtfbimboemahhhaaGreatDoor.mdF
 rw [w.wide, w.big, ho, ha, u8_of _ w.good.ok.osabi, u8_of _ w.good.ok.abi, w.nP, w.nS1, w.nI, range_segs _ (fun i hi => w.segF fits hi), range_secs _ (fun i hi => w.secF fits fitc hi), w.hdOf]
 show (⟨m.wide, m.big, m.osabi, m.abi, m.typ, m.mach, m.flags, m.entry, m.segs, m.secs, ((m.str.toNat : Nat) : Int)⟩ : Md) = m
 rw [show ((m.str.toNat : Nat) : Int) = m.str by omega]
theorem Wrote.tab0 (w : Wrote m l) (fits : ∀ i, i < m.segs.length → rowF ((m.pg i).Q m.wide) = true) (fitc : ∀ i, i < m.secs.length → rowF ((m.sc i).Q m.wide) = true) : tabE l = (0, 0) := by
 have hl := w.len
 have h1 : fstC (pBad l) (List.range (Go.Proofs.YtfbimboemahhhaaGreatDoor.nP l)) = 0 := fstC_zero.2 fun i hi => by
  rw [w.nP] at hi
  have hi := List.mem_range.1 hi
  have a := w.good.seg_at hi
  unfold pBad
  rw [w.pgs hi (fits i hi)]
  exact if_pos (in_yes (show m.P2 i + (m.sg i).pl.size ≤ _ by omega))
 have h2 : fstC (sBad l) (List.range (Go.Proofs.YtfbimboemahhhaaGreatDoor.nS l - 1)) = 0 := fstC_zero.2 fun i hi => by
  rw [w.nS1] at hi
  have hi := List.mem_range.1 hi
  have a := w.good.sec_at hi
  have hh : (m.sc i).held = (m.se i).pl.size := (w.good.secMay hi).2.symm
  unfold sBad
  rw [w.scs hi (fitc i hi), hh]
  exact if_pos (in_yes (show m.P3 i + (m.se i).pl.size ≤ _ by omega))
 unfold tabE
 rw [h1, h2]
 rfl
theorem Wrote.back (w : Wrote m l) (fits : ∀ i, i < m.segs.length → rowF ((m.pg i).Q m.wide) = true) (fitc : ∀ i, i < m.secs.length → rowF ((m.sc i).Q m.wide) = true) : PTold l 0 0 m := by
 refine .inr (.inr ⟨w.max, w.told, ?_, by rw [if_pos rfl, w.mdF fits fitc]⟩)
 unfold restE
 rw [w.cnt, w.tab0 fits fitc, w.mdF fits fitc, w.good.plan]
 rfl
end
set_option maxRecDepth 100000
theorem entry_any (b i z : Nat) (w : World) (h : b + i * z < 18446744073709551616) (hi : i < 100000) (hz : z < 1000) :
  Calls Tryz.prog 78 #[.int .u64 (b : Int), .int .i64 (i : Int), .int .i64 (z : Int)] w fun e w' => e = .returned (.int .u64 ((b + i * z : Nat) : Int)) ∧ w = w' := by
 have q1 : IntKind.u64.wrap (i : Int) = (i : Int) := by rw [IntKind.wrap_u64]; omega
 have q2 : IntKind.u64.wrap (z : Int) = (z : Int) := by rw [IntKind.wrap_u64]; omega
 have q3 : IntKind.u64.wrap ((i : Int) * (z : Int)) = ((i * z : Nat) : Int) := by
  have : (i : Int) * (z : Int) = ((i * z : Nat) : Int) := by simp
  rw [this, IntKind.wrap_u64]
  omega
 have q4 : IntKind.u64.wrap ((b : Int) + ((i * z : Nat) : Int)) = ((b + i * z : Nat) : Int) := by rw [IntKind.wrap_u64]; omega
 clear h hi hz
 generalize b + i * z = R at q4 ⊢
 generalize i * z = P at q3 q4
 go_enter Tryz.func78, Tryz.ntmps78
 go_wp2
 go_ret
 exact ⟨rfl, rfl⟩
theorem entry1_any (b k z : Nat) (w : World) (h : b + (k + 1) * z < 18446744073709551616) (hi : k + 1 < 100000) (hz : z < 1000) :
  Calls Tryz.prog 78 #[.int .u64 (b : Int), .int .i64 ((k : Int) + 1), .int .i64 (z : Int)] w fun e w' => e = .returned (.int .u64 ((b + (k + 1) * z : Nat) : Int)) ∧ w = w' := by
 have := entry_any b (k + 1) z w h hi hz
 have e : ((k + 1 : Nat) : Int) = (k : Int) + 1 := by omega
 rw [e] at this
 exact this
theorem progOf_any (s : Sg) (off : Nat) (S : Value) (w : World) :
  Calls Tryz.prog 77 #[.agg (sgC s S), .int .u64 (off : Int)] w fun e w' => e = .returned (Pg.V ⟨s.typ, s.flags, off, s.vaddr, s.paddr, s.pl.size, s.memsz, s.align⟩) ∧ Grow w w' := by
 obtain ⟨x0, x1, x2, x3, x4, x5, i, p, z, o⟩ := s
 unfold sgC
 simp only []
 go_enter Tryz.func77, Tryz.ntmps77
 go_wp2_with (refine wpList_store_row rfl 167 (.tmp 4) (.tmp 21) rfl (w.heap.size + 1) (Pg.C ⟨x0, x1, off, x2, x3, z, x4, x5⟩) rfl rfl _ _ (blk2 rfl).2.1 (by kernel_rfl) rfl (Pg.one _) ?_)
 refine bodyPost_ret (results_cell_row (cs := Pg.C ⟨x0, x1, off, x2, x3, z, x4, x5⟩) rfl _ _ (w.heap.size + 1) _ (0, 0) _ rfl ((blk2 rfl).2.1.set _) Tryz.underlying167 rfl (by kernel_rfl)) rfl ?_
 exact ⟨rfl, Grow.set (blk2 rfl).2.2 (Nat.le_succ _) _⟩
theorem sectOf_any (s : Se) (off : Nat) (S : Value) (w : World) :
  Calls Tryz.prog 81 #[.agg (seC s S), .int .u64 (off : Int)] w fun e w' => e = .returned (Sc.V ⟨s.name, s.typ, s.flags, s.addr, off, s.size, s.link, s.info, s.align, s.entsize⟩) ∧ Grow w w' := by
 obtain ⟨x0, x1, x2, x3, x4, x5, x6, x7, x8, i, p, z, o⟩ := s
 unfold seC
 simp only []
 go_enter Tryz.func81, Tryz.ntmps81
 go_wp2_with (refine wpList_store_row rfl 172 (.tmp 4) (.tmp 24) rfl (w.heap.size + 1) (Sc.C ⟨x0, x1, x2, x3, off, x4, x5, x6, x7, x8⟩) rfl rfl _ _ (blk2 rfl).2.1 (by kernel_rfl) rfl (Sc.one _) ?_)
 refine bodyPost_ret (results_cell_row (cs := Sc.C ⟨x0, x1, x2, x3, off, x4, x5, x6, x7, x8⟩) rfl _ _ (w.heap.size + 1) _ (0, 0) _ rfl ((blk2 rfl).2.1.set _) Tryz.underlying172 rfl (by kernel_rfl)) rfl ?_
 exact ⟨rfl, Grow.set (blk2 rfl).2.2 (Nat.le_succ _) _⟩
set_option maxHeartbeats 1000000 in
theorem header_any' (wide big : Bool) (o a ty ma fl en ph sh sz n1 c1 n2 c2 st : Nat) (A1 A2 : Option Addr) (S3 S4 : Value) (w : World) (h1 : n1 ≤ 16) (h2 : n2 ≤ 64) (h3 : st ≤ 64) :
  Calls Tryz.prog 75 #[.agg #[.bool wide, .bool big, .int .u8 (o : Int), .int .u8 (a : Int), .int .u16 (ty : Int), .int .u16 (ma : Int), .int .u32 (fl : Int), .int .u64 (en : Int), .slice A1 n1 c1, .slice A2 n2 c2, .int .i64 (st : Int)],
   .agg #[.int .u64 (ph : Int), .int .u64 (sh : Int), .int .u64 (sz : Int), S3, S4]] w fun e w' => e = .returned (.agg #[.bool wide, .bool big, .int .u8 (o : Int), .int .u8 (a : Int), .int .u16 (ty : Int), .int .u16 (ma : Int), .int .u64 (en : Int), .int .u64 (ph : Int), .int .u64 (sh : Int), .int .u32 (fl : Int), .int .u16 (n1 : Int), .int .u16 ((if 0 < n2 then n2 + 1 else 0 : Nat) : Int), .int .u16 (st : Int)]) ∧ Grow w w' := by
 have q1 : IntKind.u16.wrap (n1 : Int) = (n1 : Int) := by rw [IntKind.wrap_u16]; omega
 have q2 : IntKind.u16.wrap (st : Int) = (st : Int) := by rw [IntKind.wrap_u16]; omega
 have q3 : IntKind.u16.wrap ((n2 : Int) + 1) = (n2 : Int) + 1 := by rw [IntKind.wrap_u16]; omega
 clear h1 h3
 by_cases h0 : 0 < n2
 ·obtain ⟨R, hR⟩ : ∃ R, (if 0 < n2 then n2 + 1 else 0 : Nat) = R := ⟨_, rfl⟩
  rw [hR]
  rw [if_pos h0] at hR
  have HR := hid hR
  have h0' : decide (0 < (n2 : Int)) = true := decide_eq_true (by omega)
  clear hR
  go_enter Tryz.func75, Tryz.ntmps75
  go_wp2
  refine bodyPost_ret (results_cell_row rfl _ _ (w.heap.size + 1 + 1) _ _ (0, 0) _ rfl (blk4 rfl).2.2.1 Tryz.underlying110 rfl (by kernel_rfl)) rfl ?_
  exact ⟨by rw [← HR.out]; rfl, (blk4 rfl).2.2.2.2⟩
 ·rw [if_neg h0]
  have h0' : decide (0 < (n2 : Int)) = false := decide_eq_false (by omega)
  go_enter Tryz.func75, Tryz.ntmps75
  go_wp2
  refine bodyPost_ret (results_cell_row rfl _ _ (w.heap.size + 1 + 1) _ _ (0, 0) _ rfl (blk4 rfl).2.2.1 Tryz.underlying110 rfl (by kernel_rfl)) rfl ?_
  exact ⟨rfl, (blk4 rfl).2.2.2.2⟩
theorem flHeader_any (m : Md) (h : Good m) (A1 A2 : Option Addr) (n1 c1 n2 c2 : Nat) (S3 S4 : Value) (w : World) (l1 : n1 = m.segs.length) (l2 : n2 = m.secs.length) :
  Calls Tryz.prog 75 #[.agg (mdC m (.slice A1 n1 c1) (.slice A2 n2 c2)), .agg #[.int .u64 (m.phoff : Nat), .int .u64 (m.shoff : Nat), .int .u64 (m.eT : Nat), S3, S4]] w fun e w' => e = .returned m.hd.V ∧ Grow w w' := by
 have hs := h.str
 have e : m.str = ((m.str.toNat : Nat) : Int) := by omega
 have k1 := h.n1
 have k2 := h.n2
 have := header_any' m.wide m.big m.osabi m.abi m.typ m.mach m.flags m.entry m.phoff m.shoff m.eT n1 c1 n2 c2 m.str.toNat A1 A2 S3 S4 w (by omega) (by omega) (by omega)
 rw [← e] at this
 refine Calls.mono this ?_
 rintro en w' ⟨rfl, hg⟩
 refine ⟨?_, hg⟩
 unfold Hd.V Hd.C Md.hd
 simp only []
 rw [u8_of _ h.ok.osabi, u8_of _ h.ok.abi, l1, l2, ← e]
set_option linter.unusedVariables false
theorem put_nil (L : List UInt8) (p : Nat) : put L p [] = L := by
 unfold put
 simp
theorem map_put (L x : List UInt8) (p : Nat) : (put L p x).map byt = (L.map byt).take p ++ x.map byt ++ (L.map byt).drop (p + (x.map byt).length) := by
 unfold put
 simp [List.map_take, List.map_drop]
theorem run_copy_put {P : Program} (W : World) (dT sT ty elem : TypeId) (g n p : Nat) (L x : List UInt8) (A : Option Addr) (m c B : Nat) (t : TypeId)
  (hu : P.underlying dT = some (.slice elem)) (hs : (P.info? elem).map (·.size) = some 1)
  (hb : Blk W g t (L.map byt).toArray) (hn : n = L.length) (hr : RB W B A m c x) (hp : p + x.length ≤ L.length) :
  (Builtin.copy_ #[dT, sT] ty #[.slice (some (cutA ⟨g, 0, none⟩ n p)) (n - p) (n - p), .slice A m c]).run P W = .ok (.int .i64 (m : Int)) (W.setRow g ((put L p x).map byt).toArray) := by
 have hm := hr.len
 rcases A with _ | a
 ·have h0 : m = 0 := by
   rcases Nat.eq_zero_or_pos m with h0 | h0
   ·exact h0
   ·obtain ⟨_, _, e, _⟩ := hr.pos h0
    cases e
  have hx : x = [] := List.eq_nil_of_length_eq_zero (by omega)
  have hc0 : c = 0 ∨ True := .inr trivial
  subst hx
  rw [put_nil, Blk.same hb, h0]
  cases hq : P.info? elem with
  | none => simp [hq] at hs
  | some i => simp [Builtin.copy_, run_underlying hu, Builtin.lenOf, Builtin.firstCells, sizeOf, typeInfo, hq, storeCells, goInt]
 ·have hsrc : ∀ j v, (x.map byt)[j]? = some v → W.cell? (a.add j) = some v := fun j v hj => by
   have hjl : j < x.length := by have := (List.getElem?_eq_some_iff.1 hj).1; simpa using this
   obtain ⟨b, off, e, _, hc⟩ := hr.pos (by omega)
   injection e with e
   subst e
   have e2 : (⟨b, off, none⟩ : Addr).add j = ⟨b, off + j, none⟩ := by unfold Addr.add; split <;> simp_all
   rw [e2, hc j hjl]
   simp [hjl, byt] at hj
   rw [← hj]
  by_cases hpn : n = p
  ·have hx : x = [] := List.eq_nil_of_length_eq_zero (by omega)
   subst hx
   have e1 : cutA ⟨g, 0, none⟩ n p = ⟨g, 0, none⟩ := by unfold cutA; rw [if_pos hpn]
   have := run_copy_row P W dT sT ty elem g 0 (n - p) (n - p) a m c _ t [] hu hs hb (by simp at hm; simp [hm]) (fun j v hj => by simp at hj) (by simp) (fun v hv => by simp at hv)
   rw [e1, this, put_nil, hm]
   congr 1
  ·have e1 : cutA ⟨g, 0, none⟩ n p = ⟨g, p, none⟩ := by
    unfold cutA Addr.add
    rw [if_neg hpn]
    split <;> simp_all
   have := run_copy_row P W dT sT ty elem g p (n - p) (n - p) a m c _ t (x.map byt) hu hs hb (by rw [List.length_map, show m.min (n - p) = min m (n - p) from rfl, Nat.min_def]; split <;> omega) hsrc (by simp; omega) (byt_oneCell x)
   rw [e1, this, map_put]
   congr 1
   rw [hm]; simp [goInt]
theorem run_copy_put0 {P : Program} (W : World) (dT sT ty elem : TypeId) (g n : Nat) (L x : List UInt8) (A : Option Addr) (m c B : Nat) (t : TypeId)
  (hu : P.underlying dT = some (.slice elem)) (hs : (P.info? elem).map (·.size) = some 1)
  (hb : Blk W g t (L.map byt).toArray) (hn : n = L.length) (hr : RB W B A m c x) (hp : x.length ≤ L.length) :
  (Builtin.copy_ #[dT, sT] ty #[.slice (some ⟨g, 0, none⟩) n n, .slice A m c]).run P W = .ok (.int .i64 (m : Int)) (W.setRow g ((put L 0 x).map byt).toArray) := by
 have := run_copy_put (P := P) W dT sT ty elem g n 0 L x A m c B t hu hs hb hn hr (by omega)
 rw [cutA_zero] at this
 exact this
theorem made_zeros (n : Nat) : madeCells #[.int .u8 0] n = ((List.replicate n (0 : UInt8)).map byt).toArray := by
 apply Array.ext
 ·simp [madeCells]
 ·intro i h1 h2
  simp [madeCells, byt, Nat.mod_one]
structure WS (w W : World) (gm gp gf gB : Nat) (tm tp tf tB : TypeId) (cm cp cf : Array Value) (L : List UInt8) : Prop where
 m : Blk W gm tm cm
 p : Blk W gp tp cp
 f : Blk W gf tf cf
 b : Blk W gB tB (L.map byt).toArray
 w : Below w.heap.size w W
structure WA (w : World) (gm gp gf gB : Nat) : Prop where
 m : gm ≠ gB
 p : gp ≠ gB
 f : gf ≠ gB
 w : w.heap.size ≤ gB
section
variable {w W W' : World} {gm gp gf gB : Nat} {tm tp tf tB : TypeId} {cm cp cf : Array Value} {L : List UInt8}
theorem WS.grow (h : WS w W gm gp gf gB tm tp tf tB cm cp cf L) (hg : Grow W W') : WS w W' gm gp gf gB tm tp tf tB cm cp cf L :=
 ⟨h.m.grow hg, h.p.grow hg, h.f.grow hg, h.b.grow hg, h.w.trans (Below.mono hg h.w.size)⟩
theorem WS.drew (h : WS w W gm gp gf gB tm tp tf tB cm cp cf L) : WS w W.drew gm gp gf gB tm tp tf tB cm cp cf L := h.grow (Grow.of_drew _)
theorem WS.set (h : WS w W gm gp gf gB tm tp tf tB cm cp cf L) (a : WA w gm gp gf gB) (L' : List UInt8) : WS w (W.setRow gB (L'.map byt).toArray) gm gp gf gB tm tp tf tB cm cp cf L' :=
 ⟨h.m.other a.m _, h.p.other a.p _, h.f.other a.f _, h.b.set _, ⟨h.w.os, h.w.tape, h.w.output, by simpa using h.w.size, fun k hk => (setRow_other W gB k _ (by have := a.w; omega)).trans (h.w.block k hk)⟩⟩
theorem WS.cell (h : WS w W gm gp gf gB tm tp tf tB cm cp cf L) (a : WA w gm gp gf gB) {V : World} (hb : Bar gB W V) {b o : Nat} {v : Value} (hlt : b < w.heap.size) (hc : w.cell? ⟨b, o, none⟩ = some v) : V.cell? ⟨b, o, none⟩ = some v := by
 have h1 : W.cell? ⟨b, o, none⟩ = some v := (Below.cell h.w hlt).trans hc
 have hne : b ≠ gB := by have := a.w; omega
 have h2 : b < W.heap.size := Nat.lt_of_lt_of_le hlt h.w.size
 have h3 : V.heap[b]? = W.heap[b]? := hb.2 b h2 hne
 rw [← h1]
 unfold World.cell?
 simp only [h3]
end
end Go.Proofs.YtfbimboemahhhaaGreatDoor
