/-
  Several texts in one: Bytes laid piece by piece; What was put is got, and what is got, put, is those bytes, in plain words; What was put is got, and what is got, put, is those bytes, in plain words; What was written is read, field by field, whatever stands behind it.
-/
import Derived.Test.YtfglppjilcaafaaGreatDoorTbH18
import Derived.Test.YtfglppjilcaafaaGreatDoorTbH13
import Derived.Test.YtfglppjilcaafaaGreatDoorTbH14
namespace Go.Proofs.YtfglppjilcaafaaGreatDoor
open Go.RowKit
set_option linter.unusedVariables false
def put (b : List UInt8) (p : Nat) (x : List UInt8) : List UInt8 := b.take p ++ x ++ b.drop (p + x.length)
theorem put_len {b x : List UInt8} {p : Nat} (h : p + x.length ≤ b.length) : (put b p x).length = b.length := by
 unfold put
 simp only [List.length_append, List.length_take, List.length_drop]
 omega
theorem put_get {b x : List UInt8} {p : Nat} (h : p + x.length ≤ b.length) (j : Nat) : (put b p x)[j]? = if p ≤ j ∧ j < p + x.length then x[j - p]? else b[j]? := by
 unfold put
 have hl : (b.take p).length = p := by rw [List.length_take]; omega
 rcases Nat.lt_or_ge j p with h1 | h1
 ·rw [if_neg (by omega), List.append_assoc, List.getElem?_append_left (by omega), List.getElem?_take_of_lt h1]
 ·rcases Nat.lt_or_ge j (p + x.length) with h2 | h2
  ·rw [if_pos ⟨h1, h2⟩, List.append_assoc, List.getElem?_append_right (by omega), hl, List.getElem?_append_left (by omega)]
  ·rw [if_neg (by omega), List.getElem?_append_right (by rw [List.length_append, hl]; omega), List.length_append, hl, List.getElem?_drop, show p + x.length + (j - (p + x.length)) = j by omega]
def Off (p : Nat) (x : List UInt8) (q : Nat) (y : List UInt8) : Prop := (p = q ∧ x = y) ∨ x.length = 0 ∨ y.length = 0 ∨ p + x.length ≤ q ∨ q + y.length ≤ p
theorem Off.symm {p q : Nat} {x y : List UInt8} (h : Off p x q y) : Off q y p x := by
 rcases h with ⟨h1, h2⟩ | h | h | h | h
 ·exact .inl ⟨h1.symm, h2.symm⟩
 ·exact .inr (.inr (.inl h))
 ·exact .inr (.inl h)
 ·exact .inr (.inr (.inr (.inr h)))
 ·exact .inr (.inr (.inr (.inl h)))
def Laid (S : Nat → List UInt8 → Prop) (b : List UInt8) : Prop :=
 (∀ p x, S p x → ∀ j, j < x.length → b[p + j]? = x[j]?) ∧ ∀ j, j < b.length → (∀ p x, S p x → ¬(p ≤ j ∧ j < p + x.length)) → b[j]? = some 0
theorem Laid.none (n : Nat) : Laid (fun _ _ => False) (List.replicate n 0) := ⟨fun _ _ h => h.elim, fun j hj _ => by rw [List.length_replicate] at hj; rw [List.getElem?_replicate, if_pos hj]⟩
theorem Laid.one {S : Nat → List UInt8 → Prop} {b c : List UInt8} (h : Laid S b) (k : Laid S c) (hl : b.length = c.length) : b = c := by
 apply List.ext_getElem?
 intro j
 rcases Nat.lt_or_ge j b.length with hj | hj
 ·by_cases hc : ∃ p x, S p x ∧ p ≤ j ∧ j < p + x.length
  ·obtain ⟨p, x, hs, h1, h2⟩ := hc
   have e1 := h.1 p x hs (j - p) (by omega)
   have e2 := k.1 p x hs (j - p) (by omega)
   rw [show p + (j - p) = j by omega] at e1 e2
   rw [e1, e2]
  ·have hn : ∀ p x, S p x → ¬(p ≤ j ∧ j < p + x.length) := fun p x hs hh => hc ⟨p, x, hs, hh⟩
   rw [h.2 j hj hn, k.2 j (by omega) hn]
 ·rw [List.getElem?_eq_none hj, List.getElem?_eq_none (by omega)]
theorem Laid.put {S T : Nat → List UInt8 → Prop} {b x : List UInt8} {p : Nat} (h : Laid S b) (e : ∀ q y, T q y ↔ S q y ∨ (q = p ∧ y = x)) (ho : ∀ q y, S q y → Off q y p x) (hl : p + x.length ≤ b.length) : Laid T (put b p x) := by
 refine ⟨fun q y ht j hj => ?_, fun j hj hn => ?_⟩
 ·rw [put_get hl]
  rcases (e q y).1 ht with hs | ⟨rfl, rfl⟩
  ·split
   ·rename_i hin
    rcases ho q y hs with ⟨rfl, rfl⟩ | h1 | h1 | h1 | h1
    ·congr 1; omega
    ·omega
    ·omega
    ·omega
    ·omega
   ·exact h.1 q y hs j hj
  ·rw [if_pos (by omega)]
   congr 1; omega
 ·rw [put_len hl] at hj
  rw [put_get hl, if_neg (hn p x ((e p x).2 (.inr ⟨rfl, rfl⟩)))]
  exact h.2 j hj fun q y hs => hn q y ((e q y).2 (.inl hs))
theorem Laid.read {S : Nat → List UInt8 → Prop} {b x : List UInt8} {p : Nat} (h : Laid S b) (hs : S p x) : (b.drop p).take x.length = x := by
 apply List.ext_getElem?
 intro j
 rcases Nat.lt_or_ge j x.length with hj | hj
 ·rw [List.getElem?_take_of_lt hj, List.getElem?_drop, h.1 p x hs j hj]
 ·rw [List.getElem?_take_eq_none hj, List.getElem?_eq_none hj]
def Stg (m : Md) (a b c d : Nat) (p : Nat) (x : List UInt8) : Prop :=
 (p = 0 ∧ x = m.hd.L) ∨ (∃ k, k < a ∧ p = m.phoff + k * pSize m.wide ∧ x = (m.pg k).L m.wide m.big) ∨ (∃ k, k < b ∧ p = m.P2 k ∧ x = (m.sg k).pl.own) ∨
 (∃ k, k < c ∧ p = m.P3 k ∧ x = (m.se k).pl.own) ∨ (∃ k, k < d ∧ p = m.shoff + (k + 1) * sSize m.wide ∧ x = (m.sc k).L m.wide m.big)
theorem Stg.head (m : Md) (a b c d : Nat) : Stg m a b c d 0 m.hd.L := .inl ⟨rfl, rfl⟩
theorem Stg.mono {m : Md} {a b c d a' b' c' d' p : Nat} {x : List UInt8} (h : Stg m a b c d p x) (h1 : a ≤ a') (h2 : b ≤ b') (h3 : c ≤ c') (h4 : d ≤ d') : Stg m a' b' c' d' p x := by
 rcases h with h | ⟨k, hk, h⟩ | ⟨k, hk, h⟩ | ⟨k, hk, h⟩ | ⟨k, hk, h⟩
 ·exact .inl h
 ·exact .inr (.inl ⟨k, by omega, h⟩)
 ·exact .inr (.inr (.inl ⟨k, by omega, h⟩))
 ·exact .inr (.inr (.inr (.inl ⟨k, by omega, h⟩)))
 ·exact .inr (.inr (.inr (.inr ⟨k, by omega, h⟩)))
theorem ex_succ {P : Nat → Prop} {n : Nat} : (∃ k, k < n + 1 ∧ P k) ↔ (∃ k, k < n ∧ P k) ∨ P n := by
 constructor
 ·rintro ⟨k, hk, h⟩
  rcases Nat.lt_or_ge k n with h1 | h1
  ·exact .inl ⟨k, h1, h⟩
  ·exact .inr (by rwa [show n = k by omega])
 ·rintro (⟨k, hk, h⟩ | h)
  ·exact ⟨k, by omega, h⟩
  ·exact ⟨n, by omega, h⟩
theorem Stg.a1 (m : Md) (a b c d : Nat) (p : Nat) (x : List UInt8) : Stg m (a + 1) b c d p x ↔ Stg m a b c d p x ∨ (p = m.phoff + a * pSize m.wide ∧ x = (m.pg a).L m.wide m.big) := by
 unfold Stg
 rw [ex_succ]
 simp only [or_assoc, or_comm, or_left_comm]
theorem Stg.b1 (m : Md) (a b c d : Nat) (p : Nat) (x : List UInt8) : Stg m a (b + 1) c d p x ↔ Stg m a b c d p x ∨ (p = m.P2 b ∧ x = (m.sg b).pl.own) := by
 unfold Stg
 rw [ex_succ]
 simp only [or_assoc, or_comm, or_left_comm]
theorem Stg.c1 (m : Md) (a b c d : Nat) (p : Nat) (x : List UInt8) : Stg m a b (c + 1) d p x ↔ Stg m a b c d p x ∨ (p = m.P3 c ∧ x = (m.se c).pl.own) := by
 unfold Stg
 rw [ex_succ]
 simp only [or_assoc, or_comm, or_left_comm]
theorem Stg.d1 (m : Md) (a b c d : Nat) (p : Nat) (x : List UInt8) : Stg m a b c (d + 1) p x ↔ Stg m a b c d p x ∨ (p = m.shoff + (d + 1) * sSize m.wide ∧ x = (m.sc d).L m.wide m.big) := by
 unfold Stg
 rw [ex_succ]
 simp only [or_assoc, or_comm, or_left_comm]
section
variable {m : Md}
theorem shoff_is (h : Good m) (h0 : 0 < m.secs.length) : m.eS m.secs.length ≤ m.shoff ∧ m.shoff + sSize m.wide * (m.secs.length + 1) = m.eT := by
 have hf := h.eT
 have e : m.eT = fin (m.eS m.secs.length) 0 8 (byWide m.wide 40 64 * (m.secs.length + 1)) := by unfold Md.eT; rw [if_pos h0]
 have e2 : m.shoff = plc (m.eS m.secs.length) 0 8 := by unfold Md.shoff; rw [if_pos h0]
 have hin := fin_in (e := m.eS m.secs.length) (v := 0) (a := 8) (n := byWide m.wide 40 64 * (m.secs.length + 1)) (by rw [← e]; exact hf)
 rw [e, e2]
 exact ⟨hin.2.2.2, hin.2.2.1⟩
theorem phoff_is (h : Good m) (h0 : 0 < m.segs.length) : m.phoff = hSize m.wide ∧ m.phoff + pSize m.wide * m.segs.length = m.e1 := by
 unfold Md.phoff Md.e1 pSize
 rw [if_pos h0]
 exact ⟨rfl, rfl⟩
theorem mul_step {k n z : Nat} (h : k < n) : k * z + z ≤ n * z := by
 have := Nat.mul_le_mul_right z (show k + 1 ≤ n from h)
 rw [Nat.succ_mul] at this
 exact this
theorem Good.z1 (h : Good m) {k : Nat} (hk : k < m.segs.length) : hSize m.wide ≤ m.phoff + k * pSize m.wide ∧ m.phoff + k * pSize m.wide + ((m.pg k).L m.wide m.big).length ≤ m.e1 := by
 obtain ⟨h1, h2⟩ := phoff_is h (by omega)
 have := mul_step (z := pSize m.wide) hk
 rw [Nat.mul_comm] at h2
 rw [Pg.lenL]
 omega
theorem Good.z2 (h : Good m) {k : Nat} (hk : k < m.segs.length) : (m.sg k).pl.own.length = 0 ∨ (m.e1 ≤ m.P2 k ∧ m.P2 k + (m.sg k).pl.own.length ≤ m.eS 0) := by
 by_cases hi : (m.sg k).pl.inn = -1
 ·refine .inr ?_
  have hl := (may_own_len (h.segMay hk) hi).2
  have P := h.planned
  have ho := P.order
  by_cases ht : (m.sg k).typ = 1
  ·have a := P.load_at hk ht
   have b := P.eL_in (k := k + 1) hk
   have c : m.eL 0 ≤ m.eL k := mono_of (m.eL_step P.ok.n1) (by omega)
   have d : m.eL 0 = m.e1 := rfl
   omega
  ·have a := P.other_at hk ht hi
   have b := P.eO_in (k := k + 1) hk
   have c : m.eO 0 ≤ m.eO k := mono_of (m.eO_step P.ok.n1) (by omega)
   have d : m.eO 0 = m.eL m.segs.length := rfl
   omega
 ·exact .inl (by rw [(may_in_is (h.segMay hk) hi).1]; rfl)
theorem Good.z3 (h : Good m) {k : Nat} (hk : k < m.secs.length) : (m.se k).pl.own.length = 0 ∨ (m.eS 0 ≤ m.P3 k ∧ m.P3 k + (m.se k).pl.own.length ≤ m.eS m.secs.length) := by
 by_cases hi : (m.se k).pl.inn = -1
 ·refine .inr ?_
  have hl := (may_own_len (h.secMay hk).1 hi).2
  have P := h.planned
  have a := P.sec_at hk hi
  have b : m.eS (k + 1) ≤ m.eS m.secs.length := mono_of (m.eS_step P.ok.n1) hk
  have c : m.eS 0 ≤ m.eS k := mono_of (m.eS_step P.ok.n1) (by omega)
  omega
 ·exact .inl (by rw [(may_in_is (h.secMay hk).1 hi).1]; rfl)
theorem Good.z4 (h : Good m) {k : Nat} (hk : k < m.secs.length) : m.eS m.secs.length ≤ m.shoff + (k + 1) * sSize m.wide ∧ m.shoff + (k + 1) * sSize m.wide + ((m.sc k).L m.wide m.big).length ≤ m.eT := by
 obtain ⟨h1, h2⟩ := shoff_is h (by omega)
 have := mul_step (z := sSize m.wide) (show k + 1 < m.secs.length + 1 by omega)
 rw [Nat.mul_comm] at h2
 rw [Sc.lenL]
 omega
theorem Good.p2 (h : Good m) {k l : Nat} (hk : k < l) (hl : l < m.segs.length) : Off (m.P2 k) (m.sg k).pl.own (m.P2 l) (m.sg l).pl.own := by
 by_cases hi : (m.sg k).pl.inn = -1
 ·by_cases hj : (m.sg l).pl.inn = -1
  ·have h1 := (may_own_len (h.segMay (by omega)) hi).2
   have h2 := (may_own_len (h.segMay hl) hj).2
   have P := h.planned
   refine .inr (.inr (.inr ?_))
   have d : m.eO 0 = m.eL m.segs.length := rfl
   by_cases tk : (m.sg k).typ = 1
   ·have a := P.load_at (k := k) (by omega) tk
    by_cases tl : (m.sg l).typ = 1
    ·have b := P.load_at hl tl
     have c : m.eL (k + 1) ≤ m.eL l := mono_of (m.eL_step P.ok.n1) (by omega)
     omega
    ·have b := P.other_at hl tl hj
     have c := P.eL_in (k := k + 1) (by omega)
     have c2 : m.eO 0 ≤ m.eO l := mono_of (m.eO_step P.ok.n1) (by omega)
     omega
   ·have a := P.other_at (k := k) (by omega) tk hi
    by_cases tl : (m.sg l).typ = 1
    ·have b := P.load_at hl tl
     have c := P.eL_in (k := l + 1) hl
     have c2 : m.eO 0 ≤ m.eO k := mono_of (m.eO_step P.ok.n1) (by omega)
     omega
    ·have b := P.other_at hl tl hj
     have c : m.eO (k + 1) ≤ m.eO l := mono_of (m.eO_step P.ok.n1) (by omega)
     omega
  ·exact .inr (.inr (.inl (by rw [(may_in_is (h.segMay hl) hj).1]; rfl)))
 ·exact .inr (.inl (by rw [(may_in_is (h.segMay (by omega)) hi).1]; rfl))
theorem Good.p3 (h : Good m) {k l : Nat} (hk : k < l) (hl : l < m.secs.length) : Off (m.P3 k) (m.se k).pl.own (m.P3 l) (m.se l).pl.own := by
 by_cases hi : (m.se k).pl.inn = -1
 ·by_cases hj : (m.se l).pl.inn = -1
  ·have h1 := (may_own_len (h.secMay (k := k) (by omega)).1 hi).2
   have P := h.planned
   refine .inr (.inr (.inr ?_))
   have a := P.sec_at (k := k) (by omega) hi
   have b := P.sec_at hl hj
   have c : m.eS (k + 1) ≤ m.eS l := mono_of (m.eS_step P.ok.n1) (by omega)
   omega
  ·exact .inr (.inr (.inl (by rw [(may_in_is (h.secMay hl).1 hj).1]; rfl)))
 ·exact .inr (.inl (by rw [(may_in_is (h.secMay (k := k) (by omega)).1 hi).1]; rfl))
theorem Good.p1 (h : Good m) {k l : Nat} (hk : k < l) : Off (m.phoff + k * pSize m.wide) ((m.pg k).L m.wide m.big) (m.phoff + l * pSize m.wide) ((m.pg l).L m.wide m.big) := by
 have := mul_step (z := pSize m.wide) hk
 refine .inr (.inr (.inr (.inl ?_)))
 rw [Pg.lenL]
 omega
theorem Good.p4 (h : Good m) {k l : Nat} (hk : k < l) : Off (m.shoff + (k + 1) * sSize m.wide) ((m.sc k).L m.wide m.big) (m.shoff + (l + 1) * sSize m.wide) ((m.sc l).L m.wide m.big) := by
 have := mul_step (z := sSize m.wide) (show k + 1 < l + 1 by omega)
 refine .inr (.inr (.inr (.inl ?_)))
 rw [Sc.lenL]
 omega
theorem Good.off (h : Good m) {p q : Nat} {x y : List UInt8} (hp : Stg m m.segs.length m.segs.length m.secs.length m.secs.length p x) (hq : Stg m m.segs.length m.segs.length m.secs.length m.secs.length q y) : Off p x q y := by
 have ho := h.planned.order
 have hh : m.hd.L.length = hSize m.wide := m.hd.lenL
 have key : ∀ {p q : Nat} {x y : List UInt8}, x.length = 0 ∨ y.length = 0 ∨ p + x.length ≤ q → Off p x q y := fun hh => by
  rcases hh with hh | hh | hh
  ·exact .inr (.inl hh)
  ·exact .inr (.inr (.inl hh))
  ·exact .inr (.inr (.inr (.inl hh)))
 rcases hp with ⟨rfl, rfl⟩ | ⟨k, hk, rfl, rfl⟩ | ⟨k, hk, rfl, rfl⟩ | ⟨k, hk, rfl, rfl⟩ | ⟨k, hk, rfl, rfl⟩ <;> rcases hq with ⟨rfl, rfl⟩ | ⟨l, hl, rfl, rfl⟩ | ⟨l, hl, rfl, rfl⟩ | ⟨l, hl, rfl, rfl⟩ | ⟨l, hl, rfl, rfl⟩
 ·exact .inl ⟨rfl, rfl⟩
 ·have b := h.z1 hl; exact key (by omega)
 ·have b := h.z2 hl; exact key (by omega)
 ·have b := h.z3 hl; exact key (by omega)
 ·have b := h.z4 hl; exact key (by omega)
 ·have b := h.z1 hk; exact (key (by omega)).symm
 ·rcases Nat.lt_trichotomy k l with e | rfl | e
  ·exact h.p1 e
  ·exact .inl ⟨rfl, rfl⟩
  ·exact (h.p1 e).symm
 ·have a := h.z1 hk; have b := h.z2 hl; exact key (by omega)
 ·have a := h.z1 hk; have b := h.z3 hl; exact key (by omega)
 ·have a := h.z1 hk; have b := h.z4 hl; exact key (by omega)
 ·have b := h.z2 hk; exact (key (by omega)).symm
 ·have a := h.z1 hl; have b := h.z2 hk; exact (key (by omega)).symm
 ·rcases Nat.lt_trichotomy k l with e | rfl | e
  ·exact h.p2 e hl
  ·exact .inl ⟨rfl, rfl⟩
  ·exact (h.p2 e hk).symm
 ·have a := h.z2 hk; have b := h.z3 hl; exact key (by omega)
 ·have a := h.z2 hk; have b := h.z4 hl; exact key (by omega)
 ·have b := h.z3 hk; exact (key (by omega)).symm
 ·have a := h.z1 hl; have b := h.z3 hk; exact (key (by omega)).symm
 ·have a := h.z2 hl; have b := h.z3 hk; exact (key (by omega)).symm
 ·rcases Nat.lt_trichotomy k l with e | rfl | e
  ·exact h.p3 e hl
  ·exact .inl ⟨rfl, rfl⟩
  ·exact (h.p3 e hk).symm
 ·have a := h.z3 hk; have b := h.z4 hl; exact key (by omega)
 ·have b := h.z4 hk; exact (key (by omega)).symm
 ·have a := h.z1 hl; have b := h.z4 hk; exact (key (by omega)).symm
 ·have a := h.z2 hl; have b := h.z4 hk; exact (key (by omega)).symm
 ·have a := h.z3 hl; have b := h.z4 hk; exact (key (by omega)).symm
 ·rcases Nat.lt_trichotomy k l with e | rfl | e
  ·exact h.p4 e
  ·exact .inl ⟨rfl, rfl⟩
  ·exact (h.p4 e).symm
def FileIs (m : Md) (b : List UInt8) : Prop := Laid (Stg m m.segs.length m.segs.length m.secs.length m.secs.length) b ∧ b.length = m.eT
theorem FileIs.one {b c : List UInt8} (h : FileIs m b) (k : FileIs m c) : b = c := h.1.one k.1 (h.2.trans k.2.symm)
theorem Good.putA (h : Good m) {a b c d : Nat} {L : List UInt8} (hL : Laid (Stg m a b c d) L) (ha : a < m.segs.length) (hb : b ≤ m.segs.length) (hc : c ≤ m.secs.length) (hd : d ≤ m.secs.length)
  (hl : m.phoff + a * pSize m.wide + ((m.pg a).L m.wide m.big).length ≤ L.length) : Laid (Stg m (a + 1) b c d) (put L (m.phoff + a * pSize m.wide) ((m.pg a).L m.wide m.big)) :=
 hL.put (Stg.a1 m a b c d) (fun q y hs => h.off (hs.mono (by omega) hb hc hd) (.inr (.inl ⟨a, ha, rfl, rfl⟩))) hl
theorem Good.putB (h : Good m) {a b c d : Nat} {L : List UInt8} (hL : Laid (Stg m a b c d) L) (ha : a ≤ m.segs.length) (hb : b < m.segs.length) (hc : c ≤ m.secs.length) (hd : d ≤ m.secs.length)
  (hl : m.P2 b + (m.sg b).pl.own.length ≤ L.length) : Laid (Stg m a (b + 1) c d) (put L (m.P2 b) (m.sg b).pl.own) :=
 hL.put (Stg.b1 m a b c d) (fun q y hs => h.off (hs.mono ha (by omega) hc hd) (.inr (.inr (.inl ⟨b, hb, rfl, rfl⟩)))) hl
theorem Good.putC (h : Good m) {a b c d : Nat} {L : List UInt8} (hL : Laid (Stg m a b c d) L) (ha : a ≤ m.segs.length) (hb : b ≤ m.segs.length) (hc : c < m.secs.length) (hd : d ≤ m.secs.length)
  (hl : m.P3 c + (m.se c).pl.own.length ≤ L.length) : Laid (Stg m a b (c + 1) d) (put L (m.P3 c) (m.se c).pl.own) :=
 hL.put (Stg.c1 m a b c d) (fun q y hs => h.off (hs.mono ha hb (by omega) hd) (.inr (.inr (.inr (.inl ⟨c, hc, rfl, rfl⟩))))) hl
theorem Good.putD (h : Good m) {a b c d : Nat} {L : List UInt8} (hL : Laid (Stg m a b c d) L) (ha : a ≤ m.segs.length) (hb : b ≤ m.segs.length) (hc : c ≤ m.secs.length) (hd : d < m.secs.length)
  (hl : m.shoff + (d + 1) * sSize m.wide + ((m.sc d).L m.wide m.big).length ≤ L.length) : Laid (Stg m a b c (d + 1)) (put L (m.shoff + (d + 1) * sSize m.wide) ((m.sc d).L m.wide m.big)) :=
 hL.put (Stg.d1 m a b c d) (fun q y hs => h.off (hs.mono ha hb hc (by omega)) (.inr (.inr (.inr (.inr ⟨d, hd, rfl, rfl⟩))))) hl
theorem first_laid {L : List UInt8} (hL : Laid (fun _ _ => False) L) (hl : m.hd.L.length ≤ L.length) : Laid (Stg m 0 0 0 0) (put L 0 m.hd.L) := by
 refine hL.put (fun q y => ?_) (fun q y hs => hs.elim) (by omega)
 unfold Stg
 simp
end
theorem Pg.sndQ (p : Pg) (wide : Bool) : (p.Q wide).map (·.2) = pRow wide := by
 rw [Pg.Q, pRow, List.map_map]; rfl
theorem pX_put (p : Pg) (wide big : Bool) (hf : rowF (p.Q wide) = true) (pre post : List UInt8) : pX (pre ++ p.L wide big ++ post) pre.length wide big = (pOrd wide).map fun i => p.N.getD i 0 := by
 have := nums_rowB big post (p.Q wide) pre hf
 rw [p.sndQ] at this
 rw [pX, Pg.L, this, Pg.Q, List.map_map]
 rfl
theorem pgOf_put (p : Pg) (wide big : Bool) (hf : rowF (p.Q wide) = true) (pre post : List UInt8) : pgOf (pre ++ p.L wide big ++ post) pre.length wide big = p := by
 have e := pX_put p wide big hf pre post
 unfold pgOf
 rw [e]
 obtain ⟨ty, fl, off, va, pa, fs, ms, al⟩ := p
 cases wide <;> rfl
theorem sX_put (p : Sc) (wide big : Bool) (hf : rowF (p.Q wide) = true) (pre post : List UInt8) : sX (pre ++ p.L wide big ++ post) pre.length wide big = p.N := by
 have := nums_rowB big post (p.Q wide) pre hf
 rw [p.sndQ, p.fstQ] at this
 exact this
theorem scOf_put (p : Sc) (wide big : Bool) (hf : rowF (p.Q wide) = true) (pre post : List UInt8) : scOf (pre ++ p.L wide big ++ post) pre.length wide big = p := by
 have e := sX_put p wide big hf pre post
 unfold scOf
 rw [e]
 rfl
set_option linter.unusedVariables false
theorem split_at {l x : List UInt8} {p : Nat} (h : (l.drop p).take x.length = x) (hl : p + x.length ≤ l.length) : l = l.take p ++ x ++ l.drop (p + x.length) ∧ (l.take p).length = p := by
 refine ⟨?_, by rw [List.length_take]; omega⟩
 conv => lhs; rw [← List.take_append_drop p l, ← List.take_append_drop x.length (l.drop p)]
 rw [h, List.drop_drop, List.append_assoc]
theorem read_more {L r x : List UInt8} {p : Nat} (h : (L.drop p).take x.length = x) (hl : p + x.length ≤ L.length) : ((L ++ r).drop p).take x.length = x := by
 rw [List.drop_append_of_le_length (by omega), List.take_append_of_le_length (by rw [List.length_drop]; omega), h]
structure Wrote (m : Md) (l : List UInt8) : Prop where
 good : Good m
 len : m.eT ≤ l.length
 max : l.length ≤ 65536
 read : ∀ p x, Stg m m.segs.length m.segs.length m.secs.length m.secs.length p x → p + x.length ≤ m.eT → (l.drop p).take x.length = x
theorem wrote_of {m : Md} (h : Good m) {L r : List UInt8} (hf : FileIs m L) (hl : (L ++ r).length ≤ 65536) : Wrote m (L ++ r) :=
 ⟨h, by rw [List.length_append, hf.2]; omega, hl, fun p x hs hx => read_more (hf.1.read hs) (by rw [hf.2]; exact hx)⟩
section
variable {m : Md} {l : List UInt8}
theorem Wrote.head (w : Wrote m l) : ∃ r, l = m.hd.L ++ r := by
 have ho := w.good.planned.order
 have hh : m.hd.L.length = hSize m.wide := m.hd.lenL
 have h1 := w.read 0 m.hd.L (Stg.head m _ _ _ _) (by omega)
 have h2 := (split_at h1 (by have := w.len; omega)).1
 rw [List.take_zero, List.nil_append] at h2
 exact ⟨_, h2⟩
theorem Wrote.hdOf (w : Wrote m l) : hdOf l = m.hd := by
 obtain ⟨r, e⟩ := w.head
 rw [e]
 exact hdOf_put _ w.good.hdFits r
theorem Wrote.told (w : Wrote m l) : HTold l 0 0 (Go.Proofs.YtfglppjilcaafaaGreatDoor.hdOf l).V := by
 rw [w.hdOf]
 obtain ⟨r, e⟩ := w.head
 rw [e]
 exact put_told _ w.good.hdFits r
theorem Wrote.wide (w : Wrote m l) : lWide l = m.wide := by
 have := congrArg Hd.wide w.hdOf
 exact this
theorem Wrote.big (w : Wrote m l) : lBig l = m.big := by
 have := congrArg Hd.big w.hdOf
 exact this
theorem Wrote.nP (w : Wrote m l) : nP l = m.segs.length := by
 have h1 := w.good.n1
 unfold Go.Proofs.YtfglppjilcaafaaGreatDoor.nP
 rw [w.hdOf, if_neg (by show ¬ m.segs.length = 65535; omega)]
 rfl
theorem Wrote.nI (w : Wrote m l) : nI l = m.str.toNat := by
 have h1 := w.good.str
 have h2 := w.good.n2
 unfold Go.Proofs.YtfglppjilcaafaaGreatDoor.nI
 rw [w.hdOf, if_neg (by show ¬ m.str.toNat = 65535; omega)]
 rfl
theorem shoff_pos (h : Good m) (h0 : 0 < m.secs.length) : 0 < m.shoff := by
 have a := shoff_is h h0
 have b := h.planned.order
 have c : 52 ≤ hSize m.wide := by cases m.wide <;> decide
 omega
theorem shoff_zero (h0 : m.secs.length = 0) : m.shoff = 0 := by
 unfold Md.shoff
 rw [if_neg (by omega)]
theorem Wrote.nS (w : Wrote m l) : nS l = if 0 < m.secs.length then m.secs.length + 1 else 0 := by
 unfold Go.Proofs.YtfglppjilcaafaaGreatDoor.nS
 rw [w.hdOf]
 show (if (if 0 < m.secs.length then m.secs.length + 1 else 0) = 0 then (fst_ l).sz else (if 0 < m.secs.length then m.secs.length + 1 else 0)) = _
 by_cases h0 : 0 < m.secs.length
 ·rw [if_pos h0, if_neg (by omega)]
 ·rw [if_neg h0, if_pos rfl]
  unfold fst_
  rw [w.hdOf, if_pos (show m.hd.sh = 0 from shoff_zero (by omega))]
  rfl
theorem Wrote.nS1 (w : Wrote m l) : Go.Proofs.YtfglppjilcaafaaGreatDoor.nS l - 1 = m.secs.length := by
 rw [w.nS]
 split <;> omega
theorem Wrote.pAt (w : Wrote m l) (i : Nat) : pAt l i = m.phoff + i * pSize m.wide := by
 unfold Go.Proofs.YtfglppjilcaafaaGreatDoor.pAt
 rw [w.hdOf, w.wide]
 rfl
theorem Wrote.sAt (w : Wrote m l) (i : Nat) : sAt l i = m.shoff + i * sSize m.wide := by
 unfold Go.Proofs.YtfglppjilcaafaaGreatDoor.sAt
 rw [w.hdOf, w.wide]
 rfl
theorem Wrote.pgs (w : Wrote m l) {i : Nat} (hi : i < m.segs.length) (hf : rowF ((m.pg i).Q m.wide) = true) : pgs l i = m.pg i := by
 have hz := w.good.z1 hi
 have ho := w.good.planned.order
 have h1 := w.read (m.phoff + i * pSize m.wide) ((m.pg i).L m.wide m.big) (.inr (.inl ⟨i, hi, rfl, rfl⟩)) (by omega)
 obtain ⟨h2, h3⟩ := split_at h1 (by have := w.len; omega)
 unfold Go.Proofs.YtfglppjilcaafaaGreatDoor.pgs
 rw [w.pAt, w.wide, w.big]
 have := pgOf_put (m.pg i) m.wide m.big hf (l.take (m.phoff + i * pSize m.wide)) (l.drop (m.phoff + i * pSize m.wide + ((m.pg i).L m.wide m.big).length))
 rw [← h2, h3] at this
 exact this
theorem Wrote.scs (w : Wrote m l) {i : Nat} (hi : i < m.secs.length) (hf : rowF ((m.sc i).Q m.wide) = true) : scs l (i + 1) = m.sc i := by
 have hz := w.good.z4 hi
 have h1 := w.read (m.shoff + (i + 1) * sSize m.wide) ((m.sc i).L m.wide m.big) (.inr (.inr (.inr (.inr ⟨i, hi, rfl, rfl⟩)))) (by omega)
 obtain ⟨h2, h3⟩ := split_at h1 (by have := w.len; omega)
 unfold Go.Proofs.YtfglppjilcaafaaGreatDoor.scs
 rw [w.sAt, w.wide, w.big]
 have := scOf_put (m.sc i) m.wide m.big hf (l.take (m.shoff + (i + 1) * sSize m.wide)) (l.drop (m.shoff + (i + 1) * sSize m.wide + ((m.sc i).L m.wide m.big).length))
 rw [← h2, h3] at this
 exact this
theorem in_yes {len p n : Nat} (h : p + n ≤ len) : inB len p n = true := by unfold inB; simp [h]
theorem Wrote.cnt (w : Wrote m l) : cntE l = (0, 0) := by
 have g := w.good
 have ho := g.planned.order
 have hl := w.len
 have h1 := g.n1
 have h2 := g.n2
 have h3 := g.str
 have hs : scE l = (0, 0) := by
  unfold scE
  rw [w.hdOf, w.nS, w.wide]
  by_cases h0 : 0 < m.secs.length
  ·have a := shoff_is g h0
   have b := shoff_pos g h0
   rw [if_pos h0, if_neg (show ¬ m.hd.sh = 0 by show ¬ m.shoff = 0; omega), if_neg (by omega), if_pos]
   exact in_yes (by rw [Nat.mul_comm]; show m.shoff + _ ≤ _; omega)
  ·rw [if_neg h0, if_pos (show m.hd.sh = 0 from shoff_zero (by omega)), if_neg (by omega)]
 have hp : pgE l = (0, 0) := by
  unfold pgE
  rw [w.hdOf, w.nP, w.wide, if_neg (by rintro ⟨a, _⟩; have : m.segs.length = 65535 := a; omega), if_neg (by omega), if_pos]
  by_cases h0 : 0 < m.segs.length
  ·have a := phoff_is g h0
   exact in_yes (by rw [Nat.mul_comm]; show m.phoff + _ ≤ _; omega)
  ·unfold inB
   rw [show m.segs.length = 0 by omega]
   simp
 unfold cntE
 rw [hs, hp, w.hdOf, w.wide, if_neg, if_neg (by simp), if_neg (by simp), if_neg]
 ·rintro ⟨a, _⟩
  have : m.str.toNat = 65535 := a
  omega
 ·rintro ⟨a, b⟩
  have a' : m.shoff ≠ 0 := a
  have h0 : 0 < m.secs.length := by
   rcases Nat.eq_zero_or_pos m.secs.length with h | h
   ·exact absurd (shoff_zero h) a'
   ·exact h
  have c := shoff_is g h0
  have d : sSize m.wide ≤ sSize m.wide * (m.secs.length + 1) := Nat.le_mul_of_pos_right _ (by omega)
  apply b
  show m.shoff + _ ≤ _
  omega
theorem Wrote.ownS (w : Wrote m l) {i : Nat} (hi : i < m.segs.length) (hn : (m.sg i).pl.inn = -1) : ownPl l (m.P2 i) (m.sg i).pl.size = (m.sg i).pl := by
 obtain ⟨h1, h2⟩ := may_own_len (w.good.segMay hi) hn
 have a := w.good.seg_at hi
 have h3 := w.read (m.P2 i) (m.sg i).pl.own (.inr (.inr (.inl ⟨i, hi, rfl, rfl⟩))) (by omega)
 unfold ownPl
 generalize (m.sg i).pl = p at *
 obtain ⟨inn, off, size, own⟩ := p
 simp only [] at *
 subst hn; subst h1
 split
 ·rename_i h0
  subst h0
  rw [List.eq_nil_of_length_eq_zero h2]
 ·rw [← h2, h3]
theorem Wrote.ownT (w : Wrote m l) {i : Nat} (hi : i < m.secs.length) (hn : (m.se i).pl.inn = -1) : ownPl l (m.P3 i) (m.se i).pl.size = (m.se i).pl := by
 obtain ⟨h1, h2⟩ := may_own_len (w.good.secMay hi).1 hn
 have a := w.good.sec_at hi
 have h3 := w.read (m.P3 i) (m.se i).pl.own (.inr (.inr (.inr (.inl ⟨i, hi, rfl, rfl⟩)))) (by omega)
 unfold ownPl
 generalize (m.se i).pl = p at *
 obtain ⟨inn, off, size, own⟩ := p
 simp only [] at *
 subst hn; subst h1
 split
 ·rename_i h0
  subst h0
  rw [List.eq_nil_of_length_eq_zero h2]
 ·rw [← h2, h3]
theorem fstP_none {off n : Nat} : ∀ {i k : Nat}, (∀ j, i ≤ j → j < i + k → pHas l off n j = false) → fstP l off n i k = none
 | i, 0, _ => rfl
 | i, k + 1, h => by
  rw [fstP, if_neg (by rw [h i (Nat.le_refl _) (by omega)]; simp)]
  exact fstP_none fun j h1 h2 => h j (by omega) (by omega)
theorem fstP_some {off n : Nat} : ∀ {i k q : Nat}, i ≤ q → q < i + k → (∀ j, i ≤ j → j < q → pHas l off n j = false) → pHas l off n q = true → fstP l off n i k = some q
 | i, 0, q, h1, h2, _, _ => by omega
 | i, k + 1, q, h1, h2, h3, h4 => by
  rw [fstP]
  by_cases e : i = q
  ·subst e
   rw [if_pos h4]
  ·rw [if_neg (by rw [h3 i (Nat.le_refl _) (by omega)]; simp)]
   exact fstP_some (by omega) (by omega) (fun j a b => h3 j (by omega) b) h4
theorem Wrote.has (w : Wrote m l) (fits : ∀ i, i < m.segs.length → rowF ((m.pg i).Q m.wide) = true) {j : Nat} (hj : j < m.segs.length) (off n : Nat) : pHas l off n j = (decide ((m.sg j).typ = 1) && (decide (m.P2 j ≤ off) && decide (off - m.P2 j + n ≤ (m.sg j).pl.size))) := by
 unfold pHas
 rw [w.pgs hj (fits j hj)]
 rfl
theorem Wrote.beyond (w : Wrote m l) (fits : ∀ i, i < m.segs.length → rowF ((m.pg i).Q m.wide) = true) {off n : Nat} (h0 : 0 < n) (ho : m.eL m.segs.length ≤ off) : fstP l off n 0 (Go.Proofs.YtfglppjilcaafaaGreatDoor.nP l) = none := by
 rw [w.nP]
 refine fstP_none fun j _ hj => ?_
 have hj : j < m.segs.length := by omega
 rw [w.has fits hj]
 by_cases ht : (m.sg j).typ = 1
 ·have a := w.good.planned.load_at hj ht
  have b := w.good.planned.eL_in (k := j + 1) hj
  have : decide (off - m.P2 j + n ≤ (m.sg j).pl.size) = false := decide_eq_false (by omega)
  rw [this, Bool.and_false, Bool.and_false]
 ·rw [decide_eq_false ht, Bool.false_and]
theorem Wrote.within (w : Wrote m l) (fits : ∀ i, i < m.segs.length → rowF ((m.pg i).Q m.wide) = true) {k off n : Nat} (hk : k < m.segs.length) (ht : (m.sg k).typ = 1) (h0 : 0 < n) (hn : off + n ≤ (m.sg k).pl.size) : fstP l (m.P2 k + off) n 0 (Go.Proofs.YtfglppjilcaafaaGreatDoor.nP l) = some k := by
 rw [w.nP]
 have a := w.good.planned.load_at hk ht
 refine fstP_some (Nat.zero_le _) (by omega) (fun j _ hj => ?_) ?_
 ·have hj' : j < m.segs.length := by omega
  rw [w.has fits hj']
  by_cases hjt : (m.sg j).typ = 1
  ·have b := w.good.planned.load_at hj' hjt
   have c : m.eL (j + 1) ≤ m.eL k := mono_of (m.eL_step w.good.planned.ok.n1) (by omega)
   have : decide (m.P2 k + off - m.P2 j + n ≤ (m.sg j).pl.size) = false := decide_eq_false (by omega)
   rw [this, Bool.and_false, Bool.and_false]
  ·rw [decide_eq_false hjt, Bool.false_and]
 ·rw [w.has fits hk, decide_eq_true ht, decide_eq_true (by omega), decide_eq_true (by omega)]
  rfl
theorem Wrote.findS (w : Wrote m l) (fits : ∀ i, i < m.segs.length → rowF ((m.pg i).Q m.wide) = true) {i : Nat} (hi : i < m.segs.length) (ht : (m.sg i).typ ≠ 1) : findPl l (m.P2 i) (m.sg i).pl.size = (m.sg i).pl := by
 by_cases hn : (m.sg i).pl.inn = -1
 ·unfold findPl
  split
  ·exact w.ownS hi hn
  ·rename_i h0
   have a := w.good.planned.other_at hi ht hn
   have c : m.eO 0 ≤ m.eO i := mono_of (m.eO_step w.good.planned.ok.n1) (by omega)
   have d : m.eO 0 = m.eL m.segs.length := rfl
   rw [w.beyond fits (by omega) (by omega)]
   exact w.ownS hi hn
 ·obtain ⟨q1, q2, k, q3, q4, q5, q6⟩ := may_in_is (w.good.segMay hi) hn
  obtain ⟨_, k', r1, r2, r3, r4⟩ := w.good.planned.seg_in hi hn
  have e : k = k' := by omega
  subst e
  have c := (w.good.load_len q4 q5).2
  unfold findPl
  rw [if_neg (by omega), r3, w.within fits q4 q5 q2 (by omega)]
  show (⟨(k : Int), m.P2 k + (m.sg i).pl.off - (Go.Proofs.YtfglppjilcaafaaGreatDoor.pgs l k).off, _, []⟩ : Pl) = _
  rw [w.pgs q4 (fits k q4)]
  show (⟨(k : Int), m.P2 k + (m.sg i).pl.off - m.P2 k, _, []⟩ : Pl) = _
  rw [Nat.add_sub_cancel_left, ← q3, ← q1]
theorem Wrote.findT (w : Wrote m l) (fits : ∀ i, i < m.segs.length → rowF ((m.pg i).Q m.wide) = true) {i : Nat} (hi : i < m.secs.length) : findPl l (m.P3 i) (m.se i).pl.size = (m.se i).pl := by
 by_cases hn : (m.se i).pl.inn = -1
 ·unfold findPl
  split
  ·exact w.ownT hi hn
  ·rename_i h0
   have ho := w.good.planned.order
   have a := w.good.planned.sec_at hi hn
   have c : m.eS 0 ≤ m.eS i := mono_of (m.eS_step w.good.planned.ok.n1) (by omega)
   rw [w.beyond fits (by omega) (by omega)]
   exact w.ownT hi hn
 ·obtain ⟨q1, q2, k, q3, q4, q5, q6⟩ := may_in_is (w.good.secMay hi).1 hn
  obtain ⟨k', r1, r2, r3, r4⟩ := w.good.planned.sec_in hi hn
  have e : k = k' := by omega
  subst e
  have c := (w.good.load_len q4 q5).2
  unfold findPl
  rw [if_neg (by omega), r3, w.within fits q4 q5 q2 (by omega)]
  show (⟨(k : Int), m.P2 k + (m.se i).pl.off - (Go.Proofs.YtfglppjilcaafaaGreatDoor.pgs l k).off, _, []⟩ : Pl) = _
  rw [w.pgs q4 (fits k q4)]
  show (⟨(k : Int), m.P2 k + (m.se i).pl.off - m.P2 k, _, []⟩ : Pl) = _
  rw [Nat.add_sub_cancel_left, ← q3, ← q1]
theorem Good.tab (h : Good m) (h0 : m.str ≠ 0) : (m.se (m.str.toNat - 1)).typ = 3 ∧ (m.se (m.str.toNat - 1)).pl.inn = -1 := by
 have hs := h.str
 have hc := h.chk
 unfold Md.chk at hc
 split at hc
 ·omega
 split at hc
 ·omega
 split at hc
 ·omega
 split at hc
 ·omega
 ·unfold Md.namesC at hc
  rw [if_neg (by omega), if_neg (by omega)] at hc
  split at hc
  ·rename_i hn
   unfold Md.named at hn
   rw [if_neg h0] at hn
   simp only [Bool.and_eq_true, decide_eq_true_eq] at hn
   have e : m.tab = m.se (m.str.toNat - 1) := by
    unfold Md.tab Md.se
    rw [show (m.str - 1).toNat = m.str.toNat - 1 by omega]
   rw [← e]
   exact hn.1
  ·omega
theorem Wrote.segF (w : Wrote m l) (fits : ∀ i, i < m.segs.length → rowF ((m.pg i).Q m.wide) = true) {i : Nat} (hi : i < m.segs.length) : segF l i = m.sg i := by
 unfold Go.Proofs.YtfglppjilcaafaaGreatDoor.segF
 rw [w.pgs hi (fits i hi)]
 show (⟨(m.sg i).typ, (m.sg i).flags, (m.sg i).vaddr, (m.sg i).paddr, (m.sg i).memsz, (m.sg i).align, if (m.sg i).typ = 1 then ownPl l (m.P2 i) (m.sg i).pl.size else findPl l (m.P2 i) (m.sg i).pl.size⟩ : Sg) = _
 by_cases ht : (m.sg i).typ = 1
 ·rw [if_pos ht, w.ownS hi (w.good.planned.load i hi ht)]
 ·rw [if_neg ht, w.findS fits hi ht]
theorem Wrote.secF (w : Wrote m l) (fits : ∀ i, i < m.segs.length → rowF ((m.pg i).Q m.wide) = true) (fitc : ∀ i, i < m.secs.length → rowF ((m.sc i).Q m.wide) = true) {i : Nat} (hi : i < m.secs.length) : secF l i = m.se i := by
 unfold Go.Proofs.YtfglppjilcaafaaGreatDoor.secF
 rw [w.scs hi (fitc i hi), w.nI]
 show (⟨(m.se i).name, (m.se i).typ, (m.se i).flags, (m.se i).addr, (m.se i).size, (m.se i).link, (m.se i).info, (m.se i).align, (m.se i).entsize, if (m.se i).typ = 0 ∨ (m.se i).typ = 8 then ownPl l 0 0 else if i + 1 = m.str.toNat then ownPl l (m.P3 i) (m.se i).size else findPl l (m.P3 i) (m.se i).size⟩ : Se) = _
 have hh := (w.good.secMay hi).2
 unfold Se.held at hh
 by_cases ht : (m.se i).typ = 0 ∨ (m.se i).typ = 8
 ·rw [if_pos ht] at hh ⊢
  have hn : (m.se i).pl.inn = -1 := by
   by_cases hn : (m.se i).pl.inn = -1
   ·exact hn
   ·have := (may_in_is (w.good.secMay hi).1 hn).2.1
    omega
  obtain ⟨h1, h2⟩ := may_own_len (w.good.secMay hi).1 hn
  have : ownPl l 0 0 = (m.se i).pl := by
   unfold ownPl
   rw [if_pos rfl]
   generalize (m.se i).pl = p at *
   obtain ⟨inn, off, size, own⟩ := p
   simp only [] at *
   subst hn; subst h1; subst hh
   rw [List.eq_nil_of_length_eq_zero h2]
  rw [this]
 ·rw [if_neg ht] at hh ⊢
  rw [← hh]
  by_cases hs : i + 1 = m.str.toNat
  ·have ha := w.good.str
   have hb := w.good.tab (by omega)
   rw [show m.str.toNat - 1 = i by omega] at hb
   rw [if_pos hs, w.ownT hi hb.2, hh]
  ·rw [if_neg hs, w.findT fits hi, hh]
theorem range_segs (f : Nat → Sg) (h : ∀ i, i < m.segs.length → f i = m.sg i) : (List.range m.segs.length).map f = m.segs := by
 apply List.ext_getElem
 ·simp
 ·intro i h1 h2
  rw [List.getElem_map, List.getElem_range, h i h2]
  unfold Md.sg
  rw [List.getD_eq_getElem?_getD, List.getElem?_eq_getElem h2]
  rfl
theorem range_secs (f : Nat → Se) (h : ∀ i, i < m.secs.length → f i = m.se i) : (List.range m.secs.length).map f = m.secs := by
 apply List.ext_getElem
 ·simp
 ·intro i h1 h2
  rw [List.getElem_map, List.getElem_range, h i h2]
  unfold Md.se
  rw [List.getD_eq_getElem?_getD, List.getElem?_eq_getElem h2]
  rfl
theorem Wrote.mdF (w : Wrote m l) (fits : ∀ i, i < m.segs.length → rowF ((m.pg i).Q m.wide) = true) (fitc : ∀ i, i < m.secs.length → rowF ((m.sc i).Q m.wide) = true) : mdF l = m := by
 have ho : l.getD 7 0 = UInt8.ofNat m.osabi := congrArg Hd.o w.hdOf
 have ha : l.getD 8 0 = UInt8.ofNat m.abi := congrArg Hd.a w.hdOf
 have hs := w.good.str
 unfold Go.Proofs.YtfglppjilcaafaaGreatDoor.mdF
 rw [w.wide, w.big, ho, ha, u8_of _ w.good.ok.osabi, u8_of _ w.good.ok.abi, w.nP, w.nS1, w.nI, range_segs _ (fun i hi => w.segF fits hi), range_secs _ (fun i hi => w.secF fits fitc hi), w.hdOf]
 show (⟨m.wide, m.big, m.osabi, m.abi, m.typ, m.mach, m.flags, m.entry, m.segs, m.secs, ((m.str.toNat : Nat) : Int)⟩ : Md) = m
 rw [show ((m.str.toNat : Nat) : Int) = m.str by omega]
theorem Wrote.tab0 (w : Wrote m l) (fits : ∀ i, i < m.segs.length → rowF ((m.pg i).Q m.wide) = true) (fitc : ∀ i, i < m.secs.length → rowF ((m.sc i).Q m.wide) = true) : tabE l = (0, 0) := by
 have hl := w.len
 have h1 : fstC (pBad l) (List.range (Go.Proofs.YtfglppjilcaafaaGreatDoor.nP l)) = 0 := fstC_zero.2 fun i hi => by
  rw [w.nP] at hi
  have hi := List.mem_range.1 hi
  have a := w.good.seg_at hi
  unfold pBad
  rw [w.pgs hi (fits i hi)]
  exact if_pos (in_yes (show m.P2 i + (m.sg i).pl.size ≤ _ by omega))
 have h2 : fstC (sBad l) (List.range (Go.Proofs.YtfglppjilcaafaaGreatDoor.nS l - 1)) = 0 := fstC_zero.2 fun i hi => by
  rw [w.nS1] at hi
  have hi := List.mem_range.1 hi
  have a := w.good.sec_at hi
  have hh : (m.sc i).held = (m.se i).pl.size := (w.good.secMay hi).2.symm
  unfold sBad
  rw [w.scs hi (fitc i hi), hh]
  exact if_pos (in_yes (show m.P3 i + (m.se i).pl.size ≤ _ by omega))
 unfold tabE
 rw [h1, h2]
 rfl
theorem Wrote.back (w : Wrote m l) (fits : ∀ i, i < m.segs.length → rowF ((m.pg i).Q m.wide) = true) (fitc : ∀ i, i < m.secs.length → rowF ((m.sc i).Q m.wide) = true) : PTold l 0 0 m := by
 refine .inr (.inr ⟨w.max, w.told, ?_, by rw [if_pos rfl, w.mdF fits fitc]⟩)
 unfold restE
 rw [w.cnt, w.tab0 fits fitc, w.mdF fits fitc, w.good.plan]
 rfl
end
end Go.Proofs.YtfglppjilcaafaaGreatDoor
