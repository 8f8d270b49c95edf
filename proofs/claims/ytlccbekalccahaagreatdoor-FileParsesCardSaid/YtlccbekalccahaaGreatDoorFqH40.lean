/-
  Several texts in one: Bytes laid piece by piece; What was put is got, and what is got, put, is those bytes, in plain words; What was put is got, and what is got, put, is those bytes, in plain words.
-/
import Derived.Test.YtlccbekalccahaaGreatDoorFqH20
import Derived.Test.YtlccbekalccahaaGreatDoorFqH15
import Derived.Test.YtlccbekalccahaaGreatDoorFqH16
namespace Go.Proofs.YtlccbekalccahaaGreatDoor
open Go.RowKit
set_option linter.unusedVariables false
def put (b : List UInt8) (p : Nat) (x : List UInt8) : List UInt8 := b.take p ++ x ++ b.drop (p + x.length)
theorem put_len {b x : List UInt8} {p : Nat} (h : p + x.length ≤ b.length) : (put b p x).length = b.length := by
 unfold put
 simp only [List.length_append, List.length_take, List.length_drop]
 omega
theorem put_get {b x : List UInt8} {p : Nat} (h : p + x.length ≤ b.length) (j : Nat) : (put b p x)[j]? = if p ≤ j ∧ j < p + x.length then x[j - p]? else b[j]? := by
 unfold put
 have hl : (b.take p).length = p := by rw [List.length_take]; omega
 rcases Nat.lt_or_ge j p with h1 | h1
 ·rw [if_neg (by omega), List.append_assoc, List.getElem?_append_left (by omega), List.getElem?_take_of_lt h1]
 ·rcases Nat.lt_or_ge j (p + x.length) with h2 | h2
  ·rw [if_pos ⟨h1, h2⟩, List.append_assoc, List.getElem?_append_right (by omega), hl, List.getElem?_append_left (by omega)]
  ·rw [if_neg (by omega), List.getElem?_append_right (by rw [List.length_append, hl]; omega), List.length_append, hl, List.getElem?_drop, show p + x.length + (j - (p + x.length)) = j by omega]
def Off (p : Nat) (x : List UInt8) (q : Nat) (y : List UInt8) : Prop := (p = q ∧ x = y) ∨ x.length = 0 ∨ y.length = 0 ∨ p + x.length ≤ q ∨ q + y.length ≤ p
theorem Off.symm {p q : Nat} {x y : List UInt8} (h : Off p x q y) : Off q y p x := by
 rcases h with ⟨h1, h2⟩ | h | h | h | h
 ·exact .inl ⟨h1.symm, h2.symm⟩
 ·exact .inr (.inr (.inl h))
 ·exact .inr (.inl h)
 ·exact .inr (.inr (.inr (.inr h)))
 ·exact .inr (.inr (.inr (.inl h)))
def Laid (S : Nat → List UInt8 → Prop) (b : List UInt8) : Prop :=
 (∀ p x, S p x → ∀ j, j < x.length → b[p + j]? = x[j]?) ∧ ∀ j, j < b.length → (∀ p x, S p x → ¬(p ≤ j ∧ j < p + x.length)) → b[j]? = some 0
theorem Laid.none (n : Nat) : Laid (fun _ _ => False) (List.replicate n 0) := ⟨fun _ _ h => h.elim, fun j hj _ => by rw [List.length_replicate] at hj; rw [List.getElem?_replicate, if_pos hj]⟩
theorem Laid.one {S : Nat → List UInt8 → Prop} {b c : List UInt8} (h : Laid S b) (k : Laid S c) (hl : b.length = c.length) : b = c := by
 apply List.ext_getElem?
 intro j
 rcases Nat.lt_or_ge j b.length with hj | hj
 ·by_cases hc : ∃ p x, S p x ∧ p ≤ j ∧ j < p + x.length
  ·obtain ⟨p, x, hs, h1, h2⟩ := hc
   have e1 := h.1 p x hs (j - p) (by omega)
   have e2 := k.1 p x hs (j - p) (by omega)
   rw [show p + (j - p) = j by omega] at e1 e2
   rw [e1, e2]
  ·have hn : ∀ p x, S p x → ¬(p ≤ j ∧ j < p + x.length) := fun p x hs hh => hc ⟨p, x, hs, hh⟩
   rw [h.2 j hj hn, k.2 j (by omega) hn]
 ·rw [List.getElem?_eq_none hj, List.getElem?_eq_none (by omega)]
theorem Laid.iff {S T : Nat → List UInt8 → Prop} {b : List UInt8} (h : Laid S b) (e : ∀ p x, S p x ↔ T p x) : Laid T b :=
 ⟨fun p x hs => h.1 p x ((e p x).2 hs), fun j hj hn => h.2 j hj fun p x hs => hn p x ((e p x).1 hs)⟩
theorem Laid.put {S T : Nat → List UInt8 → Prop} {b x : List UInt8} {p : Nat} (h : Laid S b) (e : ∀ q y, T q y ↔ S q y ∨ (q = p ∧ y = x)) (ho : ∀ q y, S q y → Off q y p x) (hl : p + x.length ≤ b.length) : Laid T (put b p x) := by
 refine ⟨fun q y ht j hj => ?_, fun j hj hn => ?_⟩
 ·rw [put_get hl]
  rcases (e q y).1 ht with hs | ⟨rfl, rfl⟩
  ·split
   ·rename_i hin
    rcases ho q y hs with ⟨rfl, rfl⟩ | h1 | h1 | h1 | h1
    ·congr 1; omega
    ·omega
    ·omega
    ·omega
    ·omega
   ·exact h.1 q y hs j hj
  ·rw [if_pos (by omega)]
   congr 1; omega
 ·rw [put_len hl] at hj
  rw [put_get hl, if_neg (hn p x ((e p x).2 (.inr ⟨rfl, rfl⟩)))]
  exact h.2 j hj fun q y hs => hn q y ((e q y).2 (.inl hs))
theorem Laid.pad {S : Nat → List UInt8 → Prop} {b : List UInt8} (h : Laid S b) (n : Nat) : Laid S (b ++ List.replicate n 0) := by
 refine ⟨fun p x hs j hj => ?_, fun j hj hn => ?_⟩
 ·have e := h.1 p x hs j hj
  have hlt : p + j < b.length := by
   rcases Nat.lt_or_ge (p + j) b.length with h1 | h1
   ·exact h1
   ·rw [List.getElem?_eq_none h1, List.getElem?_eq_getElem hj] at e
    cases e
  rw [List.getElem?_append_left hlt, e]
 ·rcases Nat.lt_or_ge j b.length with h1 | h1
  ·rw [List.getElem?_append_left h1]
   exact h.2 j h1 hn
  ·rw [List.getElem?_append_right h1, List.getElem?_replicate, if_pos (by simp at hj; omega)]
theorem Laid.read {S : Nat → List UInt8 → Prop} {b x : List UInt8} {p : Nat} (h : Laid S b) (hs : S p x) : (b.drop p).take x.length = x := by
 apply List.ext_getElem?
 intro j
 rcases Nat.lt_or_ge j x.length with hj | hj
 ·rw [List.getElem?_take_of_lt hj, List.getElem?_drop, h.1 p x hs j hj]
 ·rw [List.getElem?_take_eq_none hj, List.getElem?_eq_none hj]
def Stg (m : Md) (a b c d : Nat) (p : Nat) (x : List UInt8) : Prop :=
 (p = 0 ∧ x = m.hd.L) ∨ (∃ k, k < a ∧ p = m.phoff + k * pSize m.wide ∧ x = (m.pg k).L m.wide m.big) ∨ (∃ k, k < b ∧ p = m.P2 k ∧ x = (m.sg k).pl.own) ∨
 (∃ k, k < c ∧ p = m.P3 k ∧ x = (m.se k).pl.own) ∨ (∃ k, k < d ∧ p = m.shoff + (k + 1) * sSize m.wide ∧ x = (m.sc k).L m.wide m.big)
theorem Stg.head (m : Md) (a b c d : Nat) : Stg m a b c d 0 m.hd.L := .inl ⟨rfl, rfl⟩
theorem Stg.mono {m : Md} {a b c d a' b' c' d' p : Nat} {x : List UInt8} (h : Stg m a b c d p x) (h1 : a ≤ a') (h2 : b ≤ b') (h3 : c ≤ c') (h4 : d ≤ d') : Stg m a' b' c' d' p x := by
 rcases h with h | ⟨k, hk, h⟩ | ⟨k, hk, h⟩ | ⟨k, hk, h⟩ | ⟨k, hk, h⟩
 ·exact .inl h
 ·exact .inr (.inl ⟨k, by omega, h⟩)
 ·exact .inr (.inr (.inl ⟨k, by omega, h⟩))
 ·exact .inr (.inr (.inr (.inl ⟨k, by omega, h⟩)))
 ·exact .inr (.inr (.inr (.inr ⟨k, by omega, h⟩)))
theorem ex_succ {P : Nat → Prop} {n : Nat} : (∃ k, k < n + 1 ∧ P k) ↔ (∃ k, k < n ∧ P k) ∨ P n := by
 constructor
 ·rintro ⟨k, hk, h⟩
  rcases Nat.lt_or_ge k n with h1 | h1
  ·exact .inl ⟨k, h1, h⟩
  ·exact .inr (by rwa [show n = k by omega])
 ·rintro (⟨k, hk, h⟩ | h)
  ·exact ⟨k, by omega, h⟩
  ·exact ⟨n, by omega, h⟩
theorem Stg.a1 (m : Md) (a b c d : Nat) (p : Nat) (x : List UInt8) : Stg m (a + 1) b c d p x ↔ Stg m a b c d p x ∨ (p = m.phoff + a * pSize m.wide ∧ x = (m.pg a).L m.wide m.big) := by
 unfold Stg
 rw [ex_succ]
 simp only [or_assoc, or_comm, or_left_comm]
theorem Stg.b1 (m : Md) (a b c d : Nat) (p : Nat) (x : List UInt8) : Stg m a (b + 1) c d p x ↔ Stg m a b c d p x ∨ (p = m.P2 b ∧ x = (m.sg b).pl.own) := by
 unfold Stg
 rw [ex_succ]
 simp only [or_assoc, or_comm, or_left_comm]
theorem Stg.c1 (m : Md) (a b c d : Nat) (p : Nat) (x : List UInt8) : Stg m a b (c + 1) d p x ↔ Stg m a b c d p x ∨ (p = m.P3 c ∧ x = (m.se c).pl.own) := by
 unfold Stg
 rw [ex_succ]
 simp only [or_assoc, or_comm, or_left_comm]
theorem Stg.d1 (m : Md) (a b c d : Nat) (p : Nat) (x : List UInt8) : Stg m a b c (d + 1) p x ↔ Stg m a b c d p x ∨ (p = m.shoff + (d + 1) * sSize m.wide ∧ x = (m.sc d).L m.wide m.big) := by
 unfold Stg
 rw [ex_succ]
 simp only [or_assoc, or_comm, or_left_comm]
section
variable {m : Md}
theorem shoff_is (h : Good m) (h0 : 0 < m.secs.length) : m.eS m.secs.length ≤ m.shoff ∧ m.shoff + sSize m.wide * (m.secs.length + 1) = m.eT := by
 have hf := h.eT
 have e : m.eT = fin (m.eS m.secs.length) 0 8 (byWide m.wide 40 64 * (m.secs.length + 1)) := by unfold Md.eT; rw [if_pos h0]
 have e2 : m.shoff = plc (m.eS m.secs.length) 0 8 := by unfold Md.shoff; rw [if_pos h0]
 have hin := fin_in (e := m.eS m.secs.length) (v := 0) (a := 8) (n := byWide m.wide 40 64 * (m.secs.length + 1)) (by rw [← e]; exact hf)
 rw [e, e2]
 exact ⟨hin.2.2.2, hin.2.2.1⟩
theorem phoff_is (h : Good m) (h0 : 0 < m.segs.length) : m.phoff = hSize m.wide ∧ m.phoff + pSize m.wide * m.segs.length = m.e1 := by
 unfold Md.phoff Md.e1 pSize
 rw [if_pos h0]
 exact ⟨rfl, rfl⟩
theorem mul_step {k n z : Nat} (h : k < n) : k * z + z ≤ n * z := by
 have := Nat.mul_le_mul_right z (show k + 1 ≤ n from h)
 rw [Nat.succ_mul] at this
 exact this
theorem Good.z1 (h : Good m) {k : Nat} (hk : k < m.segs.length) : hSize m.wide ≤ m.phoff + k * pSize m.wide ∧ m.phoff + k * pSize m.wide + ((m.pg k).L m.wide m.big).length ≤ m.e1 := by
 obtain ⟨h1, h2⟩ := phoff_is h (by omega)
 have := mul_step (z := pSize m.wide) hk
 rw [Nat.mul_comm] at h2
 rw [Pg.lenL]
 omega
theorem Good.z2 (h : Good m) {k : Nat} (hk : k < m.segs.length) : (m.sg k).pl.own.length = 0 ∨ (m.e1 ≤ m.P2 k ∧ m.P2 k + (m.sg k).pl.own.length ≤ m.eS 0) := by
 by_cases hi : (m.sg k).pl.inn = -1
 ·refine .inr ?_
  have hl := (may_own_len (h.segMay hk) hi).2
  have P := h.planned
  have ho := P.order
  by_cases ht : (m.sg k).typ = 1
  ·have a := P.load_at hk ht
   have b := P.eL_in (k := k + 1) hk
   have c : m.eL 0 ≤ m.eL k := mono_of (m.eL_step P.ok.n1) (by omega)
   have d : m.eL 0 = m.e1 := rfl
   omega
  ·have a := P.other_at hk ht hi
   have b := P.eO_in (k := k + 1) hk
   have c : m.eO 0 ≤ m.eO k := mono_of (m.eO_step P.ok.n1) (by omega)
   have d : m.eO 0 = m.eL m.segs.length := rfl
   omega
 ·exact .inl (by rw [(may_in_is (h.segMay hk) hi).1]; rfl)
theorem Good.z3 (h : Good m) {k : Nat} (hk : k < m.secs.length) : (m.se k).pl.own.length = 0 ∨ (m.eS 0 ≤ m.P3 k ∧ m.P3 k + (m.se k).pl.own.length ≤ m.eS m.secs.length) := by
 by_cases hi : (m.se k).pl.inn = -1
 ·refine .inr ?_
  have hl := (may_own_len (h.secMay hk).1 hi).2
  have P := h.planned
  have a := P.sec_at hk hi
  have b : m.eS (k + 1) ≤ m.eS m.secs.length := mono_of (m.eS_step P.ok.n1) hk
  have c : m.eS 0 ≤ m.eS k := mono_of (m.eS_step P.ok.n1) (by omega)
  omega
 ·exact .inl (by rw [(may_in_is (h.secMay hk).1 hi).1]; rfl)
theorem Good.z4 (h : Good m) {k : Nat} (hk : k < m.secs.length) : m.eS m.secs.length ≤ m.shoff + (k + 1) * sSize m.wide ∧ m.shoff + (k + 1) * sSize m.wide + ((m.sc k).L m.wide m.big).length ≤ m.eT := by
 obtain ⟨h1, h2⟩ := shoff_is h (by omega)
 have := mul_step (z := sSize m.wide) (show k + 1 < m.secs.length + 1 by omega)
 rw [Nat.mul_comm] at h2
 rw [Sc.lenL]
 omega
theorem Good.p2 (h : Good m) {k l : Nat} (hk : k < l) (hl : l < m.segs.length) : Off (m.P2 k) (m.sg k).pl.own (m.P2 l) (m.sg l).pl.own := by
 by_cases hi : (m.sg k).pl.inn = -1
 ·by_cases hj : (m.sg l).pl.inn = -1
  ·have h1 := (may_own_len (h.segMay (by omega)) hi).2
   have h2 := (may_own_len (h.segMay hl) hj).2
   have P := h.planned
   refine .inr (.inr (.inr ?_))
   have d : m.eO 0 = m.eL m.segs.length := rfl
   by_cases tk : (m.sg k).typ = 1
   ·have a := P.load_at (k := k) (by omega) tk
    by_cases tl : (m.sg l).typ = 1
    ·have b := P.load_at hl tl
     have c : m.eL (k + 1) ≤ m.eL l := mono_of (m.eL_step P.ok.n1) (by omega)
     omega
    ·have b := P.other_at hl tl hj
     have c := P.eL_in (k := k + 1) (by omega)
     have c2 : m.eO 0 ≤ m.eO l := mono_of (m.eO_step P.ok.n1) (by omega)
     omega
   ·have a := P.other_at (k := k) (by omega) tk hi
    by_cases tl : (m.sg l).typ = 1
    ·have b := P.load_at hl tl
     have c := P.eL_in (k := l + 1) hl
     have c2 : m.eO 0 ≤ m.eO k := mono_of (m.eO_step P.ok.n1) (by omega)
     omega
    ·have b := P.other_at hl tl hj
     have c : m.eO (k + 1) ≤ m.eO l := mono_of (m.eO_step P.ok.n1) (by omega)
     omega
  ·exact .inr (.inr (.inl (by rw [(may_in_is (h.segMay hl) hj).1]; rfl)))
 ·exact .inr (.inl (by rw [(may_in_is (h.segMay (by omega)) hi).1]; rfl))
theorem Good.p3 (h : Good m) {k l : Nat} (hk : k < l) (hl : l < m.secs.length) : Off (m.P3 k) (m.se k).pl.own (m.P3 l) (m.se l).pl.own := by
 by_cases hi : (m.se k).pl.inn = -1
 ·by_cases hj : (m.se l).pl.inn = -1
  ·have h1 := (may_own_len (h.secMay (k := k) (by omega)).1 hi).2
   have P := h.planned
   refine .inr (.inr (.inr ?_))
   have a := P.sec_at (k := k) (by omega) hi
   have b := P.sec_at hl hj
   have c : m.eS (k + 1) ≤ m.eS l := mono_of (m.eS_step P.ok.n1) (by omega)
   omega
  ·exact .inr (.inr (.inl (by rw [(may_in_is (h.secMay hl).1 hj).1]; rfl)))
 ·exact .inr (.inl (by rw [(may_in_is (h.secMay (k := k) (by omega)).1 hi).1]; rfl))
theorem Good.p1 (h : Good m) {k l : Nat} (hk : k < l) : Off (m.phoff + k * pSize m.wide) ((m.pg k).L m.wide m.big) (m.phoff + l * pSize m.wide) ((m.pg l).L m.wide m.big) := by
 have := mul_step (z := pSize m.wide) hk
 refine .inr (.inr (.inr (.inl ?_)))
 rw [Pg.lenL]
 omega
theorem Good.p4 (h : Good m) {k l : Nat} (hk : k < l) : Off (m.shoff + (k + 1) * sSize m.wide) ((m.sc k).L m.wide m.big) (m.shoff + (l + 1) * sSize m.wide) ((m.sc l).L m.wide m.big) := by
 have := mul_step (z := sSize m.wide) (show k + 1 < l + 1 by omega)
 refine .inr (.inr (.inr (.inl ?_)))
 rw [Sc.lenL]
 omega
theorem tri {R : Nat → Nat → Prop} (h0 : ∀ k, R k k) (h1 : ∀ k l, k < l → R k l) (h2 : ∀ k l, R k l → R l k) (k l : Nat) : R k l := by
 rcases Nat.lt_trichotomy k l with h | rfl | h
 ·exact h1 k l h
 ·exact h0 k
 ·exact h2 _ _ (h1 l k h)
theorem Good.off (h : Good m) {p q : Nat} {x y : List UInt8} (hp : Stg m m.segs.length m.segs.length m.secs.length m.secs.length p x) (hq : Stg m m.segs.length m.segs.length m.secs.length m.secs.length q y) : Off p x q y := by
 have ho := h.planned.order
 have hh : m.hd.L.length = hSize m.wide := m.hd.lenL
 have key : ∀ {p q : Nat} {x y : List UInt8}, x.length = 0 ∨ y.length = 0 ∨ p + x.length ≤ q → Off p x q y := fun hh => by
  rcases hh with hh | hh | hh
  ·exact .inr (.inl hh)
  ·exact .inr (.inr (.inl hh))
  ·exact .inr (.inr (.inr (.inl hh)))
 rcases hp with ⟨rfl, rfl⟩ | ⟨k, hk, rfl, rfl⟩ | ⟨k, hk, rfl, rfl⟩ | ⟨k, hk, rfl, rfl⟩ | ⟨k, hk, rfl, rfl⟩ <;> rcases hq with ⟨rfl, rfl⟩ | ⟨l, hl, rfl, rfl⟩ | ⟨l, hl, rfl, rfl⟩ | ⟨l, hl, rfl, rfl⟩ | ⟨l, hl, rfl, rfl⟩
 ·exact .inl ⟨rfl, rfl⟩
 ·have b := h.z1 hl; exact key (by omega)
 ·have b := h.z2 hl; exact key (by omega)
 ·have b := h.z3 hl; exact key (by omega)
 ·have b := h.z4 hl; exact key (by omega)
 ·have b := h.z1 hk; exact (key (by omega)).symm
 ·rcases Nat.lt_trichotomy k l with e | rfl | e
  ·exact h.p1 e
  ·exact .inl ⟨rfl, rfl⟩
  ·exact (h.p1 e).symm
 ·have a := h.z1 hk; have b := h.z2 hl; exact key (by omega)
 ·have a := h.z1 hk; have b := h.z3 hl; exact key (by omega)
 ·have a := h.z1 hk; have b := h.z4 hl; exact key (by omega)
 ·have b := h.z2 hk; exact (key (by omega)).symm
 ·have a := h.z1 hl; have b := h.z2 hk; exact (key (by omega)).symm
 ·rcases Nat.lt_trichotomy k l with e | rfl | e
  ·exact h.p2 e hl
  ·exact .inl ⟨rfl, rfl⟩
  ·exact (h.p2 e hk).symm
 ·have a := h.z2 hk; have b := h.z3 hl; exact key (by omega)
 ·have a := h.z2 hk; have b := h.z4 hl; exact key (by omega)
 ·have b := h.z3 hk; exact (key (by omega)).symm
 ·have a := h.z1 hl; have b := h.z3 hk; exact (key (by omega)).symm
 ·have a := h.z2 hl; have b := h.z3 hk; exact (key (by omega)).symm
 ·rcases Nat.lt_trichotomy k l with e | rfl | e
  ·exact h.p3 e hl
  ·exact .inl ⟨rfl, rfl⟩
  ·exact (h.p3 e hk).symm
 ·have a := h.z3 hk; have b := h.z4 hl; exact key (by omega)
 ·have b := h.z4 hk; exact (key (by omega)).symm
 ·have a := h.z1 hl; have b := h.z4 hk; exact (key (by omega)).symm
 ·have a := h.z2 hl; have b := h.z4 hk; exact (key (by omega)).symm
 ·have a := h.z3 hl; have b := h.z4 hk; exact (key (by omega)).symm
 ·rcases Nat.lt_trichotomy k l with e | rfl | e
  ·exact h.p4 e
  ·exact .inl ⟨rfl, rfl⟩
  ·exact (h.p4 e).symm
def FileIs (m : Md) (b : List UInt8) : Prop := Laid (Stg m m.segs.length m.segs.length m.secs.length m.secs.length) b ∧ b.length = m.eT
theorem FileIs.one {b c : List UInt8} (h : FileIs m b) (k : FileIs m c) : b = c := h.1.one k.1 (h.2.trans k.2.symm)
theorem Good.putA (h : Good m) {a b c d : Nat} {L : List UInt8} (hL : Laid (Stg m a b c d) L) (ha : a < m.segs.length) (hb : b ≤ m.segs.length) (hc : c ≤ m.secs.length) (hd : d ≤ m.secs.length)
  (hl : m.phoff + a * pSize m.wide + ((m.pg a).L m.wide m.big).length ≤ L.length) : Laid (Stg m (a + 1) b c d) (put L (m.phoff + a * pSize m.wide) ((m.pg a).L m.wide m.big)) :=
 hL.put (Stg.a1 m a b c d) (fun q y hs => h.off (hs.mono (by omega) hb hc hd) (.inr (.inl ⟨a, ha, rfl, rfl⟩))) hl
theorem Good.putB (h : Good m) {a b c d : Nat} {L : List UInt8} (hL : Laid (Stg m a b c d) L) (ha : a ≤ m.segs.length) (hb : b < m.segs.length) (hc : c ≤ m.secs.length) (hd : d ≤ m.secs.length)
  (hl : m.P2 b + (m.sg b).pl.own.length ≤ L.length) : Laid (Stg m a (b + 1) c d) (put L (m.P2 b) (m.sg b).pl.own) :=
 hL.put (Stg.b1 m a b c d) (fun q y hs => h.off (hs.mono ha (by omega) hc hd) (.inr (.inr (.inl ⟨b, hb, rfl, rfl⟩)))) hl
theorem Good.putC (h : Good m) {a b c d : Nat} {L : List UInt8} (hL : Laid (Stg m a b c d) L) (ha : a ≤ m.segs.length) (hb : b ≤ m.segs.length) (hc : c < m.secs.length) (hd : d ≤ m.secs.length)
  (hl : m.P3 c + (m.se c).pl.own.length ≤ L.length) : Laid (Stg m a b (c + 1) d) (put L (m.P3 c) (m.se c).pl.own) :=
 hL.put (Stg.c1 m a b c d) (fun q y hs => h.off (hs.mono ha hb (by omega) hd) (.inr (.inr (.inr (.inl ⟨c, hc, rfl, rfl⟩))))) hl
theorem Good.putD (h : Good m) {a b c d : Nat} {L : List UInt8} (hL : Laid (Stg m a b c d) L) (ha : a ≤ m.segs.length) (hb : b ≤ m.segs.length) (hc : c ≤ m.secs.length) (hd : d < m.secs.length)
  (hl : m.shoff + (d + 1) * sSize m.wide + ((m.sc d).L m.wide m.big).length ≤ L.length) : Laid (Stg m a b c (d + 1)) (put L (m.shoff + (d + 1) * sSize m.wide) ((m.sc d).L m.wide m.big)) :=
 hL.put (Stg.d1 m a b c d) (fun q y hs => h.off (hs.mono ha hb hc (by omega)) (.inr (.inr (.inr (.inr ⟨d, hd, rfl, rfl⟩))))) hl
theorem first_laid {L : List UInt8} (hL : Laid (fun _ _ => False) L) (hl : m.hd.L.length ≤ L.length) : Laid (Stg m 0 0 0 0) (put L 0 m.hd.L) := by
 refine hL.put (fun q y => ?_) (fun q y hs => hs.elim) (by omega)
 unfold Stg
 simp
end
theorem rowF_zip (l : List UInt8) (big : Bool) : ∀ (ns : List Nat) (p : Nat), rowF ((nums l big p ns).zip ns) = true
 | [], _ => rfl
 | n :: r, p => by
  simp only [nums, List.zip_cons_cons, rowF, rowF_zip l big r (p + n), Bool.and_true, decide_eq_true_eq]
  exact Nat.lt_of_lt_of_le (getB_lt _ big) (Nat.pow_le_pow_right (by decide) (by simp; omega))
theorem pgOf_fits (l : List UInt8) (p : Nat) (wide big : Bool) : rowF ((pgOf l p wide big).Q wide) = true := by
 rw [pgOf_Q, pX]; exact rowF_zip l big _ _
theorem pgOf_L (l : List UInt8) (p : Nat) (wide big : Bool) (h : p + pSize wide ≤ l.length) : (pgOf l p wide big).L wide big = (l.drop p).take (pSize wide) := by
 rw [Pg.L, pgOf_Q, pX, rowB_nums l big _ _ (by rw [sum_pRow]; exact h), sum_pRow]
theorem Pg.sndQ (p : Pg) (wide : Bool) : (p.Q wide).map (·.2) = pRow wide := by
 rw [Pg.Q, pRow, List.map_map]; rfl
theorem pX_put (p : Pg) (wide big : Bool) (hf : rowF (p.Q wide) = true) (pre post : List UInt8) : pX (pre ++ p.L wide big ++ post) pre.length wide big = (pOrd wide).map fun i => p.N.getD i 0 := by
 have := nums_rowB big post (p.Q wide) pre hf
 rw [p.sndQ] at this
 rw [pX, Pg.L, this, Pg.Q, List.map_map]
 rfl
theorem pgOf_put (p : Pg) (wide big : Bool) (hf : rowF (p.Q wide) = true) (pre post : List UInt8) : pgOf (pre ++ p.L wide big ++ post) pre.length wide big = p := by
 have e := pX_put p wide big hf pre post
 unfold pgOf
 rw [e]
 obtain ⟨ty, fl, off, va, pa, fs, ms, al⟩ := p
 cases wide <;> rfl
theorem wide_fitsP (p : Pg) (ok : p.Ok) : rowF (p.Q true) = true := by
 obtain ⟨ty, fl, off, va, pa, fs, ms, al⟩ := p
 obtain ⟨k1, k2, k3, k4, k5, k6, k7, k8⟩ := ok
 simp only [] at *
 have e : (Pg.Q ⟨ty, fl, off, va, pa, fs, ms, al⟩ true) = [(ty, 4), (fl, 4), (off, 8), (va, 8), (pa, 8), (fs, 8), (ms, 8), (al, 8)] := rfl
 rw [e]
 simp only [rowF, Bool.and_eq_true, decide_eq_true_eq, and_true]
 omega
theorem rowF_zipS (l : List UInt8) (big : Bool) : ∀ (ns : List Nat) (p : Nat), rowF ((nums l big p ns).zip ns) = true
 | [], _ => rfl
 | n :: r, p => by
  simp only [nums, List.zip_cons_cons, rowF, rowF_zipS l big r (p + n), Bool.and_true, decide_eq_true_eq]
  exact Nat.lt_of_lt_of_le (getB_lt _ big) (Nat.pow_le_pow_right (by decide) (by simp; omega))
theorem scOf_fits (l : List UInt8) (p : Nat) (wide big : Bool) : rowF ((scOf l p wide big).Q wide) = true := by
 rw [scOf_Q, sX]; exact rowF_zipS l big _ _
theorem scOf_L (l : List UInt8) (p : Nat) (wide big : Bool) (h : p + sSize wide ≤ l.length) : (scOf l p wide big).L wide big = (l.drop p).take (sSize wide) := by
 rw [Sc.L, scOf_Q, sX, rowB_nums l big _ _ (by rw [sum_sRow]; exact h), sum_sRow]
theorem sX_put (p : Sc) (wide big : Bool) (hf : rowF (p.Q wide) = true) (pre post : List UInt8) : sX (pre ++ p.L wide big ++ post) pre.length wide big = p.N := by
 have := nums_rowB big post (p.Q wide) pre hf
 rw [p.sndQ, p.fstQ] at this
 exact this
theorem scOf_put (p : Sc) (wide big : Bool) (hf : rowF (p.Q wide) = true) (pre post : List UInt8) : scOf (pre ++ p.L wide big ++ post) pre.length wide big = p := by
 have e := sX_put p wide big hf pre post
 unfold scOf
 rw [e]
 rfl
theorem wide_fitsS (p : Sc) (ok : p.Ok) : rowF (p.Q true) = true := by
 obtain ⟨na, ty, fl, ad, off, sz, li, inf, al, en⟩ := p
 obtain ⟨k1, k2, k3, k4, k5, k6, k7, k8, k9, k10⟩ := ok
 simp only [] at *
 have e : (Sc.Q ⟨na, ty, fl, ad, off, sz, li, inf, al, en⟩ true) = [(na, 4), (ty, 4), (fl, 8), (ad, 8), (off, 8), (sz, 8), (li, 4), (inf, 4), (al, 8), (en, 8)] := rfl
 rw [e]
 simp only [rowF, Bool.and_eq_true, decide_eq_true_eq, and_true]
 omega
end Go.Proofs.YtlccbekalccahaaGreatDoor
