/-
  Several texts in one: Bytes laid piece by piece; What was put is got, and what is got, put, is those bytes, in plain words; What was written is read, field by field, whatever stands behind it; The contracts of file.
-/
import Derived.Test.YtaianmonokeimaaIbH25
import Derived.Test.YtaianmonokeimaaIbH17
import Derived.Test.YtaianmonokeimaaIbH18
namespace Go.Proofs.Ytaianmonokeimaa
open Go.Lib (hid)
open Go.RowKit
set_option linter.unusedVariables false
def put (b : List UInt8) (p : Nat) (x : List UInt8) : List UInt8 := b.take p ++ x ++ b.drop (p + x.length)
theorem put_len {b x : List UInt8} {p : Nat} (h : p + x.length ≤ b.length) : (put b p x).length = b.length := by
 unfold put
 simp only [List.length_append, List.length_take, List.length_drop]
 omega
theorem put_get {b x : List UInt8} {p : Nat} (h : p + x.length ≤ b.length) (j : Nat) : (put b p x)[j]? = if p ≤ j ∧ j < p + x.length then x[j - p]? else b[j]? := by
 unfold put
 have hl : (b.take p).length = p := by rw [List.length_take]; omega
 rcases Nat.lt_or_ge j p with h1 | h1
 ·rw [if_neg (by omega), List.append_assoc, List.getElem?_append_left (by omega), List.getElem?_take_of_lt h1]
 ·rcases Nat.lt_or_ge j (p + x.length) with h2 | h2
  ·rw [if_pos ⟨h1, h2⟩, List.append_assoc, List.getElem?_append_right (by omega), hl, List.getElem?_append_left (by omega)]
  ·rw [if_neg (by omega), List.getElem?_append_right (by rw [List.length_append, hl]; omega), List.length_append, hl, List.getElem?_drop, show p + x.length + (j - (p + x.length)) = j by omega]
def Off (p : Nat) (x : List UInt8) (q : Nat) (y : List UInt8) : Prop := (p = q ∧ x = y) ∨ x.length = 0 ∨ y.length = 0 ∨ p + x.length ≤ q ∨ q + y.length ≤ p
theorem Off.symm {p q : Nat} {x y : List UInt8} (h : Off p x q y) : Off q y p x := by
 rcases h with ⟨h1, h2⟩ | h | h | h | h
 ·exact .inl ⟨h1.symm, h2.symm⟩
 ·exact .inr (.inr (.inl h))
 ·exact .inr (.inl h)
 ·exact .inr (.inr (.inr (.inr h)))
 ·exact .inr (.inr (.inr (.inl h)))
def Laid (S : Nat → List UInt8 → Prop) (b : List UInt8) : Prop :=
 (∀ p x, S p x → ∀ j, j < x.length → b[p + j]? = x[j]?) ∧ ∀ j, j < b.length → (∀ p x, S p x → ¬(p ≤ j ∧ j < p + x.length)) → b[j]? = some 0
theorem Laid.none (n : Nat) : Laid (fun _ _ => False) (List.replicate n 0) := ⟨fun _ _ h => h.elim, fun j hj _ => by rw [List.length_replicate] at hj; rw [List.getElem?_replicate, if_pos hj]⟩
theorem Laid.put {S T : Nat → List UInt8 → Prop} {b x : List UInt8} {p : Nat} (h : Laid S b) (e : ∀ q y, T q y ↔ S q y ∨ (q = p ∧ y = x)) (ho : ∀ q y, S q y → Off q y p x) (hl : p + x.length ≤ b.length) : Laid T (put b p x) := by
 refine ⟨fun q y ht j hj => ?_, fun j hj hn => ?_⟩
 ·rw [put_get hl]
  rcases (e q y).1 ht with hs | ⟨rfl, rfl⟩
  ·split
   ·rename_i hin
    rcases ho q y hs with ⟨rfl, rfl⟩ | h1 | h1 | h1 | h1
    ·congr 1; omega
    ·omega
    ·omega
    ·omega
    ·omega
   ·exact h.1 q y hs j hj
  ·rw [if_pos (by omega)]
   congr 1; omega
 ·rw [put_len hl] at hj
  rw [put_get hl, if_neg (hn p x ((e p x).2 (.inr ⟨rfl, rfl⟩)))]
  exact h.2 j hj fun q y hs => hn q y ((e q y).2 (.inl hs))
theorem Laid.read {S : Nat → List UInt8 → Prop} {b x : List UInt8} {p : Nat} (h : Laid S b) (hs : S p x) : (b.drop p).take x.length = x := by
 apply List.ext_getElem?
 intro j
 rcases Nat.lt_or_ge j x.length with hj | hj
 ·rw [List.getElem?_take_of_lt hj, List.getElem?_drop, h.1 p x hs j hj]
 ·rw [List.getElem?_take_eq_none hj, List.getElem?_eq_none hj]
def Stg (m : Md) (a b c d : Nat) (p : Nat) (x : List UInt8) : Prop :=
 (p = 0 ∧ x = m.hd.L) ∨ (∃ k, k < a ∧ p = m.phoff + k * pSize m.wide ∧ x = (m.pg k).L m.wide m.big) ∨ (∃ k, k < b ∧ p = m.P2 k ∧ x = (m.sg k).pl.own) ∨
 (∃ k, k < c ∧ p = m.P3 k ∧ x = (m.se k).pl.own) ∨ (∃ k, k < d ∧ p = m.shoff + (k + 1) * sSize m.wide ∧ x = (m.sc k).L m.wide m.big)
theorem Stg.head (m : Md) (a b c d : Nat) : Stg m a b c d 0 m.hd.L := .inl ⟨rfl, rfl⟩
theorem Stg.mono {m : Md} {a b c d a' b' c' d' p : Nat} {x : List UInt8} (h : Stg m a b c d p x) (h1 : a ≤ a') (h2 : b ≤ b') (h3 : c ≤ c') (h4 : d ≤ d') : Stg m a' b' c' d' p x := by
 rcases h with h | ⟨k, hk, h⟩ | ⟨k, hk, h⟩ | ⟨k, hk, h⟩ | ⟨k, hk, h⟩
 ·exact .inl h
 ·exact .inr (.inl ⟨k, by omega, h⟩)
 ·exact .inr (.inr (.inl ⟨k, by omega, h⟩))
 ·exact .inr (.inr (.inr (.inl ⟨k, by omega, h⟩)))
 ·exact .inr (.inr (.inr (.inr ⟨k, by omega, h⟩)))
theorem ex_succ {P : Nat → Prop} {n : Nat} : (∃ k, k < n + 1 ∧ P k) ↔ (∃ k, k < n ∧ P k) ∨ P n := by
 constructor
 ·rintro ⟨k, hk, h⟩
  rcases Nat.lt_or_ge k n with h1 | h1
  ·exact .inl ⟨k, h1, h⟩
  ·exact .inr (by rwa [show n = k by omega])
 ·rintro (⟨k, hk, h⟩ | h)
  ·exact ⟨k, by omega, h⟩
  ·exact ⟨n, by omega, h⟩
theorem Stg.a1 (m : Md) (a b c d : Nat) (p : Nat) (x : List UInt8) : Stg m (a + 1) b c d p x ↔ Stg m a b c d p x ∨ (p = m.phoff + a * pSize m.wide ∧ x = (m.pg a).L m.wide m.big) := by
 unfold Stg
 rw [ex_succ]
 simp only [or_assoc, or_comm, or_left_comm]
theorem Stg.b1 (m : Md) (a b c d : Nat) (p : Nat) (x : List UInt8) : Stg m a (b + 1) c d p x ↔ Stg m a b c d p x ∨ (p = m.P2 b ∧ x = (m.sg b).pl.own) := by
 unfold Stg
 rw [ex_succ]
 simp only [or_assoc, or_comm, or_left_comm]
theorem Stg.c1 (m : Md) (a b c d : Nat) (p : Nat) (x : List UInt8) : Stg m a b (c + 1) d p x ↔ Stg m a b c d p x ∨ (p = m.P3 c ∧ x = (m.se c).pl.own) := by
 unfold Stg
 rw [ex_succ]
 simp only [or_assoc, or_comm, or_left_comm]
theorem Stg.d1 (m : Md) (a b c d : Nat) (p : Nat) (x : List UInt8) : Stg m a b c (d + 1) p x ↔ Stg m a b c d p x ∨ (p = m.shoff + (d + 1) * sSize m.wide ∧ x = (m.sc d).L m.wide m.big) := by
 unfold Stg
 rw [ex_succ]
 simp only [or_assoc, or_comm, or_left_comm]
section
variable {m : Md}
theorem shoff_is (h : Good m) (h0 : 0 < m.secs.length) : m.eS m.secs.length ≤ m.shoff ∧ m.shoff + sSize m.wide * (m.secs.length + 1) = m.eT := by
 have hf := h.eT
 have e : m.eT = fin (m.eS m.secs.length) 0 8 (byWide m.wide 40 64 * (m.secs.length + 1)) := by unfold Md.eT; rw [if_pos h0]
 have e2 : m.shoff = plc (m.eS m.secs.length) 0 8 := by unfold Md.shoff; rw [if_pos h0]
 have hin := fin_in (e := m.eS m.secs.length) (v := 0) (a := 8) (n := byWide m.wide 40 64 * (m.secs.length + 1)) (by rw [← e]; exact hf)
 rw [e, e2]
 exact ⟨hin.2.2.2, hin.2.2.1⟩
theorem phoff_is (h : Good m) (h0 : 0 < m.segs.length) : m.phoff = hSize m.wide ∧ m.phoff + pSize m.wide * m.segs.length = m.e1 := by
 unfold Md.phoff Md.e1 pSize
 rw [if_pos h0]
 exact ⟨rfl, rfl⟩
theorem mul_step {k n z : Nat} (h : k < n) : k * z + z ≤ n * z := by
 have := Nat.mul_le_mul_right z (show k + 1 ≤ n from h)
 rw [Nat.succ_mul] at this
 exact this
theorem Good.z1 (h : Good m) {k : Nat} (hk : k < m.segs.length) : hSize m.wide ≤ m.phoff + k * pSize m.wide ∧ m.phoff + k * pSize m.wide + ((m.pg k).L m.wide m.big).length ≤ m.e1 := by
 obtain ⟨h1, h2⟩ := phoff_is h (by omega)
 have := mul_step (z := pSize m.wide) hk
 rw [Nat.mul_comm] at h2
 rw [Pg.lenL]
 omega
theorem Good.z2 (h : Good m) {k : Nat} (hk : k < m.segs.length) : (m.sg k).pl.own.length = 0 ∨ (m.e1 ≤ m.P2 k ∧ m.P2 k + (m.sg k).pl.own.length ≤ m.eS 0) := by
 by_cases hi : (m.sg k).pl.inn = -1
 ·refine .inr ?_
  have hl := (may_own_len (h.segMay hk) hi).2
  have P := h.planned
  have ho := P.order
  by_cases ht : (m.sg k).typ = 1
  ·have a := P.load_at hk ht
   have b := P.eL_in (k := k + 1) hk
   have c : m.eL 0 ≤ m.eL k := mono_of (m.eL_step P.ok.n1) (by omega)
   have d : m.eL 0 = m.e1 := rfl
   omega
  ·have a := P.other_at hk ht hi
   have b := P.eO_in (k := k + 1) hk
   have c : m.eO 0 ≤ m.eO k := mono_of (m.eO_step P.ok.n1) (by omega)
   have d : m.eO 0 = m.eL m.segs.length := rfl
   omega
 ·exact .inl (by rw [(may_in_is (h.segMay hk) hi).1]; rfl)
theorem Good.z3 (h : Good m) {k : Nat} (hk : k < m.secs.length) : (m.se k).pl.own.length = 0 ∨ (m.eS 0 ≤ m.P3 k ∧ m.P3 k + (m.se k).pl.own.length ≤ m.eS m.secs.length) := by
 by_cases hi : (m.se k).pl.inn = -1
 ·refine .inr ?_
  have hl := (may_own_len (h.secMay hk).1 hi).2
  have P := h.planned
  have a := P.sec_at hk hi
  have b : m.eS (k + 1) ≤ m.eS m.secs.length := mono_of (m.eS_step P.ok.n1) hk
  have c : m.eS 0 ≤ m.eS k := mono_of (m.eS_step P.ok.n1) (by omega)
  omega
 ·exact .inl (by rw [(may_in_is (h.secMay hk).1 hi).1]; rfl)
theorem Good.z4 (h : Good m) {k : Nat} (hk : k < m.secs.length) : m.eS m.secs.length ≤ m.shoff + (k + 1) * sSize m.wide ∧ m.shoff + (k + 1) * sSize m.wide + ((m.sc k).L m.wide m.big).length ≤ m.eT := by
 obtain ⟨h1, h2⟩ := shoff_is h (by omega)
 have := mul_step (z := sSize m.wide) (show k + 1 < m.secs.length + 1 by omega)
 rw [Nat.mul_comm] at h2
 rw [Sc.lenL]
 omega
theorem Good.p2 (h : Good m) {k l : Nat} (hk : k < l) (hl : l < m.segs.length) : Off (m.P2 k) (m.sg k).pl.own (m.P2 l) (m.sg l).pl.own := by
 by_cases hi : (m.sg k).pl.inn = -1
 ·by_cases hj : (m.sg l).pl.inn = -1
  ·have h1 := (may_own_len (h.segMay (by omega)) hi).2
   have h2 := (may_own_len (h.segMay hl) hj).2
   have P := h.planned
   refine .inr (.inr (.inr ?_))
   have d : m.eO 0 = m.eL m.segs.length := rfl
   by_cases tk : (m.sg k).typ = 1
   ·have a := P.load_at (k := k) (by omega) tk
    by_cases tl : (m.sg l).typ = 1
    ·have b := P.load_at hl tl
     have c : m.eL (k + 1) ≤ m.eL l := mono_of (m.eL_step P.ok.n1) (by omega)
     omega
    ·have b := P.other_at hl tl hj
     have c := P.eL_in (k := k + 1) (by omega)
     have c2 : m.eO 0 ≤ m.eO l := mono_of (m.eO_step P.ok.n1) (by omega)
     omega
   ·have a := P.other_at (k := k) (by omega) tk hi
    by_cases tl : (m.sg l).typ = 1
    ·have b := P.load_at hl tl
     have c := P.eL_in (k := l + 1) hl
     have c2 : m.eO 0 ≤ m.eO k := mono_of (m.eO_step P.ok.n1) (by omega)
     omega
    ·have b := P.other_at hl tl hj
     have c : m.eO (k + 1) ≤ m.eO l := mono_of (m.eO_step P.ok.n1) (by omega)
     omega
  ·exact .inr (.inr (.inl (by rw [(may_in_is (h.segMay hl) hj).1]; rfl)))
 ·exact .inr (.inl (by rw [(may_in_is (h.segMay (by omega)) hi).1]; rfl))
theorem Good.p3 (h : Good m) {k l : Nat} (hk : k < l) (hl : l < m.secs.length) : Off (m.P3 k) (m.se k).pl.own (m.P3 l) (m.se l).pl.own := by
 by_cases hi : (m.se k).pl.inn = -1
 ·by_cases hj : (m.se l).pl.inn = -1
  ·have h1 := (may_own_len (h.secMay (k := k) (by omega)).1 hi).2
   have P := h.planned
   refine .inr (.inr (.inr ?_))
   have a := P.sec_at (k := k) (by omega) hi
   have b := P.sec_at hl hj
   have c : m.eS (k + 1) ≤ m.eS l := mono_of (m.eS_step P.ok.n1) (by omega)
   omega
  ·exact .inr (.inr (.inl (by rw [(may_in_is (h.secMay hl).1 hj).1]; rfl)))
 ·exact .inr (.inl (by rw [(may_in_is (h.secMay (k := k) (by omega)).1 hi).1]; rfl))
theorem Good.p1 (h : Good m) {k l : Nat} (hk : k < l) : Off (m.phoff + k * pSize m.wide) ((m.pg k).L m.wide m.big) (m.phoff + l * pSize m.wide) ((m.pg l).L m.wide m.big) := by
 have := mul_step (z := pSize m.wide) hk
 refine .inr (.inr (.inr (.inl ?_)))
 rw [Pg.lenL]
 omega
theorem Good.p4 (h : Good m) {k l : Nat} (hk : k < l) : Off (m.shoff + (k + 1) * sSize m.wide) ((m.sc k).L m.wide m.big) (m.shoff + (l + 1) * sSize m.wide) ((m.sc l).L m.wide m.big) := by
 have := mul_step (z := sSize m.wide) (show k + 1 < l + 1 by omega)
 refine .inr (.inr (.inr (.inl ?_)))
 rw [Sc.lenL]
 omega
theorem Good.off (h : Good m) {p q : Nat} {x y : List UInt8} (hp : Stg m m.segs.length m.segs.length m.secs.length m.secs.length p x) (hq : Stg m m.segs.length m.segs.length m.secs.length m.secs.length q y) : Off p x q y := by
 have ho := h.planned.order
 have hh : m.hd.L.length = hSize m.wide := m.hd.lenL
 have key : ∀ {p q : Nat} {x y : List UInt8}, x.length = 0 ∨ y.length = 0 ∨ p + x.length ≤ q → Off p x q y := fun hh => by
  rcases hh with hh | hh | hh
  ·exact .inr (.inl hh)
  ·exact .inr (.inr (.inl hh))
  ·exact .inr (.inr (.inr (.inl hh)))
 rcases hp with ⟨rfl, rfl⟩ | ⟨k, hk, rfl, rfl⟩ | ⟨k, hk, rfl, rfl⟩ | ⟨k, hk, rfl, rfl⟩ | ⟨k, hk, rfl, rfl⟩ <;> rcases hq with ⟨rfl, rfl⟩ | ⟨l, hl, rfl, rfl⟩ | ⟨l, hl, rfl, rfl⟩ | ⟨l, hl, rfl, rfl⟩ | ⟨l, hl, rfl, rfl⟩
 ·exact .inl ⟨rfl, rfl⟩
 ·have b := h.z1 hl; exact key (by omega)
 ·have b := h.z2 hl; exact key (by omega)
 ·have b := h.z3 hl; exact key (by omega)
 ·have b := h.z4 hl; exact key (by omega)
 ·have b := h.z1 hk; exact (key (by omega)).symm
 ·rcases Nat.lt_trichotomy k l with e | rfl | e
  ·exact h.p1 e
  ·exact .inl ⟨rfl, rfl⟩
  ·exact (h.p1 e).symm
 ·have a := h.z1 hk; have b := h.z2 hl; exact key (by omega)
 ·have a := h.z1 hk; have b := h.z3 hl; exact key (by omega)
 ·have a := h.z1 hk; have b := h.z4 hl; exact key (by omega)
 ·have b := h.z2 hk; exact (key (by omega)).symm
 ·have a := h.z1 hl; have b := h.z2 hk; exact (key (by omega)).symm
 ·rcases Nat.lt_trichotomy k l with e | rfl | e
  ·exact h.p2 e hl
  ·exact .inl ⟨rfl, rfl⟩
  ·exact (h.p2 e hk).symm
 ·have a := h.z2 hk; have b := h.z3 hl; exact key (by omega)
 ·have a := h.z2 hk; have b := h.z4 hl; exact key (by omega)
 ·have b := h.z3 hk; exact (key (by omega)).symm
 ·have a := h.z1 hl; have b := h.z3 hk; exact (key (by omega)).symm
 ·have a := h.z2 hl; have b := h.z3 hk; exact (key (by omega)).symm
 ·rcases Nat.lt_trichotomy k l with e | rfl | e
  ·exact h.p3 e hl
  ·exact .inl ⟨rfl, rfl⟩
  ·exact (h.p3 e hk).symm
 ·have a := h.z3 hk; have b := h.z4 hl; exact key (by omega)
 ·have b := h.z4 hk; exact (key (by omega)).symm
 ·have a := h.z1 hl; have b := h.z4 hk; exact (key (by omega)).symm
 ·have a := h.z2 hl; have b := h.z4 hk; exact (key (by omega)).symm
 ·have a := h.z3 hl; have b := h.z4 hk; exact (key (by omega)).symm
 ·rcases Nat.lt_trichotomy k l with e | rfl | e
  ·exact h.p4 e
  ·exact .inl ⟨rfl, rfl⟩
  ·exact (h.p4 e).symm
def FileIs (m : Md) (b : List UInt8) : Prop := Laid (Stg m m.segs.length m.segs.length m.secs.length m.secs.length) b ∧ b.length = m.eT
theorem Good.putA (h : Good m) {a b c d : Nat} {L : List UInt8} (hL : Laid (Stg m a b c d) L) (ha : a < m.segs.length) (hb : b ≤ m.segs.length) (hc : c ≤ m.secs.length) (hd : d ≤ m.secs.length)
  (hl : m.phoff + a * pSize m.wide + ((m.pg a).L m.wide m.big).length ≤ L.length) : Laid (Stg m (a + 1) b c d) (put L (m.phoff + a * pSize m.wide) ((m.pg a).L m.wide m.big)) :=
 hL.put (Stg.a1 m a b c d) (fun q y hs => h.off (hs.mono (by omega) hb hc hd) (.inr (.inl ⟨a, ha, rfl, rfl⟩))) hl
theorem Good.putB (h : Good m) {a b c d : Nat} {L : List UInt8} (hL : Laid (Stg m a b c d) L) (ha : a ≤ m.segs.length) (hb : b < m.segs.length) (hc : c ≤ m.secs.length) (hd : d ≤ m.secs.length)
  (hl : m.P2 b + (m.sg b).pl.own.length ≤ L.length) : Laid (Stg m a (b + 1) c d) (put L (m.P2 b) (m.sg b).pl.own) :=
 hL.put (Stg.b1 m a b c d) (fun q y hs => h.off (hs.mono ha (by omega) hc hd) (.inr (.inr (.inl ⟨b, hb, rfl, rfl⟩)))) hl
theorem Good.putC (h : Good m) {a b c d : Nat} {L : List UInt8} (hL : Laid (Stg m a b c d) L) (ha : a ≤ m.segs.length) (hb : b ≤ m.segs.length) (hc : c < m.secs.length) (hd : d ≤ m.secs.length)
  (hl : m.P3 c + (m.se c).pl.own.length ≤ L.length) : Laid (Stg m a b (c + 1) d) (put L (m.P3 c) (m.se c).pl.own) :=
 hL.put (Stg.c1 m a b c d) (fun q y hs => h.off (hs.mono ha hb (by omega) hd) (.inr (.inr (.inr (.inl ⟨c, hc, rfl, rfl⟩))))) hl
theorem Good.putD (h : Good m) {a b c d : Nat} {L : List UInt8} (hL : Laid (Stg m a b c d) L) (ha : a ≤ m.segs.length) (hb : b ≤ m.segs.length) (hc : c ≤ m.secs.length) (hd : d < m.secs.length)
  (hl : m.shoff + (d + 1) * sSize m.wide + ((m.sc d).L m.wide m.big).length ≤ L.length) : Laid (Stg m a b c (d + 1)) (put L (m.shoff + (d + 1) * sSize m.wide) ((m.sc d).L m.wide m.big)) :=
 hL.put (Stg.d1 m a b c d) (fun q y hs => h.off (hs.mono ha hb hc (by omega)) (.inr (.inr (.inr (.inr ⟨d, hd, rfl, rfl⟩))))) hl
theorem first_laid {L : List UInt8} (hL : Laid (fun _ _ => False) L) (hl : m.hd.L.length ≤ L.length) : Laid (Stg m 0 0 0 0) (put L 0 m.hd.L) := by
 refine hL.put (fun q y => ?_) (fun q y hs => hs.elim) (by omega)
 unfold Stg
 simp
end
theorem Pg.sndQ (p : Pg) (wide : Bool) : (p.Q wide).map (·.2) = pRow wide := by
 rw [Pg.Q, pRow, List.map_map]; rfl
theorem pX_put (p : Pg) (wide big : Bool) (hf : rowF (p.Q wide) = true) (pre post : List UInt8) : pX (pre ++ p.L wide big ++ post) pre.length wide big = (pOrd wide).map fun i => p.N.getD i 0 := by
 have := nums_rowB big post (p.Q wide) pre hf
 rw [p.sndQ] at this
 rw [pX, Pg.L, this, Pg.Q, List.map_map]
 rfl
theorem pgOf_put (p : Pg) (wide big : Bool) (hf : rowF (p.Q wide) = true) (pre post : List UInt8) : pgOf (pre ++ p.L wide big ++ post) pre.length wide big = p := by
 have e := pX_put p wide big hf pre post
 unfold pgOf
 rw [e]
 obtain ⟨ty, fl, off, va, pa, fs, ms, al⟩ := p
 cases wide <;> rfl
set_option linter.unusedVariables false
theorem split_at {l x : List UInt8} {p : Nat} (h : (l.drop p).take x.length = x) (hl : p + x.length ≤ l.length) : l = l.take p ++ x ++ l.drop (p + x.length) ∧ (l.take p).length = p := by
 refine ⟨?_, by rw [List.length_take]; omega⟩
 conv => lhs; rw [← List.take_append_drop p l, ← List.take_append_drop x.length (l.drop p)]
 rw [h, List.drop_drop, List.append_assoc]
theorem read_more {L r x : List UInt8} {p : Nat} (h : (L.drop p).take x.length = x) (hl : p + x.length ≤ L.length) : ((L ++ r).drop p).take x.length = x := by
 rw [List.drop_append_of_le_length (by omega), List.take_append_of_le_length (by rw [List.length_drop]; omega), h]
structure Wrote (m : Md) (l : List UInt8) : Prop where
 good : Good m
 len : m.eT ≤ l.length
 max : l.length ≤ 65536
 read : ∀ p x, Stg m m.segs.length m.segs.length m.secs.length m.secs.length p x → p + x.length ≤ m.eT → (l.drop p).take x.length = x
theorem wrote_of {m : Md} (h : Good m) {L r : List UInt8} (hf : FileIs m L) (hl : (L ++ r).length ≤ 65536) : Wrote m (L ++ r) :=
 ⟨h, by rw [List.length_append, hf.2]; omega, hl, fun p x hs hx => read_more (hf.1.read hs) (by rw [hf.2]; exact hx)⟩
section
variable {m : Md} {l : List UInt8}
theorem Wrote.head (w : Wrote m l) : ∃ r, l = m.hd.L ++ r := by
 have ho := w.good.planned.order
 have hh : m.hd.L.length = hSize m.wide := m.hd.lenL
 have h1 := w.read 0 m.hd.L (Stg.head m _ _ _ _) (by omega)
 have h2 := (split_at h1 (by have := w.len; omega)).1
 rw [List.take_zero, List.nil_append] at h2
 exact ⟨_, h2⟩
theorem Wrote.hdOf (w : Wrote m l) : hdOf l = m.hd := by
 obtain ⟨r, e⟩ := w.head
 rw [e]
 exact hdOf_put _ w.good.hdFits r
theorem Wrote.told (w : Wrote m l) : HTold l 0 0 (Go.Proofs.Ytaianmonokeimaa.hdOf l).V := by
 rw [w.hdOf]
 obtain ⟨r, e⟩ := w.head
 rw [e]
 exact put_told _ w.good.hdFits r
theorem Wrote.wide (w : Wrote m l) : lWide l = m.wide := by
 have := congrArg Hd.wide w.hdOf
 exact this
theorem Wrote.big (w : Wrote m l) : lBig l = m.big := by
 have := congrArg Hd.big w.hdOf
 exact this
theorem Wrote.pAt (w : Wrote m l) (i : Nat) : pAt l i = m.phoff + i * pSize m.wide := by
 unfold Go.Proofs.Ytaianmonokeimaa.pAt
 rw [w.hdOf, w.wide]
 rfl
theorem Wrote.pgs (w : Wrote m l) {i : Nat} (hi : i < m.segs.length) (hf : rowF ((m.pg i).Q m.wide) = true) : pgs l i = m.pg i := by
 have hz := w.good.z1 hi
 have ho := w.good.planned.order
 have h1 := w.read (m.phoff + i * pSize m.wide) ((m.pg i).L m.wide m.big) (.inr (.inl ⟨i, hi, rfl, rfl⟩)) (by omega)
 obtain ⟨h2, h3⟩ := split_at h1 (by have := w.len; omega)
 unfold Go.Proofs.Ytaianmonokeimaa.pgs
 rw [w.pAt, w.wide, w.big]
 have := pgOf_put (m.pg i) m.wide m.big hf (l.take (m.phoff + i * pSize m.wide)) (l.drop (m.phoff + i * pSize m.wide + ((m.pg i).L m.wide m.big).length))
 rw [← h2, h3] at this
 exact this
theorem in_yes {len p n : Nat} (h : p + n ≤ len) : inB len p n = true := by unfold inB; simp [h]
end
set_option maxRecDepth 100000
theorem entry_any (b i z : Nat) (w : World) (h : b + i * z < 18446744073709551616) (hi : i < 100000) (hz : z < 1000) :
  Calls Try.prog 25 #[.int .u64 (b : Int), .int .i64 (i : Int), .int .i64 (z : Int)] w fun e w' => e = .returned (.int .u64 ((b + i * z : Nat) : Int)) ∧ w = w' := by
 have q1 : IntKind.u64.wrap (i : Int) = (i : Int) := by rw [IntKind.wrap_u64]; omega
 have q2 : IntKind.u64.wrap (z : Int) = (z : Int) := by rw [IntKind.wrap_u64]; omega
 have q3 : IntKind.u64.wrap ((i : Int) * (z : Int)) = ((i * z : Nat) : Int) := by
  have : (i : Int) * (z : Int) = ((i * z : Nat) : Int) := by simp
  rw [this, IntKind.wrap_u64]
  omega
 have q4 : IntKind.u64.wrap ((b : Int) + ((i * z : Nat) : Int)) = ((b + i * z : Nat) : Int) := by rw [IntKind.wrap_u64]; omega
 clear h hi hz
 generalize b + i * z = R at q4 ⊢
 generalize i * z = P at q3 q4
 go_enter Try.func25, Try.ntmps25
 go_wp2
 go_ret
 exact ⟨rfl, rfl⟩
theorem entry1_any (b k z : Nat) (w : World) (h : b + (k + 1) * z < 18446744073709551616) (hi : k + 1 < 100000) (hz : z < 1000) :
  Calls Try.prog 25 #[.int .u64 (b : Int), .int .i64 ((k : Int) + 1), .int .i64 (z : Int)] w fun e w' => e = .returned (.int .u64 ((b + (k + 1) * z : Nat) : Int)) ∧ w = w' := by
 have := entry_any b (k + 1) z w h hi hz
 have e : ((k + 1 : Nat) : Int) = (k : Int) + 1 := by omega
 rw [e] at this
 exact this
theorem progOf_any (s : Sg) (off : Nat) (S : Value) (w : World) :
  Calls Try.prog 24 #[.agg (sgC s S), .int .u64 (off : Int)] w fun e w' => e = .returned (Pg.V ⟨s.typ, s.flags, off, s.vaddr, s.paddr, s.pl.size, s.memsz, s.align⟩) ∧ Grow w w' := by
 obtain ⟨x0, x1, x2, x3, x4, x5, i, p, z, o⟩ := s
 unfold sgC
 simp only []
 go_enter Try.func24, Try.ntmps24
 go_wp2_with (refine wpList_store_row rfl 82 (.tmp 4) (.tmp 21) rfl (w.heap.size + 1) (Pg.C ⟨x0, x1, off, x2, x3, z, x4, x5⟩) rfl rfl _ _ (blk2 rfl).2.1 (by kernel_rfl) rfl (Pg.one _) ?_)
 refine bodyPost_ret (results_cell_row (cs := Pg.C ⟨x0, x1, off, x2, x3, z, x4, x5⟩) rfl _ _ (w.heap.size + 1) _ (0, 0) _ rfl ((blk2 rfl).2.1.set _) Try.underlying82 rfl (by kernel_rfl)) rfl ?_
 exact ⟨rfl, Grow.set (blk2 rfl).2.2 (Nat.le_succ _) _⟩
theorem sectOf_any (s : Se) (off : Nat) (S : Value) (w : World) :
  Calls Try.prog 28 #[.agg (seC s S), .int .u64 (off : Int)] w fun e w' => e = .returned (Sc.V ⟨s.name, s.typ, s.flags, s.addr, off, s.size, s.link, s.info, s.align, s.entsize⟩) ∧ Grow w w' := by
 obtain ⟨x0, x1, x2, x3, x4, x5, x6, x7, x8, i, p, z, o⟩ := s
 unfold seC
 simp only []
 go_enter Try.func28, Try.ntmps28
 go_wp2_with (refine wpList_store_row rfl 88 (.tmp 4) (.tmp 24) rfl (w.heap.size + 1) (Sc.C ⟨x0, x1, x2, x3, off, x4, x5, x6, x7, x8⟩) rfl rfl _ _ (blk2 rfl).2.1 (by kernel_rfl) rfl (Sc.one _) ?_)
 refine bodyPost_ret (results_cell_row (cs := Sc.C ⟨x0, x1, x2, x3, off, x4, x5, x6, x7, x8⟩) rfl _ _ (w.heap.size + 1) _ (0, 0) _ rfl ((blk2 rfl).2.1.set _) Try.underlying88 rfl (by kernel_rfl)) rfl ?_
 exact ⟨rfl, Grow.set (blk2 rfl).2.2 (Nat.le_succ _) _⟩
set_option maxHeartbeats 1000000 in
theorem header_any' (wide big : Bool) (o a ty ma fl en ph sh sz n1 c1 n2 c2 st : Nat) (A1 A2 : Option Addr) (S3 S4 : Value) (w : World) (h1 : n1 ≤ 16) (h2 : n2 ≤ 64) (h3 : st ≤ 64) :
  Calls Try.prog 22 #[.agg #[.bool wide, .bool big, .int .u8 (o : Int), .int .u8 (a : Int), .int .u16 (ty : Int), .int .u16 (ma : Int), .int .u32 (fl : Int), .int .u64 (en : Int), .slice A1 n1 c1, .slice A2 n2 c2, .int .i64 (st : Int)],
   .agg #[.int .u64 (ph : Int), .int .u64 (sh : Int), .int .u64 (sz : Int), S3, S4]] w fun e w' => e = .returned (.agg #[.bool wide, .bool big, .int .u8 (o : Int), .int .u8 (a : Int), .int .u16 (ty : Int), .int .u16 (ma : Int), .int .u64 (en : Int), .int .u64 (ph : Int), .int .u64 (sh : Int), .int .u32 (fl : Int), .int .u16 (n1 : Int), .int .u16 ((if 0 < n2 then n2 + 1 else 0 : Nat) : Int), .int .u16 (st : Int)]) ∧ Grow w w' := by
 have q1 : IntKind.u16.wrap (n1 : Int) = (n1 : Int) := by rw [IntKind.wrap_u16]; omega
 have q2 : IntKind.u16.wrap (st : Int) = (st : Int) := by rw [IntKind.wrap_u16]; omega
 have q3 : IntKind.u16.wrap ((n2 : Int) + 1) = (n2 : Int) + 1 := by rw [IntKind.wrap_u16]; omega
 clear h1 h3
 by_cases h0 : 0 < n2
 ·obtain ⟨R, hR⟩ : ∃ R, (if 0 < n2 then n2 + 1 else 0 : Nat) = R := ⟨_, rfl⟩
  rw [hR]
  rw [if_pos h0] at hR
  have HR := hid hR
  have h0' : decide (0 < (n2 : Int)) = true := decide_eq_true (by omega)
  clear hR
  go_enter Try.func22, Try.ntmps22
  go_wp2
  refine bodyPost_ret (results_cell_row rfl _ _ (w.heap.size + 1 + 1) _ _ (0, 0) _ rfl (blk4 rfl).2.2.1 Try.underlying64 rfl (by kernel_rfl)) rfl ?_
  exact ⟨by rw [← HR.out]; rfl, (blk4 rfl).2.2.2.2⟩
 ·rw [if_neg h0]
  have h0' : decide (0 < (n2 : Int)) = false := decide_eq_false (by omega)
  go_enter Try.func22, Try.ntmps22
  go_wp2
  refine bodyPost_ret (results_cell_row rfl _ _ (w.heap.size + 1 + 1) _ _ (0, 0) _ rfl (blk4 rfl).2.2.1 Try.underlying64 rfl (by kernel_rfl)) rfl ?_
  exact ⟨rfl, (blk4 rfl).2.2.2.2⟩
theorem flHeader_any (m : Md) (h : Good m) (A1 A2 : Option Addr) (n1 c1 n2 c2 : Nat) (S3 S4 : Value) (w : World) (l1 : n1 = m.segs.length) (l2 : n2 = m.secs.length) :
  Calls Try.prog 22 #[.agg (mdC m (.slice A1 n1 c1) (.slice A2 n2 c2)), .agg #[.int .u64 (m.phoff : Nat), .int .u64 (m.shoff : Nat), .int .u64 (m.eT : Nat), S3, S4]] w fun e w' => e = .returned m.hd.V ∧ Grow w w' := by
 have hs := h.str
 have e : m.str = ((m.str.toNat : Nat) : Int) := by omega
 have k1 := h.n1
 have k2 := h.n2
 have := header_any' m.wide m.big m.osabi m.abi m.typ m.mach m.flags m.entry m.phoff m.shoff m.eT n1 c1 n2 c2 m.str.toNat A1 A2 S3 S4 w (by omega) (by omega) (by omega)
 rw [← e] at this
 refine Calls.mono this ?_
 rintro en w' ⟨rfl, hg⟩
 refine ⟨?_, hg⟩
 unfold Hd.V Hd.C Md.hd
 simp only []
 rw [u8_of _ h.ok.osabi, u8_of _ h.ok.abi, l1, l2, ← e]
end Go.Proofs.Ytaianmonokeimaa
