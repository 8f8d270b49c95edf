/-
  Several texts in one: Bytes laid piece by piece; What is told of any bytes as a program header, in plain words; What is told of any bytes as a section header, in plain words.
-/
import Derived.Test.YtlccbekalccahaaGreatDoorFbG22
import Derived.Test.YtlccbekalccahaaGreatDoorFbG21

namespace Go.Proofs.YtlccbekalccahaaGreatDoor
open Go.RowKit
set_option linter.unusedVariables false

/-- The bytes b with x laid from p on. -/
def put (b : List UInt8) (p : Nat) (x : List UInt8) : List UInt8 := b.take p ++ x ++ b.drop (p + x.length)
theorem put_len {b x : List UInt8} {p : Nat} (h : p + x.length ≤ b.length) : (put b p x).length = b.length := by
  unfold put
  simp only [List.length_append, List.length_take, List.length_drop]
  omega
theorem put_get {b x : List UInt8} {p : Nat} (h : p + x.length ≤ b.length) (j : Nat) : (put b p x)[j]? = if p ≤ j ∧ j < p + x.length then x[j - p]? else b[j]? := by
  unfold put
  have hl : (b.take p).length = p := by rw [List.length_take]; omega
  rcases Nat.lt_or_ge j p with h1 | h1
  · rw [if_neg (by omega), List.append_assoc, List.getElem?_append_left (by omega), List.getElem?_take_of_lt h1]
  · rcases Nat.lt_or_ge j (p + x.length) with h2 | h2
    · rw [if_pos ⟨h1, h2⟩, List.append_assoc, List.getElem?_append_right (by omega), hl, List.getElem?_append_left (by omega)]
    · rw [if_neg (by omega), List.getElem?_append_right (by rw [List.length_append, hl]; omega), List.length_append, hl, List.getElem?_drop, show p + x.length + (j - (p + x.length)) = j by omega]

/-- Two pieces have no byte in common, or are one. -/
def Off (p : Nat) (x : List UInt8) (q : Nat) (y : List UInt8) : Prop := (p = q ∧ x = y) ∨ x.length = 0 ∨ y.length = 0 ∨ p + x.length ≤ q ∨ q + y.length ≤ p
theorem Off.symm {p q : Nat} {x y : List UInt8} (h : Off p x q y) : Off q y p x := by
  rcases h with ⟨h1, h2⟩ | h | h | h | h
  · exact .inl ⟨h1.symm, h2.symm⟩
  · exact .inr (.inr (.inl h))
  · exact .inr (.inl h)
  · exact .inr (.inr (.inr (.inr h)))
  · exact .inr (.inr (.inr (.inl h)))
/-- The bytes b are what the pieces of S lay, and 0s. -/
def Laid (S : Nat → List UInt8 → Prop) (b : List UInt8) : Prop :=
  (∀ p x, S p x → ∀ j, j < x.length → b[p + j]? = x[j]?) ∧ ∀ j, j < b.length → (∀ p x, S p x → ¬(p ≤ j ∧ j < p + x.length)) → b[j]? = some 0
theorem Laid.none (n : Nat) : Laid (fun _ _ => False) (List.replicate n 0) := ⟨fun _ _ h => h.elim, fun j hj _ => by rw [List.length_replicate] at hj; rw [List.getElem?_replicate, if_pos hj]⟩
theorem Laid.one {S : Nat → List UInt8 → Prop} {b c : List UInt8} (h : Laid S b) (k : Laid S c) (hl : b.length = c.length) : b = c := by
  apply List.ext_getElem?
  intro j
  rcases Nat.lt_or_ge j b.length with hj | hj
  · by_cases hc : ∃ p x, S p x ∧ p ≤ j ∧ j < p + x.length
    · obtain ⟨p, x, hs, h1, h2⟩ := hc
      have e1 := h.1 p x hs (j - p) (by omega)
      have e2 := k.1 p x hs (j - p) (by omega)
      rw [show p + (j - p) = j by omega] at e1 e2
      rw [e1, e2]
    · have hn : ∀ p x, S p x → ¬(p ≤ j ∧ j < p + x.length) := fun p x hs hh => hc ⟨p, x, hs, hh⟩
      rw [h.2 j hj hn, k.2 j (by omega) hn]
  · rw [List.getElem?_eq_none hj, List.getElem?_eq_none (by omega)]
theorem Laid.iff {S T : Nat → List UInt8 → Prop} {b : List UInt8} (h : Laid S b) (e : ∀ p x, S p x ↔ T p x) : Laid T b :=
  ⟨fun p x hs => h.1 p x ((e p x).2 hs), fun j hj hn => h.2 j hj fun p x hs => hn p x ((e p x).1 hs)⟩
theorem Laid.put {S T : Nat → List UInt8 → Prop} {b x : List UInt8} {p : Nat} (h : Laid S b) (e : ∀ q y, T q y ↔ S q y ∨ (q = p ∧ y = x)) (ho : ∀ q y, S q y → Off q y p x) (hl : p + x.length ≤ b.length) : Laid T (put b p x) := by
  refine ⟨fun q y ht j hj => ?_, fun j hj hn => ?_⟩
  · rw [put_get hl]
    rcases (e q y).1 ht with hs | ⟨rfl, rfl⟩
    · split
      · rename_i hin
        rcases ho q y hs with ⟨rfl, rfl⟩ | h1 | h1 | h1 | h1
        · congr 1; omega
        · omega
        · omega
        · omega
        · omega
      · exact h.1 q y hs j hj
    · rw [if_pos (by omega)]
      congr 1; omega
  · rw [put_len hl] at hj
    rw [put_get hl, if_neg (hn p x ((e p x).2 (.inr ⟨rfl, rfl⟩)))]
    exact h.2 j hj fun q y hs => hn q y ((e q y).2 (.inl hs))
/-- 0s behind. -/
theorem Laid.pad {S : Nat → List UInt8 → Prop} {b : List UInt8} (h : Laid S b) (n : Nat) : Laid S (b ++ List.replicate n 0) := by
  refine ⟨fun p x hs j hj => ?_, fun j hj hn => ?_⟩
  · have e := h.1 p x hs j hj
    have hlt : p + j < b.length := by
      rcases Nat.lt_or_ge (p + j) b.length with h1 | h1
      · exact h1
      · rw [List.getElem?_eq_none h1, List.getElem?_eq_getElem hj] at e
        cases e
    rw [List.getElem?_append_left hlt, e]
  · rcases Nat.lt_or_ge j b.length with h1 | h1
    · rw [List.getElem?_append_left h1]
      exact h.2 j h1 hn
    · rw [List.getElem?_append_right h1, List.getElem?_replicate, if_pos (by simp at hj; omega)]
/-- A piece, read. -/
theorem Laid.read {S : Nat → List UInt8 → Prop} {b x : List UInt8} {p : Nat} (h : Laid S b) (hs : S p x) : (b.drop p).take x.length = x := by
  apply List.ext_getElem?
  intro j
  rcases Nat.lt_or_ge j x.length with hj | hj
  · rw [List.getElem?_take_of_lt hj, List.getElem?_drop, h.1 p x hs j hj]
  · rw [List.getElem?_take_eq_none hj, List.getElem?_eq_none hj]

/-- What stands in a model's file: the header, the first a program headers, the own bytes of the first b segments, of the first c sections, the first d section headers. -/
def Stg (m : Md) (a b c d : Nat) (p : Nat) (x : List UInt8) : Prop :=
  (p = 0 ∧ x = m.hd.L) ∨ (∃ k, k < a ∧ p = m.phoff + k * pSize m.wide ∧ x = (m.pg k).L m.wide m.big) ∨ (∃ k, k < b ∧ p = m.P2 k ∧ x = (m.sg k).pl.own) ∨
  (∃ k, k < c ∧ p = m.P3 k ∧ x = (m.se k).pl.own) ∨ (∃ k, k < d ∧ p = m.shoff + (k + 1) * sSize m.wide ∧ x = (m.sc k).L m.wide m.big)
theorem Stg.head (m : Md) (a b c d : Nat) : Stg m a b c d 0 m.hd.L := .inl ⟨rfl, rfl⟩
theorem Stg.mono {m : Md} {a b c d a' b' c' d' p : Nat} {x : List UInt8} (h : Stg m a b c d p x) (h1 : a ≤ a') (h2 : b ≤ b') (h3 : c ≤ c') (h4 : d ≤ d') : Stg m a' b' c' d' p x := by
  rcases h with h | ⟨k, hk, h⟩ | ⟨k, hk, h⟩ | ⟨k, hk, h⟩ | ⟨k, hk, h⟩
  · exact .inl h
  · exact .inr (.inl ⟨k, by omega, h⟩)
  · exact .inr (.inr (.inl ⟨k, by omega, h⟩))
  · exact .inr (.inr (.inr (.inl ⟨k, by omega, h⟩)))
  · exact .inr (.inr (.inr (.inr ⟨k, by omega, h⟩)))
theorem ex_succ {P : Nat → Prop} {n : Nat} : (∃ k, k < n + 1 ∧ P k) ↔ (∃ k, k < n ∧ P k) ∨ P n := by
  constructor
  · rintro ⟨k, hk, h⟩
    rcases Nat.lt_or_ge k n with h1 | h1
    · exact .inl ⟨k, h1, h⟩
    · exact .inr (by rwa [show n = k by omega])
  · rintro (⟨k, hk, h⟩ | h)
    · exact ⟨k, by omega, h⟩
    · exact ⟨n, by omega, h⟩
theorem Stg.a1 (m : Md) (a b c d : Nat) (p : Nat) (x : List UInt8) : Stg m (a + 1) b c d p x ↔ Stg m a b c d p x ∨ (p = m.phoff + a * pSize m.wide ∧ x = (m.pg a).L m.wide m.big) := by
  unfold Stg
  rw [ex_succ]
  simp only [or_assoc, or_comm, or_left_comm]
theorem Stg.b1 (m : Md) (a b c d : Nat) (p : Nat) (x : List UInt8) : Stg m a (b + 1) c d p x ↔ Stg m a b c d p x ∨ (p = m.P2 b ∧ x = (m.sg b).pl.own) := by
  unfold Stg
  rw [ex_succ]
  simp only [or_assoc, or_comm, or_left_comm]
theorem Stg.c1 (m : Md) (a b c d : Nat) (p : Nat) (x : List UInt8) : Stg m a b (c + 1) d p x ↔ Stg m a b c d p x ∨ (p = m.P3 c ∧ x = (m.se c).pl.own) := by
  unfold Stg
  rw [ex_succ]
  simp only [or_assoc, or_comm, or_left_comm]
theorem Stg.d1 (m : Md) (a b c d : Nat) (p : Nat) (x : List UInt8) : Stg m a b c (d + 1) p x ↔ Stg m a b c d p x ∨ (p = m.shoff + (d + 1) * sSize m.wide ∧ x = (m.sc d).L m.wide m.big) := by
  unfold Stg
  rw [ex_succ]
  simp only [or_assoc, or_comm, or_left_comm]

section
variable {m : Md}
theorem shoff_is (h : Good m) (h0 : 0 < m.secs.length) : m.eS m.secs.length ≤ m.shoff ∧ m.shoff + sSize m.wide * (m.secs.length + 1) = m.eT := by
  have hf := h.eT
  have e : m.eT = fin (m.eS m.secs.length) 0 8 (byWide m.wide 40 64 * (m.secs.length + 1)) := by unfold Md.eT; rw [if_pos h0]
  have e2 : m.shoff = plc (m.eS m.secs.length) 0 8 := by unfold Md.shoff; rw [if_pos h0]
  have hin := fin_in (e := m.eS m.secs.length) (v := 0) (a := 8) (n := byWide m.wide 40 64 * (m.secs.length + 1)) (by rw [← e]; exact hf)
  rw [e, e2]
  exact ⟨hin.2.2.2, hin.2.2.1⟩
theorem phoff_is (h : Good m) (h0 : 0 < m.segs.length) : m.phoff = hSize m.wide ∧ m.phoff + pSize m.wide * m.segs.length = m.e1 := by
  unfold Md.phoff Md.e1 pSize
  rw [if_pos h0]
  exact ⟨rfl, rfl⟩
theorem mul_step {k n z : Nat} (h : k < n) : k * z + z ≤ n * z := by
  have := Nat.mul_le_mul_right z (show k + 1 ≤ n from h)
  rw [Nat.succ_mul] at this
  exact this
/-- Where each kind stands. -/
theorem Good.z1 (h : Good m) {k : Nat} (hk : k < m.segs.length) : hSize m.wide ≤ m.phoff + k * pSize m.wide ∧ m.phoff + k * pSize m.wide + ((m.pg k).L m.wide m.big).length ≤ m.e1 := by
  obtain ⟨h1, h2⟩ := phoff_is h (by omega)
  have := mul_step (z := pSize m.wide) hk
  rw [Nat.mul_comm] at h2
  rw [Pg.lenL]
  omega
theorem Good.z2 (h : Good m) {k : Nat} (hk : k < m.segs.length) : (m.sg k).pl.own.length = 0 ∨ (m.e1 ≤ m.P2 k ∧ m.P2 k + (m.sg k).pl.own.length ≤ m.eS 0) := by
  by_cases hi : (m.sg k).pl.inn = -1
  · refine .inr ?_
    have hl := (may_own_len (h.segMay hk) hi).2
    have P := h.planned
    have ho := P.order
    by_cases ht : (m.sg k).typ = 1
    · have a := P.load_at hk ht
      have b := P.eL_in (k := k + 1) hk
      have c : m.eL 0 ≤ m.eL k := mono_of (m.eL_step P.ok.n1) (by omega)
      have d : m.eL 0 = m.e1 := rfl
      omega
    · have a := P.other_at hk ht hi
      have b := P.eO_in (k := k + 1) hk
      have c : m.eO 0 ≤ m.eO k := mono_of (m.eO_step P.ok.n1) (by omega)
      have d : m.eO 0 = m.eL m.segs.length := rfl
      omega
  · exact .inl (by rw [(may_in_is (h.segMay hk) hi).1]; rfl)
theorem Good.z3 (h : Good m) {k : Nat} (hk : k < m.secs.length) : (m.se k).pl.own.length = 0 ∨ (m.eS 0 ≤ m.P3 k ∧ m.P3 k + (m.se k).pl.own.length ≤ m.eS m.secs.length) := by
  by_cases hi : (m.se k).pl.inn = -1
  · refine .inr ?_
    have hl := (may_own_len (h.secMay hk).1 hi).2
    have P := h.planned
    have a := P.sec_at hk hi
    have b : m.eS (k + 1) ≤ m.eS m.secs.length := mono_of (m.eS_step P.ok.n1) hk
    have c : m.eS 0 ≤ m.eS k := mono_of (m.eS_step P.ok.n1) (by omega)
    omega
  · exact .inl (by rw [(may_in_is (h.secMay hk).1 hi).1]; rfl)
theorem Good.z4 (h : Good m) {k : Nat} (hk : k < m.secs.length) : m.eS m.secs.length ≤ m.shoff + (k + 1) * sSize m.wide ∧ m.shoff + (k + 1) * sSize m.wide + ((m.sc k).L m.wide m.big).length ≤ m.eT := by
  obtain ⟨h1, h2⟩ := shoff_is h (by omega)
  have := mul_step (z := sSize m.wide) (show k + 1 < m.secs.length + 1 by omega)
  rw [Nat.mul_comm] at h2
  rw [Sc.lenL]
  omega
/-- Of one kind. -/
theorem Good.p2 (h : Good m) {k l : Nat} (hk : k < l) (hl : l < m.segs.length) : Off (m.P2 k) (m.sg k).pl.own (m.P2 l) (m.sg l).pl.own := by
  by_cases hi : (m.sg k).pl.inn = -1
  · by_cases hj : (m.sg l).pl.inn = -1
    · have h1 := (may_own_len (h.segMay (by omega)) hi).2
      have h2 := (may_own_len (h.segMay hl) hj).2
      have P := h.planned
      refine .inr (.inr (.inr ?_))
      have d : m.eO 0 = m.eL m.segs.length := rfl
      by_cases tk : (m.sg k).typ = 1
      · have a := P.load_at (k := k) (by omega) tk
        by_cases tl : (m.sg l).typ = 1
        · have b := P.load_at hl tl
          have c : m.eL (k + 1) ≤ m.eL l := mono_of (m.eL_step P.ok.n1) (by omega)
          omega
        · have b := P.other_at hl tl hj
          have c := P.eL_in (k := k + 1) (by omega)
          have c2 : m.eO 0 ≤ m.eO l := mono_of (m.eO_step P.ok.n1) (by omega)
          omega
      · have a := P.other_at (k := k) (by omega) tk hi
        by_cases tl : (m.sg l).typ = 1
        · have b := P.load_at hl tl
          have c := P.eL_in (k := l + 1) hl
          have c2 : m.eO 0 ≤ m.eO k := mono_of (m.eO_step P.ok.n1) (by omega)
          omega
        · have b := P.other_at hl tl hj
          have c : m.eO (k + 1) ≤ m.eO l := mono_of (m.eO_step P.ok.n1) (by omega)
          omega
    · exact .inr (.inr (.inl (by rw [(may_in_is (h.segMay hl) hj).1]; rfl)))
  · exact .inr (.inl (by rw [(may_in_is (h.segMay (by omega)) hi).1]; rfl))
theorem Good.p3 (h : Good m) {k l : Nat} (hk : k < l) (hl : l < m.secs.length) : Off (m.P3 k) (m.se k).pl.own (m.P3 l) (m.se l).pl.own := by
  by_cases hi : (m.se k).pl.inn = -1
  · by_cases hj : (m.se l).pl.inn = -1
    · have h1 := (may_own_len (h.secMay (k := k) (by omega)).1 hi).2
      have P := h.planned
      refine .inr (.inr (.inr ?_))
      have a := P.sec_at (k := k) (by omega) hi
      have b := P.sec_at hl hj
      have c : m.eS (k + 1) ≤ m.eS l := mono_of (m.eS_step P.ok.n1) (by omega)
      omega
    · exact .inr (.inr (.inl (by rw [(may_in_is (h.secMay hl).1 hj).1]; rfl)))
  · exact .inr (.inl (by rw [(may_in_is (h.secMay (k := k) (by omega)).1 hi).1]; rfl))
theorem Good.p1 (h : Good m) {k l : Nat} (hk : k < l) : Off (m.phoff + k * pSize m.wide) ((m.pg k).L m.wide m.big) (m.phoff + l * pSize m.wide) ((m.pg l).L m.wide m.big) := by
  have := mul_step (z := pSize m.wide) hk
  refine .inr (.inr (.inr (.inl ?_)))
  rw [Pg.lenL]
  omega
theorem Good.p4 (h : Good m) {k l : Nat} (hk : k < l) : Off (m.shoff + (k + 1) * sSize m.wide) ((m.sc k).L m.wide m.big) (m.shoff + (l + 1) * sSize m.wide) ((m.sc l).L m.wide m.big) := by
  have := mul_step (z := sSize m.wide) (show k + 1 < l + 1 by omega)
  refine .inr (.inr (.inr (.inl ?_)))
  rw [Sc.lenL]
  omega
theorem tri {R : Nat → Nat → Prop} (h0 : ∀ k, R k k) (h1 : ∀ k l, k < l → R k l) (h2 : ∀ k l, R k l → R l k) (k l : Nat) : R k l := by
  rcases Nat.lt_trichotomy k l with h | rfl | h
  · exact h1 k l h
  · exact h0 k
  · exact h2 _ _ (h1 l k h)
/-- No two have a byte in common. -/
theorem Good.off (h : Good m) {p q : Nat} {x y : List UInt8} (hp : Stg m m.segs.length m.segs.length m.secs.length m.secs.length p x) (hq : Stg m m.segs.length m.segs.length m.secs.length m.secs.length q y) : Off p x q y := by
  have ho := h.planned.order
  have hh : m.hd.L.length = hSize m.wide := m.hd.lenL
  have key : ∀ {p q : Nat} {x y : List UInt8}, x.length = 0 ∨ y.length = 0 ∨ p + x.length ≤ q → Off p x q y := fun hh => by
    rcases hh with hh | hh | hh
    · exact .inr (.inl hh)
    · exact .inr (.inr (.inl hh))
    · exact .inr (.inr (.inr (.inl hh)))
  rcases hp with ⟨rfl, rfl⟩ | ⟨k, hk, rfl, rfl⟩ | ⟨k, hk, rfl, rfl⟩ | ⟨k, hk, rfl, rfl⟩ | ⟨k, hk, rfl, rfl⟩ <;> rcases hq with ⟨rfl, rfl⟩ | ⟨l, hl, rfl, rfl⟩ | ⟨l, hl, rfl, rfl⟩ | ⟨l, hl, rfl, rfl⟩ | ⟨l, hl, rfl, rfl⟩
  · exact .inl ⟨rfl, rfl⟩
  · have b := h.z1 hl; exact key (by omega)
  · have b := h.z2 hl; exact key (by omega)
  · have b := h.z3 hl; exact key (by omega)
  · have b := h.z4 hl; exact key (by omega)
  · have b := h.z1 hk; exact (key (by omega)).symm
  · rcases Nat.lt_trichotomy k l with e | rfl | e
    · exact h.p1 e
    · exact .inl ⟨rfl, rfl⟩
    · exact (h.p1 e).symm
  · have a := h.z1 hk; have b := h.z2 hl; exact key (by omega)
  · have a := h.z1 hk; have b := h.z3 hl; exact key (by omega)
  · have a := h.z1 hk; have b := h.z4 hl; exact key (by omega)
  · have b := h.z2 hk; exact (key (by omega)).symm
  · have a := h.z1 hl; have b := h.z2 hk; exact (key (by omega)).symm
  · rcases Nat.lt_trichotomy k l with e | rfl | e
    · exact h.p2 e hl
    · exact .inl ⟨rfl, rfl⟩
    · exact (h.p2 e hk).symm
  · have a := h.z2 hk; have b := h.z3 hl; exact key (by omega)
  · have a := h.z2 hk; have b := h.z4 hl; exact key (by omega)
  · have b := h.z3 hk; exact (key (by omega)).symm
  · have a := h.z1 hl; have b := h.z3 hk; exact (key (by omega)).symm
  · have a := h.z2 hl; have b := h.z3 hk; exact (key (by omega)).symm
  · rcases Nat.lt_trichotomy k l with e | rfl | e
    · exact h.p3 e hl
    · exact .inl ⟨rfl, rfl⟩
    · exact (h.p3 e hk).symm
  · have a := h.z3 hk; have b := h.z4 hl; exact key (by omega)
  · have b := h.z4 hk; exact (key (by omega)).symm
  · have a := h.z1 hl; have b := h.z4 hk; exact (key (by omega)).symm
  · have a := h.z2 hl; have b := h.z4 hk; exact (key (by omega)).symm
  · have a := h.z3 hl; have b := h.z4 hk; exact (key (by omega)).symm
  · rcases Nat.lt_trichotomy k l with e | rfl | e
    · exact h.p4 e
    · exact .inl ⟨rfl, rfl⟩
    · exact (h.p4 e).symm
/-- The file's bytes. -/
def FileIs (m : Md) (b : List UInt8) : Prop := Laid (Stg m m.segs.length m.segs.length m.secs.length m.secs.length) b ∧ b.length = m.eT
theorem FileIs.one {b c : List UInt8} (h : FileIs m b) (k : FileIs m c) : b = c := h.1.one k.1 (h.2.trans k.2.symm)
/-- One more piece. -/
theorem Good.putA (h : Good m) {a b c d : Nat} {L : List UInt8} (hL : Laid (Stg m a b c d) L) (ha : a < m.segs.length) (hb : b ≤ m.segs.length) (hc : c ≤ m.secs.length) (hd : d ≤ m.secs.length)
    (hl : m.phoff + a * pSize m.wide + ((m.pg a).L m.wide m.big).length ≤ L.length) : Laid (Stg m (a + 1) b c d) (put L (m.phoff + a * pSize m.wide) ((m.pg a).L m.wide m.big)) :=
  hL.put (Stg.a1 m a b c d) (fun q y hs => h.off (hs.mono (by omega) hb hc hd) (.inr (.inl ⟨a, ha, rfl, rfl⟩))) hl
theorem Good.putB (h : Good m) {a b c d : Nat} {L : List UInt8} (hL : Laid (Stg m a b c d) L) (ha : a ≤ m.segs.length) (hb : b < m.segs.length) (hc : c ≤ m.secs.length) (hd : d ≤ m.secs.length)
    (hl : m.P2 b + (m.sg b).pl.own.length ≤ L.length) : Laid (Stg m a (b + 1) c d) (put L (m.P2 b) (m.sg b).pl.own) :=
  hL.put (Stg.b1 m a b c d) (fun q y hs => h.off (hs.mono ha (by omega) hc hd) (.inr (.inr (.inl ⟨b, hb, rfl, rfl⟩)))) hl
theorem Good.putC (h : Good m) {a b c d : Nat} {L : List UInt8} (hL : Laid (Stg m a b c d) L) (ha : a ≤ m.segs.length) (hb : b ≤ m.segs.length) (hc : c < m.secs.length) (hd : d ≤ m.secs.length)
    (hl : m.P3 c + (m.se c).pl.own.length ≤ L.length) : Laid (Stg m a b (c + 1) d) (put L (m.P3 c) (m.se c).pl.own) :=
  hL.put (Stg.c1 m a b c d) (fun q y hs => h.off (hs.mono ha hb (by omega) hd) (.inr (.inr (.inr (.inl ⟨c, hc, rfl, rfl⟩))))) hl
theorem Good.putD (h : Good m) {a b c d : Nat} {L : List UInt8} (hL : Laid (Stg m a b c d) L) (ha : a ≤ m.segs.length) (hb : b ≤ m.segs.length) (hc : c ≤ m.secs.length) (hd : d < m.secs.length)
    (hl : m.shoff + (d + 1) * sSize m.wide + ((m.sc d).L m.wide m.big).length ≤ L.length) : Laid (Stg m a b c (d + 1)) (put L (m.shoff + (d + 1) * sSize m.wide) ((m.sc d).L m.wide m.big)) :=
  hL.put (Stg.d1 m a b c d) (fun q y hs => h.off (hs.mono ha hb hc (by omega)) (.inr (.inr (.inr (.inr ⟨d, hd, rfl, rfl⟩))))) hl
theorem first_laid {L : List UInt8} (hL : Laid (fun _ _ => False) L) (hl : m.hd.L.length ≤ L.length) : Laid (Stg m 0 0 0 0) (put L 0 m.hd.L) := by
  refine hL.put (fun q y => ?_) (fun q y hs => hs.elim) (by omega)
  unfold Stg
  simp
end
end Go.Proofs.YtlccbekalccahaaGreatDoor

namespace Go.Proofs.YtlccbekalccahaaGreatDoor
open Go.RowKit

/-- Of a row of n numbers those are laid that the first k of the order name; the others are 0. -/
def laidIn (os ns : List Nat) (n k : Nat) : List Nat := (List.range n).map fun i => if i ∈ os.take k then ns.getD i 0 else 0
theorem laidIn_zero (os ns : List Nat) (n : Nat) : laidIn os ns n 0 = List.replicate n 0 := by
  apply List.ext_getElem?
  intro i
  by_cases h : i < n
  · simp [laidIn, h]
  · simp [laidIn, h]
theorem laidIn_succ {os ns : List Nat} {n k o v : Nat} (ho : os[k]? = some o) (hv : ns.getD o 0 = v) : (laidIn os ns n k).set o v = laidIn os ns n (k + 1) := by
  obtain ⟨hk, e⟩ := List.getElem?_eq_some_iff.1 ho
  apply List.ext_getElem?
  intro i
  rw [List.getElem?_set]
  simp only [laidIn, List.length_map, List.length_range, List.getElem?_map]
  rw [take_snoc_nat os k hk, e]
  by_cases h : i < n
  · by_cases e2 : o = i
    · subst e2
      rw [if_pos rfl, if_pos h, List.getElem?_range h]
      subst hv
      simp
    · rw [if_neg e2, List.getElem?_range h]
      have e3 : ¬ i = o := fun h => e2 h.symm
      simp [e3]
  · rw [List.getElem?_eq_none (by simp; omega)]
    by_cases e2 : o = i
    · subst e2; rw [if_pos rfl, if_neg h]; rfl
    · rw [if_neg e2]
      rfl
theorem laidIn_all {os ns : List Nat} {n : Nat} (h : ∀ i, i < n → i ∈ os) (hn : ns.length = n) : laidIn os ns n os.length = ns := by
  apply List.ext_getElem?
  intro i
  by_cases hi : i < n
  · have hm := h i hi
    simp [laidIn, hi, hm, show i < ns.length by omega]
  · rw [List.getElem?_eq_none (by simp [laidIn]; omega), List.getElem?_eq_none (by omega)]
theorem len_laidIn (os ns : List Nat) (n k : Nat) : (laidIn os ns n k).length = n := by simp [laidIn]

/-- The eight numbers, as they stand. -/
def pX (l : List UInt8) (p : Nat) (wide big : Bool) : List Nat := nums l big p (pRow wide)
/-- The program header that has them. -/
def pgOf (l : List UInt8) (p : Nat) (wide big : Bool) : Pg :=
  if wide then ⟨(pX l p wide big).getD 0 0, (pX l p wide big).getD 1 0, (pX l p wide big).getD 2 0, (pX l p wide big).getD 3 0, (pX l p wide big).getD 4 0, (pX l p wide big).getD 5 0, (pX l p wide big).getD 6 0, (pX l p wide big).getD 7 0⟩
  else ⟨(pX l p wide big).getD 0 0, (pX l p wide big).getD 6 0, (pX l p wide big).getD 1 0, (pX l p wide big).getD 2 0, (pX l p wide big).getD 3 0, (pX l p wide big).getD 4 0, (pX l p wide big).getD 5 0, (pX l p wide big).getD 7 0⟩
theorem pX_len (l : List UInt8) (p : Nat) (wide big : Bool) : (pX l p wide big).length = 8 := by rw [pX, length_nums, len_pRow]
theorem pgOf_at (l : List UInt8) (p : Nat) (wide big : Bool) (k : Nat) (h : k < 8) : (pgOf l p wide big).N.getD ((pOrd wide).getD k 0) 0 = (pX l p wide big).getD k 0 := by
  cases wide <;> (match k, h with
    | 0, _ => rfl
    | 1, _ => rfl
    | 2, _ => rfl
    | 3, _ => rfl
    | 4, _ => rfl
    | 5, _ => rfl
    | 6, _ => rfl
    | 7, _ => rfl)
theorem pX_lt (l : List UInt8) (p : Nat) (wide big : Bool) (k : Nat) (h : k < 8) : (pX l p wide big).getD k 0 < 256 ^ ((pRow wide).getD k 0) := by
  have h1 : k < (nums l big p (pRow wide)).length := by rw [length_nums, len_pRow]; exact h
  have := nums_lt l big (pRow wide) p k h1
  rw [pX, List.getD_eq_getElem?_getD, List.getElem?_eq_getElem h1]
  exact this
theorem pX_64 (l : List UInt8) (p : Nat) (wide big : Bool) (k : Nat) (h : k < 8) : (pX l p wide big).getD k 0 < 18446744073709551616 := by
  refine Nat.lt_of_lt_of_le (pX_lt l p wide big k h) (show _ ≤ 256 ^ 8 from Nat.pow_le_pow_right (by decide) ?_)
  have e : (pRow wide).getD k 0 = pWid wide ((pOrd wide).getD k 0) := by
    rw [pRow, List.getD_eq_getElem?_getD, List.getD_eq_getElem?_getD, List.getElem?_map, List.getElem?_eq_getElem (by rw [len_pOrd]; exact h)]
    rfl
  rw [e]
  unfold pWid
  split <;> omega
theorem pgOf_ok (l : List UInt8) (p : Nat) (wide big : Bool) : (pgOf l p wide big).Ok := by
  have h := pX_64 l p wide big
  have h0 := pX_lt l p wide big 0 (by omega)
  cases wide
  · have h6 := pX_lt l p false big 6 (by omega)
    exact ⟨h0, h6, h 1 (by omega), h 2 (by omega), h 3 (by omega), h 4 (by omega), h 5 (by omega), h 7 (by omega)⟩
  · have h1 := pX_lt l p true big 1 (by omega)
    exact ⟨h0, h1, h 2 (by omega), h 3 (by omega), h 4 (by omega), h 5 (by omega), h 6 (by omega), h 7 (by omega)⟩
theorem pOrd_all (wide : Bool) (i : Nat) (h : i < 8) : i ∈ pOrd wide := by
  cases wide <;> (match i, h with
    | 0, _ => decide
    | 1, _ => decide
    | 2, _ => decide
    | 3, _ => decide
    | 4, _ => decide
    | 5, _ => decide
    | 6, _ => decide
    | 7, _ => decide)
/-- Its numbers in their order, each with how many bytes it has. -/
theorem pgOf_Q (l : List UInt8) (p : Nat) (wide big : Bool) : (pgOf l p wide big).Q wide = (pX l p wide big).zip (pRow wide) := by
  apply List.ext_getElem
  · rw [Pg.lenQ, List.length_zip, pX_len, len_pRow]; rfl
  · intro k h1 h2
    have hk : k < 8 := by rw [Pg.lenQ] at h1; exact h1
    simp only [Pg.Q, List.getElem_map, List.getElem_zip, pRow]
    have := pgOf_at l p wide big k hk
    rw [List.getD_eq_getElem?_getD (l := pOrd wide), List.getElem?_eq_getElem (by rw [len_pOrd]; exact hk), List.getD_eq_getElem?_getD (l := pX l p wide big), List.getElem?_eq_getElem (by rw [pX_len]; exact hk)] at this
    simp only [Option.getD_some] at this
    rw [this]
end Go.Proofs.YtlccbekalccahaaGreatDoor

namespace Go.Proofs.YtlccbekalccahaaGreatDoor
open Go.RowKit

/-- Of a row of numbers the first k are laid; the others are 0. -/
def laidUp (ns : List Nat) (n k : Nat) : List Nat := (List.range n).map fun i => if i < k then ns.getD i 0 else 0
theorem laidUp_zero (ns : List Nat) (n : Nat) : laidUp ns n 0 = List.replicate n 0 := by
  apply List.ext_getElem?
  intro i
  by_cases h : i < n
  · simp [laidUp, h]
  · simp [laidUp, h]
theorem len_laidUp (ns : List Nat) (n k : Nat) : (laidUp ns n k).length = n := by simp [laidUp]
theorem laidUp_succ {ns : List Nat} {n k v : Nat} (hv : ns.getD k 0 = v) : (laidUp ns n k).set k v = laidUp ns n (k + 1) := by
  apply List.ext_getElem?
  intro i
  rw [List.getElem?_set]
  simp only [laidUp, List.length_map, List.length_range, List.getElem?_map]
  by_cases h : i < n
  · by_cases e2 : k = i
    · subst e2
      rw [if_pos rfl, if_pos h, List.getElem?_range h]
      subst hv
      simp
    · rw [if_neg e2, List.getElem?_range h]
      have e3 : i < k ↔ i < k + 1 := by omega
      simp only [Option.map_some, e3]
  · rw [List.getElem?_eq_none (by simp; omega)]
    by_cases e2 : k = i
    · subst e2; rw [if_pos rfl, if_neg h]; rfl
    · rw [if_neg e2]
      rfl
theorem laidUp_all {ns : List Nat} {n : Nat} (hn : ns.length = n) : laidUp ns n n = ns := by
  apply List.ext_getElem?
  intro i
  by_cases hi : i < n
  · simp [laidUp, hi, show i < ns.length by omega]
  · rw [List.getElem?_eq_none (by simp [laidUp]; omega), List.getElem?_eq_none (by omega)]

/-- The ten numbers, as they stand. -/
def sX (l : List UInt8) (p : Nat) (wide big : Bool) : List Nat := nums l big p (sRow wide)
/-- The section header that has them. -/
def scOf (l : List UInt8) (p : Nat) (wide big : Bool) : Sc :=
  ⟨(sX l p wide big).getD 0 0, (sX l p wide big).getD 1 0, (sX l p wide big).getD 2 0, (sX l p wide big).getD 3 0, (sX l p wide big).getD 4 0, (sX l p wide big).getD 5 0, (sX l p wide big).getD 6 0, (sX l p wide big).getD 7 0, (sX l p wide big).getD 8 0, (sX l p wide big).getD 9 0⟩
theorem sX_len (l : List UInt8) (p : Nat) (wide big : Bool) : (sX l p wide big).length = 10 := by rw [sX, length_nums, len_sRow]
theorem scOf_N (l : List UInt8) (p : Nat) (wide big : Bool) : (scOf l p wide big).N = sX l p wide big := by
  obtain ⟨x0, x1, x2, x3, x4, x5, x6, x7, x8, x9, hx⟩ := list10 (sX_len l p wide big)
  unfold scOf
  rw [hx]
  rfl
theorem sX_lt (l : List UInt8) (p : Nat) (wide big : Bool) (k : Nat) (h : k < 10) : (sX l p wide big).getD k 0 < 256 ^ ((sRow wide).getD k 0) := by
  have h1 : k < (nums l big p (sRow wide)).length := by rw [length_nums, len_sRow]; exact h
  have := nums_lt l big (sRow wide) p k h1
  rw [sX, List.getD_eq_getElem?_getD, List.getElem?_eq_getElem h1]
  exact this
theorem sX_64 (l : List UInt8) (p : Nat) (wide big : Bool) (k : Nat) (h : k < 10) : (sX l p wide big).getD k 0 < 18446744073709551616 := by
  refine Nat.lt_of_lt_of_le (sX_lt l p wide big k h) (show _ ≤ 256 ^ 8 from Nat.pow_le_pow_right (by decide) ?_)
  rw [sRow_at wide k h]
  unfold sWid
  split
  · omega
  · cases wide <;> decide
theorem scOf_ok (l : List UInt8) (p : Nat) (wide big : Bool) : (scOf l p wide big).Ok := by
  have h := sX_64 l p wide big
  exact ⟨sX_lt l p wide big 0 (by omega), sX_lt l p wide big 1 (by omega), h 2 (by omega), h 3 (by omega), h 4 (by omega), h 5 (by omega), sX_lt l p wide big 6 (by omega), sX_lt l p wide big 7 (by omega), h 8 (by omega), h 9 (by omega)⟩
/-- Its numbers in their order, each with how many bytes it has. -/
theorem scOf_Q (l : List UInt8) (p : Nat) (wide big : Bool) : (scOf l p wide big).Q wide = (sX l p wide big).zip (sRow wide) := by
  rw [Sc.Q, scOf_N]
end Go.Proofs.YtlccbekalccahaaGreatDoor
