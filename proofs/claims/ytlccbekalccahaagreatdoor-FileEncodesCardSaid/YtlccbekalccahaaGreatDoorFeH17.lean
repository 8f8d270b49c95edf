/-
  Several texts in one: Bytes laid piece by piece; The contract of the document's own lay; The contract of the document's own Within (layer 1); The contract of the document's own Place.
-/
import Derived.Test.YtlccbekalccahaaGreatDoorFeH16
import Derived.Test.YtlccbekalccahaaGreatDoorFeH2
import Derived.Test.YtlccbekalccahaaGreatDoorFeH1
import Derived.Laws.OwnMore
import Derived.Test.YtlccbekalccahaaGreatDoorFeH14
import Derived.Test.YtlccbekalccahaaGreatDoorFeH9

namespace Go.Proofs.YtlccbekalccahaaGreatDoor
open Go.RowKit
set_option linter.unusedVariables false

/-- The bytes b with x laid from p on. -/
def put (b : List UInt8) (p : Nat) (x : List UInt8) : List UInt8 := b.take p ++ x ++ b.drop (p + x.length)
theorem put_len {b x : List UInt8} {p : Nat} (h : p + x.length ≤ b.length) : (put b p x).length = b.length := by
  unfold put
  simp only [List.length_append, List.length_take, List.length_drop]
  omega
theorem put_get {b x : List UInt8} {p : Nat} (h : p + x.length ≤ b.length) (j : Nat) : (put b p x)[j]? = if p ≤ j ∧ j < p + x.length then x[j - p]? else b[j]? := by
  unfold put
  have hl : (b.take p).length = p := by rw [List.length_take]; omega
  rcases Nat.lt_or_ge j p with h1 | h1
  · rw [if_neg (by omega), List.append_assoc, List.getElem?_append_left (by omega), List.getElem?_take_of_lt h1]
  · rcases Nat.lt_or_ge j (p + x.length) with h2 | h2
    · rw [if_pos ⟨h1, h2⟩, List.append_assoc, List.getElem?_append_right (by omega), hl, List.getElem?_append_left (by omega)]
    · rw [if_neg (by omega), List.getElem?_append_right (by rw [List.length_append, hl]; omega), List.length_append, hl, List.getElem?_drop, show p + x.length + (j - (p + x.length)) = j by omega]

/-- Two pieces have no byte in common, or are one. -/
def Off (p : Nat) (x : List UInt8) (q : Nat) (y : List UInt8) : Prop := (p = q ∧ x = y) ∨ x.length = 0 ∨ y.length = 0 ∨ p + x.length ≤ q ∨ q + y.length ≤ p
theorem Off.symm {p q : Nat} {x y : List UInt8} (h : Off p x q y) : Off q y p x := by
  rcases h with ⟨h1, h2⟩ | h | h | h | h
  · exact .inl ⟨h1.symm, h2.symm⟩
  · exact .inr (.inr (.inl h))
  · exact .inr (.inl h)
  · exact .inr (.inr (.inr (.inr h)))
  · exact .inr (.inr (.inr (.inl h)))
/-- The bytes b are what the pieces of S lay, and 0s. -/
def Laid (S : Nat → List UInt8 → Prop) (b : List UInt8) : Prop :=
  (∀ p x, S p x → ∀ j, j < x.length → b[p + j]? = x[j]?) ∧ ∀ j, j < b.length → (∀ p x, S p x → ¬(p ≤ j ∧ j < p + x.length)) → b[j]? = some 0
theorem Laid.none (n : Nat) : Laid (fun _ _ => False) (List.replicate n 0) := ⟨fun _ _ h => h.elim, fun j hj _ => by rw [List.length_replicate] at hj; rw [List.getElem?_replicate, if_pos hj]⟩
theorem Laid.one {S : Nat → List UInt8 → Prop} {b c : List UInt8} (h : Laid S b) (k : Laid S c) (hl : b.length = c.length) : b = c := by
  apply List.ext_getElem?
  intro j
  rcases Nat.lt_or_ge j b.length with hj | hj
  · by_cases hc : ∃ p x, S p x ∧ p ≤ j ∧ j < p + x.length
    · obtain ⟨p, x, hs, h1, h2⟩ := hc
      have e1 := h.1 p x hs (j - p) (by omega)
      have e2 := k.1 p x hs (j - p) (by omega)
      rw [show p + (j - p) = j by omega] at e1 e2
      rw [e1, e2]
    · have hn : ∀ p x, S p x → ¬(p ≤ j ∧ j < p + x.length) := fun p x hs hh => hc ⟨p, x, hs, hh⟩
      rw [h.2 j hj hn, k.2 j (by omega) hn]
  · rw [List.getElem?_eq_none hj, List.getElem?_eq_none (by omega)]
theorem Laid.iff {S T : Nat → List UInt8 → Prop} {b : List UInt8} (h : Laid S b) (e : ∀ p x, S p x ↔ T p x) : Laid T b :=
  ⟨fun p x hs => h.1 p x ((e p x).2 hs), fun j hj hn => h.2 j hj fun p x hs => hn p x ((e p x).1 hs)⟩
theorem Laid.put {S T : Nat → List UInt8 → Prop} {b x : List UInt8} {p : Nat} (h : Laid S b) (e : ∀ q y, T q y ↔ S q y ∨ (q = p ∧ y = x)) (ho : ∀ q y, S q y → Off q y p x) (hl : p + x.length ≤ b.length) : Laid T (put b p x) := by
  refine ⟨fun q y ht j hj => ?_, fun j hj hn => ?_⟩
  · rw [put_get hl]
    rcases (e q y).1 ht with hs | ⟨rfl, rfl⟩
    · split
      · rename_i hin
        rcases ho q y hs with ⟨rfl, rfl⟩ | h1 | h1 | h1 | h1
        · congr 1; omega
        · omega
        · omega
        · omega
        · omega
      · exact h.1 q y hs j hj
    · rw [if_pos (by omega)]
      congr 1; omega
  · rw [put_len hl] at hj
    rw [put_get hl, if_neg (hn p x ((e p x).2 (.inr ⟨rfl, rfl⟩)))]
    exact h.2 j hj fun q y hs => hn q y ((e q y).2 (.inl hs))
/-- 0s behind. -/
theorem Laid.pad {S : Nat → List UInt8 → Prop} {b : List UInt8} (h : Laid S b) (n : Nat) : Laid S (b ++ List.replicate n 0) := by
  refine ⟨fun p x hs j hj => ?_, fun j hj hn => ?_⟩
  · have e := h.1 p x hs j hj
    have hlt : p + j < b.length := by
      rcases Nat.lt_or_ge (p + j) b.length with h1 | h1
      · exact h1
      · rw [List.getElem?_eq_none h1, List.getElem?_eq_getElem hj] at e
        cases e
    rw [List.getElem?_append_left hlt, e]
  · rcases Nat.lt_or_ge j b.length with h1 | h1
    · rw [List.getElem?_append_left h1]
      exact h.2 j h1 hn
    · rw [List.getElem?_append_right h1, List.getElem?_replicate, if_pos (by simp at hj; omega)]
/-- A piece, read. -/
theorem Laid.read {S : Nat → List UInt8 → Prop} {b x : List UInt8} {p : Nat} (h : Laid S b) (hs : S p x) : (b.drop p).take x.length = x := by
  apply List.ext_getElem?
  intro j
  rcases Nat.lt_or_ge j x.length with hj | hj
  · rw [List.getElem?_take_of_lt hj, List.getElem?_drop, h.1 p x hs j hj]
  · rw [List.getElem?_take_eq_none hj, List.getElem?_eq_none hj]

/-- What stands in a model's file: the header, the first a program headers, the own bytes of the first b segments, of the first c sections, the first d section headers. -/
def Stg (m : Md) (a b c d : Nat) (p : Nat) (x : List UInt8) : Prop :=
  (p = 0 ∧ x = m.hd.L) ∨ (∃ k, k < a ∧ p = m.phoff + k * pSize m.wide ∧ x = (m.pg k).L m.wide m.big) ∨ (∃ k, k < b ∧ p = m.P2 k ∧ x = (m.sg k).pl.own) ∨
  (∃ k, k < c ∧ p = m.P3 k ∧ x = (m.se k).pl.own) ∨ (∃ k, k < d ∧ p = m.shoff + (k + 1) * sSize m.wide ∧ x = (m.sc k).L m.wide m.big)
theorem Stg.head (m : Md) (a b c d : Nat) : Stg m a b c d 0 m.hd.L := .inl ⟨rfl, rfl⟩
theorem Stg.mono {m : Md} {a b c d a' b' c' d' p : Nat} {x : List UInt8} (h : Stg m a b c d p x) (h1 : a ≤ a') (h2 : b ≤ b') (h3 : c ≤ c') (h4 : d ≤ d') : Stg m a' b' c' d' p x := by
  rcases h with h | ⟨k, hk, h⟩ | ⟨k, hk, h⟩ | ⟨k, hk, h⟩ | ⟨k, hk, h⟩
  · exact .inl h
  · exact .inr (.inl ⟨k, by omega, h⟩)
  · exact .inr (.inr (.inl ⟨k, by omega, h⟩))
  · exact .inr (.inr (.inr (.inl ⟨k, by omega, h⟩)))
  · exact .inr (.inr (.inr (.inr ⟨k, by omega, h⟩)))
theorem ex_succ {P : Nat → Prop} {n : Nat} : (∃ k, k < n + 1 ∧ P k) ↔ (∃ k, k < n ∧ P k) ∨ P n := by
  constructor
  · rintro ⟨k, hk, h⟩
    rcases Nat.lt_or_ge k n with h1 | h1
    · exact .inl ⟨k, h1, h⟩
    · exact .inr (by rwa [show n = k by omega])
  · rintro (⟨k, hk, h⟩ | h)
    · exact ⟨k, by omega, h⟩
    · exact ⟨n, by omega, h⟩
theorem Stg.a1 (m : Md) (a b c d : Nat) (p : Nat) (x : List UInt8) : Stg m (a + 1) b c d p x ↔ Stg m a b c d p x ∨ (p = m.phoff + a * pSize m.wide ∧ x = (m.pg a).L m.wide m.big) := by
  unfold Stg
  rw [ex_succ]
  simp only [or_assoc, or_comm, or_left_comm]
theorem Stg.b1 (m : Md) (a b c d : Nat) (p : Nat) (x : List UInt8) : Stg m a (b + 1) c d p x ↔ Stg m a b c d p x ∨ (p = m.P2 b ∧ x = (m.sg b).pl.own) := by
  unfold Stg
  rw [ex_succ]
  simp only [or_assoc, or_comm, or_left_comm]
theorem Stg.c1 (m : Md) (a b c d : Nat) (p : Nat) (x : List UInt8) : Stg m a b (c + 1) d p x ↔ Stg m a b c d p x ∨ (p = m.P3 c ∧ x = (m.se c).pl.own) := by
  unfold Stg
  rw [ex_succ]
  simp only [or_assoc, or_comm, or_left_comm]
theorem Stg.d1 (m : Md) (a b c d : Nat) (p : Nat) (x : List UInt8) : Stg m a b c (d + 1) p x ↔ Stg m a b c d p x ∨ (p = m.shoff + (d + 1) * sSize m.wide ∧ x = (m.sc d).L m.wide m.big) := by
  unfold Stg
  rw [ex_succ]
  simp only [or_assoc, or_comm, or_left_comm]

section
variable {m : Md}
theorem shoff_is (h : Good m) (h0 : 0 < m.secs.length) : m.eS m.secs.length ≤ m.shoff ∧ m.shoff + sSize m.wide * (m.secs.length + 1) = m.eT := by
  have hf := h.eT
  have e : m.eT = fin (m.eS m.secs.length) 0 8 (byWide m.wide 40 64 * (m.secs.length + 1)) := by unfold Md.eT; rw [if_pos h0]
  have e2 : m.shoff = plc (m.eS m.secs.length) 0 8 := by unfold Md.shoff; rw [if_pos h0]
  have hin := fin_in (e := m.eS m.secs.length) (v := 0) (a := 8) (n := byWide m.wide 40 64 * (m.secs.length + 1)) (by rw [← e]; exact hf)
  rw [e, e2]
  exact ⟨hin.2.2.2, hin.2.2.1⟩
theorem phoff_is (h : Good m) (h0 : 0 < m.segs.length) : m.phoff = hSize m.wide ∧ m.phoff + pSize m.wide * m.segs.length = m.e1 := by
  unfold Md.phoff Md.e1 pSize
  rw [if_pos h0]
  exact ⟨rfl, rfl⟩
theorem mul_step {k n z : Nat} (h : k < n) : k * z + z ≤ n * z := by
  have := Nat.mul_le_mul_right z (show k + 1 ≤ n from h)
  rw [Nat.succ_mul] at this
  exact this
/-- Where each kind stands. -/
theorem Good.z1 (h : Good m) {k : Nat} (hk : k < m.segs.length) : hSize m.wide ≤ m.phoff + k * pSize m.wide ∧ m.phoff + k * pSize m.wide + ((m.pg k).L m.wide m.big).length ≤ m.e1 := by
  obtain ⟨h1, h2⟩ := phoff_is h (by omega)
  have := mul_step (z := pSize m.wide) hk
  rw [Nat.mul_comm] at h2
  rw [Pg.lenL]
  omega
theorem Good.z2 (h : Good m) {k : Nat} (hk : k < m.segs.length) : (m.sg k).pl.own.length = 0 ∨ (m.e1 ≤ m.P2 k ∧ m.P2 k + (m.sg k).pl.own.length ≤ m.eS 0) := by
  by_cases hi : (m.sg k).pl.inn = -1
  · refine .inr ?_
    have hl := (may_own_len (h.segMay hk) hi).2
    have P := h.planned
    have ho := P.order
    by_cases ht : (m.sg k).typ = 1
    · have a := P.load_at hk ht
      have b := P.eL_in (k := k + 1) hk
      have c : m.eL 0 ≤ m.eL k := mono_of (m.eL_step P.ok.n1) (by omega)
      have d : m.eL 0 = m.e1 := rfl
      omega
    · have a := P.other_at hk ht hi
      have b := P.eO_in (k := k + 1) hk
      have c : m.eO 0 ≤ m.eO k := mono_of (m.eO_step P.ok.n1) (by omega)
      have d : m.eO 0 = m.eL m.segs.length := rfl
      omega
  · exact .inl (by rw [(may_in_is (h.segMay hk) hi).1]; rfl)
theorem Good.z3 (h : Good m) {k : Nat} (hk : k < m.secs.length) : (m.se k).pl.own.length = 0 ∨ (m.eS 0 ≤ m.P3 k ∧ m.P3 k + (m.se k).pl.own.length ≤ m.eS m.secs.length) := by
  by_cases hi : (m.se k).pl.inn = -1
  · refine .inr ?_
    have hl := (may_own_len (h.secMay hk).1 hi).2
    have P := h.planned
    have a := P.sec_at hk hi
    have b : m.eS (k + 1) ≤ m.eS m.secs.length := mono_of (m.eS_step P.ok.n1) hk
    have c : m.eS 0 ≤ m.eS k := mono_of (m.eS_step P.ok.n1) (by omega)
    omega
  · exact .inl (by rw [(may_in_is (h.secMay hk).1 hi).1]; rfl)
theorem Good.z4 (h : Good m) {k : Nat} (hk : k < m.secs.length) : m.eS m.secs.length ≤ m.shoff + (k + 1) * sSize m.wide ∧ m.shoff + (k + 1) * sSize m.wide + ((m.sc k).L m.wide m.big).length ≤ m.eT := by
  obtain ⟨h1, h2⟩ := shoff_is h (by omega)
  have := mul_step (z := sSize m.wide) (show k + 1 < m.secs.length + 1 by omega)
  rw [Nat.mul_comm] at h2
  rw [Sc.lenL]
  omega
/-- Of one kind. -/
theorem Good.p2 (h : Good m) {k l : Nat} (hk : k < l) (hl : l < m.segs.length) : Off (m.P2 k) (m.sg k).pl.own (m.P2 l) (m.sg l).pl.own := by
  by_cases hi : (m.sg k).pl.inn = -1
  · by_cases hj : (m.sg l).pl.inn = -1
    · have h1 := (may_own_len (h.segMay (by omega)) hi).2
      have h2 := (may_own_len (h.segMay hl) hj).2
      have P := h.planned
      refine .inr (.inr (.inr ?_))
      have d : m.eO 0 = m.eL m.segs.length := rfl
      by_cases tk : (m.sg k).typ = 1
      · have a := P.load_at (k := k) (by omega) tk
        by_cases tl : (m.sg l).typ = 1
        · have b := P.load_at hl tl
          have c : m.eL (k + 1) ≤ m.eL l := mono_of (m.eL_step P.ok.n1) (by omega)
          omega
        · have b := P.other_at hl tl hj
          have c := P.eL_in (k := k + 1) (by omega)
          have c2 : m.eO 0 ≤ m.eO l := mono_of (m.eO_step P.ok.n1) (by omega)
          omega
      · have a := P.other_at (k := k) (by omega) tk hi
        by_cases tl : (m.sg l).typ = 1
        · have b := P.load_at hl tl
          have c := P.eL_in (k := l + 1) hl
          have c2 : m.eO 0 ≤ m.eO k := mono_of (m.eO_step P.ok.n1) (by omega)
          omega
        · have b := P.other_at hl tl hj
          have c : m.eO (k + 1) ≤ m.eO l := mono_of (m.eO_step P.ok.n1) (by omega)
          omega
    · exact .inr (.inr (.inl (by rw [(may_in_is (h.segMay hl) hj).1]; rfl)))
  · exact .inr (.inl (by rw [(may_in_is (h.segMay (by omega)) hi).1]; rfl))
theorem Good.p3 (h : Good m) {k l : Nat} (hk : k < l) (hl : l < m.secs.length) : Off (m.P3 k) (m.se k).pl.own (m.P3 l) (m.se l).pl.own := by
  by_cases hi : (m.se k).pl.inn = -1
  · by_cases hj : (m.se l).pl.inn = -1
    · have h1 := (may_own_len (h.secMay (k := k) (by omega)).1 hi).2
      have P := h.planned
      refine .inr (.inr (.inr ?_))
      have a := P.sec_at (k := k) (by omega) hi
      have b := P.sec_at hl hj
      have c : m.eS (k + 1) ≤ m.eS l := mono_of (m.eS_step P.ok.n1) (by omega)
      omega
    · exact .inr (.inr (.inl (by rw [(may_in_is (h.secMay hl).1 hj).1]; rfl)))
  · exact .inr (.inl (by rw [(may_in_is (h.secMay (k := k) (by omega)).1 hi).1]; rfl))
theorem Good.p1 (h : Good m) {k l : Nat} (hk : k < l) : Off (m.phoff + k * pSize m.wide) ((m.pg k).L m.wide m.big) (m.phoff + l * pSize m.wide) ((m.pg l).L m.wide m.big) := by
  have := mul_step (z := pSize m.wide) hk
  refine .inr (.inr (.inr (.inl ?_)))
  rw [Pg.lenL]
  omega
theorem Good.p4 (h : Good m) {k l : Nat} (hk : k < l) : Off (m.shoff + (k + 1) * sSize m.wide) ((m.sc k).L m.wide m.big) (m.shoff + (l + 1) * sSize m.wide) ((m.sc l).L m.wide m.big) := by
  have := mul_step (z := sSize m.wide) (show k + 1 < l + 1 by omega)
  refine .inr (.inr (.inr (.inl ?_)))
  rw [Sc.lenL]
  omega
theorem tri {R : Nat → Nat → Prop} (h0 : ∀ k, R k k) (h1 : ∀ k l, k < l → R k l) (h2 : ∀ k l, R k l → R l k) (k l : Nat) : R k l := by
  rcases Nat.lt_trichotomy k l with h | rfl | h
  · exact h1 k l h
  · exact h0 k
  · exact h2 _ _ (h1 l k h)
/-- No two have a byte in common. -/
theorem Good.off (h : Good m) {p q : Nat} {x y : List UInt8} (hp : Stg m m.segs.length m.segs.length m.secs.length m.secs.length p x) (hq : Stg m m.segs.length m.segs.length m.secs.length m.secs.length q y) : Off p x q y := by
  have ho := h.planned.order
  have hh : m.hd.L.length = hSize m.wide := m.hd.lenL
  have key : ∀ {p q : Nat} {x y : List UInt8}, x.length = 0 ∨ y.length = 0 ∨ p + x.length ≤ q → Off p x q y := fun hh => by
    rcases hh with hh | hh | hh
    · exact .inr (.inl hh)
    · exact .inr (.inr (.inl hh))
    · exact .inr (.inr (.inr (.inl hh)))
  rcases hp with ⟨rfl, rfl⟩ | ⟨k, hk, rfl, rfl⟩ | ⟨k, hk, rfl, rfl⟩ | ⟨k, hk, rfl, rfl⟩ | ⟨k, hk, rfl, rfl⟩ <;> rcases hq with ⟨rfl, rfl⟩ | ⟨l, hl, rfl, rfl⟩ | ⟨l, hl, rfl, rfl⟩ | ⟨l, hl, rfl, rfl⟩ | ⟨l, hl, rfl, rfl⟩
  · exact .inl ⟨rfl, rfl⟩
  · have b := h.z1 hl; exact key (by omega)
  · have b := h.z2 hl; exact key (by omega)
  · have b := h.z3 hl; exact key (by omega)
  · have b := h.z4 hl; exact key (by omega)
  · have b := h.z1 hk; exact (key (by omega)).symm
  · rcases Nat.lt_trichotomy k l with e | rfl | e
    · exact h.p1 e
    · exact .inl ⟨rfl, rfl⟩
    · exact (h.p1 e).symm
  · have a := h.z1 hk; have b := h.z2 hl; exact key (by omega)
  · have a := h.z1 hk; have b := h.z3 hl; exact key (by omega)
  · have a := h.z1 hk; have b := h.z4 hl; exact key (by omega)
  · have b := h.z2 hk; exact (key (by omega)).symm
  · have a := h.z1 hl; have b := h.z2 hk; exact (key (by omega)).symm
  · rcases Nat.lt_trichotomy k l with e | rfl | e
    · exact h.p2 e hl
    · exact .inl ⟨rfl, rfl⟩
    · exact (h.p2 e hk).symm
  · have a := h.z2 hk; have b := h.z3 hl; exact key (by omega)
  · have a := h.z2 hk; have b := h.z4 hl; exact key (by omega)
  · have b := h.z3 hk; exact (key (by omega)).symm
  · have a := h.z1 hl; have b := h.z3 hk; exact (key (by omega)).symm
  · have a := h.z2 hl; have b := h.z3 hk; exact (key (by omega)).symm
  · rcases Nat.lt_trichotomy k l with e | rfl | e
    · exact h.p3 e hl
    · exact .inl ⟨rfl, rfl⟩
    · exact (h.p3 e hk).symm
  · have a := h.z3 hk; have b := h.z4 hl; exact key (by omega)
  · have b := h.z4 hk; exact (key (by omega)).symm
  · have a := h.z1 hl; have b := h.z4 hk; exact (key (by omega)).symm
  · have a := h.z2 hl; have b := h.z4 hk; exact (key (by omega)).symm
  · have a := h.z3 hl; have b := h.z4 hk; exact (key (by omega)).symm
  · rcases Nat.lt_trichotomy k l with e | rfl | e
    · exact h.p4 e
    · exact .inl ⟨rfl, rfl⟩
    · exact (h.p4 e).symm
/-- The file's bytes. -/
def FileIs (m : Md) (b : List UInt8) : Prop := Laid (Stg m m.segs.length m.segs.length m.secs.length m.secs.length) b ∧ b.length = m.eT
theorem FileIs.one {b c : List UInt8} (h : FileIs m b) (k : FileIs m c) : b = c := h.1.one k.1 (h.2.trans k.2.symm)
/-- One more piece. -/
theorem Good.putA (h : Good m) {a b c d : Nat} {L : List UInt8} (hL : Laid (Stg m a b c d) L) (ha : a < m.segs.length) (hb : b ≤ m.segs.length) (hc : c ≤ m.secs.length) (hd : d ≤ m.secs.length)
    (hl : m.phoff + a * pSize m.wide + ((m.pg a).L m.wide m.big).length ≤ L.length) : Laid (Stg m (a + 1) b c d) (put L (m.phoff + a * pSize m.wide) ((m.pg a).L m.wide m.big)) :=
  hL.put (Stg.a1 m a b c d) (fun q y hs => h.off (hs.mono (by omega) hb hc hd) (.inr (.inl ⟨a, ha, rfl, rfl⟩))) hl
theorem Good.putB (h : Good m) {a b c d : Nat} {L : List UInt8} (hL : Laid (Stg m a b c d) L) (ha : a ≤ m.segs.length) (hb : b < m.segs.length) (hc : c ≤ m.secs.length) (hd : d ≤ m.secs.length)
    (hl : m.P2 b + (m.sg b).pl.own.length ≤ L.length) : Laid (Stg m a (b + 1) c d) (put L (m.P2 b) (m.sg b).pl.own) :=
  hL.put (Stg.b1 m a b c d) (fun q y hs => h.off (hs.mono ha (by omega) hc hd) (.inr (.inr (.inl ⟨b, hb, rfl, rfl⟩)))) hl
theorem Good.putC (h : Good m) {a b c d : Nat} {L : List UInt8} (hL : Laid (Stg m a b c d) L) (ha : a ≤ m.segs.length) (hb : b ≤ m.segs.length) (hc : c < m.secs.length) (hd : d ≤ m.secs.length)
    (hl : m.P3 c + (m.se c).pl.own.length ≤ L.length) : Laid (Stg m a b (c + 1) d) (put L (m.P3 c) (m.se c).pl.own) :=
  hL.put (Stg.c1 m a b c d) (fun q y hs => h.off (hs.mono ha hb (by omega) hd) (.inr (.inr (.inr (.inl ⟨c, hc, rfl, rfl⟩))))) hl
theorem Good.putD (h : Good m) {a b c d : Nat} {L : List UInt8} (hL : Laid (Stg m a b c d) L) (ha : a ≤ m.segs.length) (hb : b ≤ m.segs.length) (hc : c ≤ m.secs.length) (hd : d < m.secs.length)
    (hl : m.shoff + (d + 1) * sSize m.wide + ((m.sc d).L m.wide m.big).length ≤ L.length) : Laid (Stg m a b c (d + 1)) (put L (m.shoff + (d + 1) * sSize m.wide) ((m.sc d).L m.wide m.big)) :=
  hL.put (Stg.d1 m a b c d) (fun q y hs => h.off (hs.mono ha hb hc (by omega)) (.inr (.inr (.inr (.inr ⟨d, hd, rfl, rfl⟩))))) hl
theorem first_laid {L : List UInt8} (hL : Laid (fun _ _ => False) L) (hl : m.hd.L.length ≤ L.length) : Laid (Stg m 0 0 0 0) (put L 0 m.hd.L) := by
  refine hL.put (fun q y => ?_) (fun q y hs => hs.elim) (by omega)
  unfold Stg
  simp
end
end Go.Proofs.YtlccbekalccahaaGreatDoor

namespace Go.Proofs.YtlccbekalccahaaGreatDoor
open Go.RowKit
set_option maxRecDepth 100000
set_option linter.unusedVariables false

/-- b, filled with 0s so that x has place from p on, and x there. -/
def layL (b : List UInt8) (p : Nat) (x : List UInt8) : List UInt8 := put (b ++ List.replicate (p + x.length - b.length) 0) p x
theorem layL_len (b x : List UInt8) (p : Nat) : (layL b p x).length = max b.length (p + x.length) := by
  unfold layL
  rw [put_len (by rw [List.length_append, List.length_replicate]; omega), List.length_append, List.length_replicate]
  omega
def slcLen : Value → Nat
  | .slice _ n _ => n
  | _ => 0
theorem put_none (b : List UInt8) (p : Nat) : put b p [] = b := by unfold put; simp
theorem put_next {b x : List UInt8} {p k : Nat} (hk : k < x.length) (hl : p + x.length ≤ b.length) : (put b p (x.take k)).set (p + k) x[k] = put b p (x.take (k + 1)) := by
  have h1 : (x.take k).length = k := by rw [List.length_take]; omega
  have h2 : (x.take (k + 1)).length = k + 1 := by rw [List.length_take]; omega
  apply List.ext_getElem?
  intro j
  rw [List.getElem?_set, put_get (by omega), put_get (by omega), put_len (by omega), h1, h2]
  by_cases e : p + k = j
  · subst e
    rw [if_pos rfl, if_pos (by omega), if_pos (by omega), show p + k - p = k by omega, List.getElem?_take_of_lt (by omega), List.getElem?_eq_getElem hk]
  · rw [if_neg e]
    by_cases e2 : p ≤ j ∧ j < p + k
    · rw [if_pos e2, if_pos (by omega), List.getElem?_take_of_lt (by omega), List.getElem?_take_of_lt (by omega)]
    · rw [if_neg e2, if_neg (by omega)]
theorem OB.some_ {w : World} {base : Nat} {t : TypeId} {A : Option Addr} {n c : Nat} {l : List UInt8} (h : OB w base t A n c l) (hn : 0 < n) : ∃ g, A = some ⟨g, 0, none⟩ ∧ base ≤ g := by
  rcases h.2 with ⟨_, h0⟩ | ⟨g, cap, cur, e, hb, _⟩
  · omega
  · injection e with e1
    exact ⟨g, e1, hb⟩
theorem OB.store {w : World} {base : Nat} {t : TypeId} {g n c : Nat} {l : List UInt8} (h : OB w base t (some ⟨g, 0, none⟩) n c l) (j : Nat) (y : UInt8) : OB (w.setCell ⟨g, j, none⟩ (byt y)) base t (some ⟨g, 0, none⟩) n c (l.set j y) := by
  have := (World.ownsRow.stored h j (byt y)).1
  rwa [← List.map_set] at this

set_option maxHeartbeats 4000000 in
theorem layIn_any (A : Option Addr) (n c : Nat) (b : List UInt8) (p : Nat) (A' : Option Addr) (n' c' : Nat) (x : List UInt8) (w : World) (hr : RB w w.heap.size A n c b) (hx : RB w w.heap.size A' n' c' x) (h1 : p + x.length ≤ 100000) (h2 : b.length ≤ 100000) :
    Calls Tryz.prog 22 #[.slice A n c, .int .u64 (p : Int), .slice A' n' c'] w fun e w' => ∃ A2 c2, e = .returned (.slice A2 (layL b p x).length c2) ∧ RB w' w'.heap.size A2 (layL b p x).length c2 (layL b p x) ∧ Grow w w' := by
  have HR := Lib.hid hr
  have HX := Lib.hid hx
  have hn := hr.len
  have hn' := hx.len
  have hcp := hr.cap
  have hmx := hr.max
  have hcp' := hx.cap
  have hmx' := hx.max
  unfold maxLen at hmx hmx'
  have HLen := Lib.hid (layL_len b x p)
  have HLd : Hid (layL b p x = put (b ++ List.replicate (p + x.length - b.length) 0) p x) := Lib.hid rfl
  rw [← hn, ← hn'] at HLen HLd
  rw [← hn'] at h1
  rw [← hn] at h2
  have HN := Lib.hid hn
  have HN' := Lib.hid hn'
  have z1 : IntKind.i64.wrap (p : Int) = (p : Int) := by rw [IntKind.wrap_i64]; omega
  have z2 : IntKind.i64.wrap ((p : Int) + (n' : Int)) = (p : Int) + (n' : Int) := by rw [IntKind.wrap_i64]; omega
  clear hr hx hn hn'
  generalize layL b p x = R at HLen HLd ⊢
  go_enter Tryz.func22, Tryz.ntmps22
  go_wp2_with (at_builtin; refine wpList_appendB _ rfl (.tmp 9) (.tmp 10) 35 rfl w.heap.size 5 Tryz.underlying35 (by kernel_rfl) _ 0 0 [] rfl (OB.lit w w.heap.size 5 [] (Nat.zero_le _) (Nat.le_refl _)) w.heap.size A n c b rfl (HR.out.belowAt (Grow.of_alloc w _) (Nat.le_refl _)) (by omega) (by simp) ?_; intro A3 c3 w3 ho3 hb3; rw [Nat.zero_add, List.nil_append] at ho3; rw [Nat.zero_add]; have HO3 := Lib.hid ho3; have HG3 : Hid (Grow w w3) := (Grow.of_alloc w _).trans' hb3; clear ho3 hb3)
  go_loopw [7] (fun x wr => ∃ (j : Nat) (A2 : Option Addr) (c2 : Nat), (j = 0 ∨ n + j ≤ p + n') ∧ x = .slice A2 (n + j) c2 ∧ OB wr w.heap.size 5 A2 (n + j) c2 (b ++ List.replicate j 0) ∧ Grow w wr) (fun x _ => p + n' - slcLen x)
  case atStart => exact ⟨0, _, _, .inl rfl, rfl, by simpa using HO3.out, HG3.out⟩
  case round =>
    obtain ⟨j, A2, c2, hj, rfl, ho, hg⟩ := hrel
    have HO := Lib.hid ho
    have HG := Lib.hid hg
    clear ho hg HO3 HG3
    have hc2 := HO.out.rb.cap
    have hm2 := HO.out.rb.max
    unfold maxLen at hm2
    by_cases hlt : n + j < p + n'
    · obtain ⟨M, hM⟩ : ∃ M, M = n + j := ⟨_, rfl⟩
      rw [← hM] at HO hlt hc2
      rw [← hM]
      have HMe := Lib.hid hM
      clear hM hj
      have y0 : decide ((M : Int) < (p : Int) + (n' : Int)) = true := decide_eq_true (by omega)
      have HRl := Lib.hid (RB.lit wr 5 [0] (by decide))
      have HOl := Lib.hid (HO.out.alloc (.cells #[.int .u8 0] 5))
      have HGl : Hid (Grow w (wr.alloc (.cells #[.int .u8 0] 5))) := Lib.hid (HG.out.trans (Grow.of_alloc _ _))
      go_wp2_with (at_builtin; refine wpList_appendB (wr.alloc (.cells #[.int .u8 0] 5)) rfl (.tmp 20) (.tmp 21) 35 rfl w.heap.size 5 Tryz.underlying35 (by kernel_rfl) A2 M c2 _ rfl HOl.out (wr.heap.size + 1) (some ⟨wr.heap.size, 0, none⟩) 1 1 [0] rfl HRl.out (by omega) HGl.out.size ?_; intro A9 c9 w12 ho12 hb12; refine Hid.out ?_)
      have HG12 : Hid (Grow w w12) := Lib.hid (HGl.out.trans' hb12)
      have eM : M + 1 = n + (j + 1) := by have := HMe.out; omega
      have eR : b ++ List.replicate j (0 : UInt8) ++ [0] = b ++ List.replicate (j + 1) 0 := by rw [List.append_assoc, ← List.replicate_succ']
      rw [eM, eR] at ho12
      rw [eM]
      have HO12 := Lib.hid ho12
      have HL12 : Hid (p + n' - (n + (j + 1)) < p + n' - M) := Lib.hid (by have := HMe.out; omega)
      have HJ : Hid (n + (j + 1) ≤ p + n') := Lib.hid (by have := HMe.out; omega)
      clear ho12 hb12 HGl HOl HRl HO HG y0 eM eR
      refine Lib.hid ?_
      go_wp2
      go_roundw
      case rel => exact ⟨j + 1, A9, c9, .inr HJ.out, rfl, HO12.out, HG12.out⟩
      case measure => exact HL12.out
    · have y0 : decide (((n + j : Nat) : Int) < (p : Int) + (n' : Int)) = false := decide_eq_false (by omega)
      have hjj : j = p + n' - n := by omega
      obtain ⟨M, hM⟩ : ∃ M, M = n + j := ⟨_, rfl⟩
      rw [← hM] at HO y0 hlt hc2
      rw [← hM]
      have HP : Hid (OB wr w.heap.size 5 A2 M c2 (put (b ++ List.replicate (p + n' - n) 0) p (x.take 0))) := Lib.hid (by rw [List.take_zero, put_none, ← hjj]; exact HO.out)
      have HBl : Hid ((b ++ List.replicate (p + n' - n) (0 : UInt8)).length = M) := Lib.hid (by rw [List.length_append, List.length_replicate, ← HN.out]; omega)
      have HMx : Hid (M = max n (p + n')) := Lib.hid (by omega)
      clear hM hj hjj HO
      generalize b ++ List.replicate (p + n' - n) (0 : UInt8) = Q at HP HLd HBl
      go_wp2_with fail
      go_loopw [8] (fun i wr => ∃ k : Nat, k ≤ n' ∧ i = .int .i64 k ∧ OB wr w.heap.size 5 A2 M c2 (put Q p (x.take k)) ∧ Grow w wr) (fun i _ => n' - (intOf i).toNat)
      case atStart => exact ⟨0, Nat.zero_le _, rfl, HP.out, HG.out⟩
      case round =>
        obtain ⟨k, hk, rfl, ho, hg⟩ := hrel
        clear HP HG
        have HO := Lib.hid ho
        have HG := Lib.hid hg
        clear ho hg
        by_cases hkn : k < n'
        · obtain ⟨bx, ox, rfl, hbx, hcx⟩ := HX.out.pos (by omega)
          have hM0 := HMx.out
          obtain ⟨g, rfl, hge⟩ := HO.out.some_ (by omega)
          have hkx : k < x.length := by rw [← HN'.out]; exact hkn
          have e0 : wr.cell? ⟨bx, ox + k, none⟩ = some (.int .u8 ((x[k].toNat : Nat) : Int)) := (Below.cell HG.out hbx).trans (hcx k hkx)
          have e1 : ∃ v, wr.cell? ⟨g, p + k, none⟩ = some v := by
            have h3 := World.ownsRow.cellAt HO.out (p + k) (by omega)
            have h4 := HO.out.len
            rw [h3, List.getElem?_eq_getElem (by rw [List.length_map, ← h4]; omega)]
            exact ⟨_, rfl⟩
          obtain ⟨v1, e1⟩ := e1
          have e2 : wr.frozen? ⟨g, p + k, none⟩ = false := World.ownsRow.frozenAt HO.out (p + k)
          have HO2 : Hid (OB (wr.setCell ⟨g, p + k, none⟩ (.int .u8 ((x[k].toNat : Nat) : Int))) w.heap.size 5 (some ⟨g, 0, none⟩) M c2 (put Q p (x.take (k + 1)))) := Lib.hid (by
            have h5 := HO.out.store (p + k) x[k]
            rwa [put_next hkx (by rw [HBl.out, ← HN'.out]; omega)] at h5)
          have HG2 : Hid (Grow w (wr.setCell ⟨g, p + k, none⟩ (.int .u8 ((x[k].toNat : Nat) : Int)))) := Lib.hid (Grow.cellset HG.out hge _ _)
          have hpM : p + k < M := by omega
          generalize x[k].toNat = y at e0 HO2 HG2
          clear hcx HO HG hkx hM0
          have w0 : (0 : Int) ≤ (k : Int) := by omega
          have w1 : (k : Int) < (n' : Int) := by omega
          have w2 : (0 : Int) ≤ (p : Int) + (k : Int) := by omega
          have w3 : (p : Int) + (k : Int) < (M : Int) := by omega
          have w4 : ((p : Int) + (k : Int)).toNat = p + k := by omega
          have z3 : IntKind.i64.wrap ((p : Int) + (k : Int)) = (p : Int) + (k : Int) := by rw [IntKind.wrap_i64]; omega
          go_wp2
          go_roundw
          case rel => exact ⟨k + 1, by omega, by go_num, HO2.out, HG2.out⟩
          case measure => simp [intOf]; omega
        · obtain rfl : k = n' := by omega
          have d : decide ((k : Int) < (k : Int)) = false := by simp
          have HF : Hid (OB wr w.heap.size 5 A2 M c2 R) := Lib.hid (by
            have h5 := HO.out
            rw [HN'.out, List.take_length, ← HLd.out] at h5
            exact h5)
          go_wp2
          go_ret
          refine ⟨A2, c2, ?_, ?_, HG.out⟩
          · rw [HLen.out, ← HMx.out]
            rfl
          · rw [HLen.out, ← HMx.out]
            exact HF.out.rb
end Go.Proofs.YtlccbekalccahaaGreatDoor

namespace Go.Proofs.YtlccbekalccahaaGreatDoor
open Go.RowKit

theorem refWithin_any (a n s : Int) (w : World) (ha : 0 ≤ a) (hn : 0 ≤ n) (hs : s ≤ 18446744073709551615) :
    Calls Tryz.prog 33 #[.int .u64 a, .int .u64 n, .int .u64 s] w fun e w' => e = .returned (.bool (wthn a n s)) ∧ w = w' := by
  by_cases h1 : a ≤ s
  · have hd : 0 ≤ s - a := by omega
    by_cases h2 : n ≤ s - a
    · have E := Lib.hid (show wthn a n s = true from decide_eq_true (by omega))
      go_enter Tryz.func33, Tryz.ntmps33
      go_wp2
      go_ret
      exact ⟨ret_bool E.out.symm, rfl⟩
    · have E := Lib.hid (show wthn a n s = false from decide_eq_false (by omega))
      have h2' : decide (n ≤ s - a) = false := decide_eq_false h2
      go_enter Tryz.func33, Tryz.ntmps33
      go_wp2
      go_ret
      exact ⟨ret_bool E.out.symm, rfl⟩
  · have E := Lib.hid (show wthn a n s = false from decide_eq_false (by omega))
    have h1' : decide (a ≤ s) = false := decide_eq_false h1
    go_enter Tryz.func33, Tryz.ntmps33
    go_wp2
    go_ret
    exact ⟨ret_bool E.out.symm, rfl⟩
end Go.Proofs.YtlccbekalccahaaGreatDoor

namespace Go.Proofs.YtlccbekalccahaaGreatDoor
open Go.RowKit

set_option maxHeartbeats 2000000 in
theorem rPlace_any (m : Md) (A1 A2 : Option Addr) (n1 c1 n2 c2 : Nat) (p : Pl) (A : Option Addr) (n c : Nat) (w : World) (g1 : ZR sgK w w.heap.size A1 n1 c1 m.segs) (g : RB w w.heap.size A n c p.own) :
    Calls Tryz.prog 104 #[.agg (mdC m (.slice A1 n1 c1) (.slice A2 n2 c2)), .agg (plC p (.slice A n c))] w fun e w' => e = .returned (.bool (m.may p)) ∧ Grow w w' := by
  have hn : n = p.own.length := g.len
  have hnm : n ≤ maxLen := Nat.le_trans g.cap g.max
  unfold maxLen at hnm
  have z : IntKind.u64.wrap (n : Int) = (n : Int) := by rw [IntKind.wrap_u64]; omega
  by_cases h0 : p.inn = -1
  · rw [may_own h0]
    have E := Lib.hid (show p.ownMay = (decide (p.off = 0) && decide (p.size = n)) by rw [hn]; rfl)
    unfold plC mdC
    rw [h0]
    generalize p.ownMay = R at E ⊢
    generalize p.off = a at E ⊢
    generalize p.size = b at E ⊢
    clear hn hnm h0 g
    by_cases ha : a = 0
    · subst ha
      go_enter Tryz.func104, Tryz.ntmps104
      go_wp2
      go_ret
      exact ⟨ret_bool (by rw [E.out, Bool.eq_iff_iff]; simp; try omega), (Grow.of_alloc _ _).trans (Grow.of_alloc _ _)⟩
    · have e0 : ((a : Int) == 0) = false := by simp [ha]
      have E2 := Lib.hid (show (decide (a = 0) && decide (b = n)) = false by simp [ha])
      clear ha
      go_enter Tryz.func104, Tryz.ntmps104
      go_wp2
      go_ret
      exact ⟨ret_bool (by rw [E.out, E2.out]), (Grow.of_alloc _ _).trans (Grow.of_alloc _ _)⟩
  · have hl := g1.len
    rw [may_in h0, ← hl]
    obtain ⟨x0, x1, x2, x3, x4, x5, x6, x7, x9, x10, hC⟩ := mdC_cells m (.slice A1 n1 c1) (.slice A2 n2 c2)
    rw [hC]
    clear hC
    have Hi : (p.inn == -1) = false := by simpa using h0
    cases hs : isSegN n1 p.inn with
    | false =>
      have HQ : Hid (p.inn < 0 ∨ (n1 : Int) ≤ p.inn) := by
        refine Lib.hid ?_
        unfold isSegN at hs
        simp at hs
        omega
      clear hs h0 hl hn hnm g g1
      simp only [Bool.false_and]
      unfold plC
      generalize p.inn = i at Hi HQ ⊢
      by_cases hneg : i < 0
      · have d1 : decide (i < 0) = true := decide_eq_true hneg
        clear hneg
        go_enter Tryz.func104, Tryz.ntmps104
        go_wp2
        go_ret
        exact ⟨rfl, (Grow.of_alloc _ _).trans (Grow.of_alloc _ _)⟩
      · have d1 : decide (i < 0) = false := decide_eq_false hneg
        have d2 : decide ((n1 : Int) ≤ i) = true := decide_eq_true (by have := HQ.out; omega)
        clear hneg
        go_enter Tryz.func104, Tryz.ntmps104
        go_wp2
        go_ret
        exact ⟨rfl, (Grow.of_alloc _ _).trans (Grow.of_alloc _ _)⟩
    | true =>
      obtain ⟨k, hk, hkl⟩ := isSegN_true hs
      rw [hl] at hkl
      rw [hk, m.seg_nat k hkl]
      obtain ⟨b, off, rfl, hb⟩ := g1.pos (by rw [g1.len]; omega)
      obtain ⟨Ak, nk, ck, -, hcell, gk⟩ := g1.at hkl
      have hcell' : ∀ i v, (sgC m.segs[k] (.slice Ak nk ck))[i]? = some v → w.cell? ⟨b, off + k * 10 + i, none⟩ = some v := hcell
      have hnk : m.segs[k].pl.own.length = nk := gk.len.symm
      have hnkm : nk ≤ maxLen := Nat.le_trans gk.cap gk.max
      unfold maxLen at hnkm
      have hkn : k < n1 := by rw [g1.len]; exact hkl
      have hn1m := g1.cap
      have hn1m' := g1.max
      unfold maxLen at hn1m'
      have HWi := Lib.hid (fun w => refWithin_any (p.off : Int) (p.size : Int) (nk : Int) w (by omega) (by omega) (by omega))
      have E := Lib.hid (show p.inMay nk = (decide (n = 0) && decide (0 < p.size) && wthn (p.off : Int) (p.size : Int) (nk : Int)) by
        rw [hn]
        unfold Pl.inMay Pl.within wthn
        congr 1
        rw [Bool.eq_iff_iff, decide_eq_true_iff, decide_eq_true_iff]
        omega)
      rw [hnk]
      have e0 : ((k : Int) == -1) = false := by simp
      have z2 : IntKind.u64.wrap (nk : Int) = (nk : Int) := by rw [IntKind.wrap_u64]; omega
      have d1 : decide ((k : Int) < 0) = false := decide_eq_false (by omega)
      have d2 : decide ((n1 : Int) ≤ (k : Int)) = false := decide_eq_false (by omega)
      rw [Bool.true_and]
      unfold plC
      unfold sgC at hcell'
      rw [hk]
      generalize m.segs[k] = s at hcell' ⊢
      have t0 : w.cell? ⟨b, off + k * 10, none⟩ = _ := hcell' 0 _ rfl
      have t1 := hcell' 1 _ rfl
      have t2 := hcell' 2 _ rfl
      have t3 := hcell' 3 _ rfl
      have t4 := hcell' 4 _ rfl
      have t5 := hcell' 5 _ rfl
      have t6 := hcell' 6 _ rfl
      have t7 := hcell' 7 _ rfl
      have t8 := hcell' 8 _ rfl
      have t9 := hcell' 9 _ rfl
      generalize wthn (p.off : Int) (p.size : Int) (nk : Int) = V at E HWi
      generalize p.inMay nk = R at E ⊢
      generalize p.off = po at HWi ⊢
      generalize p.size = ps at E HWi ⊢
      generalize s.typ = ty at t0 ⊢
      clear hcell hcell' gk hnk hs hk hkl h0 g1 g hl hn hnm Hi
      have d2' : decide (n1 ≤ k) = false := decide_eq_false (by omega)
      have hal : Grow w ((w.alloc (.cells #[x0, x1, x2, x3, x4, x5, x6, x7, .slice (some ⟨b, off, none⟩) n1 c1, x9, x10] 32)).alloc (.cells #[.int .i64 (k : Int), .int .u64 (po : Nat), .int .u64 (ps : Nat), .slice A n c] 54)) := (blk2 rfl).2.2
      have hc2 : ∀ i v, w.cell? ⟨b, i, none⟩ = some v → ((w.alloc (.cells #[x0, x1, x2, x3, x4, x5, x6, x7, .slice (some ⟨b, off, none⟩) n1 c1, x9, x10] 32)).alloc (.cells #[.int .i64 (k : Int), .int .u64 (po : Nat), .int .u64 (ps : Nat), .slice A n c] 54)).cell? ⟨b, i, none⟩ = some v := fun i v h => (Below.cell hal hb).trans h
      replace t0 := hc2 _ _ t0
      replace t1 := hc2 _ _ t1
      replace t2 := hc2 _ _ t2
      replace t3 := hc2 _ _ t3
      replace t4 := hc2 _ _ t4
      replace t5 := hc2 _ _ t5
      replace t6 := hc2 _ _ t6
      replace t7 := hc2 _ _ t7
      replace t8 := hc2 _ _ t8
      replace t9 := hc2 _ _ t9
      clear hb hal hc2
      go_enter Tryz.func104, Tryz.ntmps104
      go_wp2_with fail
      clear t0 t1 t2 t3 t4 t5 t6 t7 t8 t9
      generalize hW : World.alloc _ _ = W1
      obtain ⟨b1, b2, b3, hg1⟩ := blk3 hW
      clear hW
      have HG1 : Hid (Grow w W1) := hg1
      have y1 := b2.at 1
      have y2 := b2.at 2
      have y3 := b2.at 3
      have v0 := b3.at 0
      have v9 := b3.at 9
      clear hg1 b1 b2 b3
      refine (HWi.out _).mono ?_
      rintro e w1 ⟨rfl, rfl⟩
      by_cases ht : ty = 1
      · have e1 : ((ty : Int) == 1) = true := by simp [ht]
        have E1 := Lib.hid (show decide (ty = 1) = true by simp [ht])
        clear ht
        by_cases hn0 : n = 0
        · have e3 : ((n : Int) == 0) = true := by simp [hn0]
          by_cases hp0 : 0 < ps
          · have e4 : decide ((1 : Int) ≤ (ps : Int)) = true := decide_eq_true (by omega)
            have e4' : decide (1 ≤ ps) = true := decide_eq_true (by omega)
            have E2 := Lib.hid (show R = V by rw [E.out]; simp [hp0, hn0])
            clear hn0 hp0
            go_wp2
            go_ret
            exact ⟨ret_bool (by rw [E1.out, Bool.true_and, E2.out]), HG1.out⟩
          · have e4 : decide ((1 : Int) ≤ (ps : Int)) = false := decide_eq_false (by omega)
            have e4' : decide (1 ≤ ps) = false := decide_eq_false (by omega)
            have E2 := Lib.hid (show R = false by rw [E.out]; simp [hp0])
            clear hn0 hp0
            go_wp2
            go_ret
            exact ⟨ret_bool (by rw [E1.out, Bool.true_and, E2.out]), HG1.out⟩
        · have e3 : ((n : Int) == 0) = false := by simp; omega
          have E2 := Lib.hid (show R = false by rw [E.out]; simp [hn0])
          clear hn0
          go_wp2
          go_ret
          exact ⟨ret_bool (by rw [E1.out, Bool.true_and, E2.out]), HG1.out⟩
      · have e1 : ((ty : Int) == 1) = false := by simp; omega
        have E1 := Lib.hid (show decide (ty = 1) = false by simp [ht])
        clear ht
        go_wp2
        go_ret
        exact ⟨ret_bool (by rw [E1.out, Bool.false_and]), HG1.out⟩
end Go.Proofs.YtlccbekalccahaaGreatDoor
