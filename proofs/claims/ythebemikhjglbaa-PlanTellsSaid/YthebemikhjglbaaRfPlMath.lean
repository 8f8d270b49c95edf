/-
  The document's own plan beside the plain one: the same up to the file's greatest size, and beyond it together. No program's function is spoken of here.
-/
import Derived.Test.YthebemikhjglbaaRfPow
import Derived.Test.YthebemikhjglbaaPlOf
namespace Go.Proofs.Ythebemikhjglbaa

/-- The two ends: alike in the file, or both beyond. -/
def Lk (e r : Nat) : Prop := (r ≤ 65536 → e = r) ∧ (65536 < r → e = 65537)
theorem Lk.step {e r v a x n : Nat} (h : Lk e r) (hx : NextR r v a x) : Lk (fin e v a n) (x + n) ∧ (x + n ≤ 65536 → r ≤ 65536 ∧ x = plc e v a) := by
  obtain ⟨h1, h2⟩ := h
  obtain ⟨x1, x2, x3⟩ := hx
  rcases Nat.lt_or_ge 65536 r with hr | hr
  · have he := h2 hr
    have g1 := nxt_ge r v a
    have hx := x2 (by omega)
    have g2 := nxt_ge e v a
    refine ⟨⟨fun h => by omega, fun _ => ?_⟩, fun h => by omega⟩
    unfold fin plc
    omega
  · obtain rfl := h1 hr
    rcases Nat.lt_or_ge 65536 (nxt e v a) with hn | hn
    · have hx := x2 hn
      refine ⟨⟨fun h => by omega, fun _ => ?_⟩, fun h => by omega⟩
      unfold fin plc
      omega
    · have hx := x1 hn
      subst hx
      refine ⟨⟨fun h => ?_, fun h => ?_⟩, fun h => ⟨hr, ?_⟩⟩
      · unfold fin plc; omega
      · unfold fin plc; omega
      · unfold plc; omega
theorem Lk.start {e : Nat} (h : e ≤ 65536) : Lk e e := ⟨fun _ => rfl, fun h' => by omega⟩

/-- How far the first walk over the segments has come. -/
def StL (m : Md) (n k r : Nat) (F : Nat → Nat) : Prop := Lk (m.eL k) r ∧ (r ≤ 65536 → ∀ j, j < n → F j = upTo m.P1 k j) ∧ r < 18446744073709551616
def StO (m : Md) (n k r : Nat) (F : Nat → Nat) : Prop := Lk (m.eO k) r ∧ (r ≤ 65536 → ∀ j, j < n → F j = mixP m k j) ∧ r < 18446744073709551616
def StS (m : Md) (n1 n k r : Nat) (F G : Nat → Nat) : Prop := Lk (m.eS k) r ∧ (r ≤ 65536 → (∀ j, j < n1 → F j = m.P2 j) ∧ ∀ j, j < n → G j = upTo m.P3 k j) ∧ r < 18446744073709551616
/-- A function with one value put in. -/
def put1 (F : Nat → Nat) (k v : Nat) (j : Nat) : Nat := if j = k then v else F j

theorem StL.load {m : Md} {n k r x : Nat} {F : Nat → Nat} (h : StL m n k r F) (ht : (m.sg k).typ = 1) (hx : NextR r (m.sg k).vaddr (m.sg k).align x) (hz : (m.sg k).pl.size < 9223372036854775808) :
    StL m n (k + 1) (x + (m.sg k).pl.size) (put1 F k x) := by
  obtain ⟨h1, h2, h3⟩ := h
  obtain ⟨s1, s2⟩ := h1.step (n := (m.sg k).pl.size) hx
  refine ⟨?_, fun hr j hj => ?_, by have := hx.2.2; omega⟩
  · rw [Md.eL, if_pos ht]; exact s1
  · obtain ⟨hr', hx'⟩ := s2 hr
    have hF := h2 hr' j hj
    unfold put1 upTo at *
    by_cases e : j = k
    · subst e
      rw [if_pos rfl, if_pos (by omega), hx', Md.P1, if_pos ht]
    · rw [if_neg e, hF]
      by_cases e2 : j < k
      · rw [if_pos e2, if_pos (by omega)]
      · rw [if_neg e2, if_neg (by omega)]
theorem StL.skip {m : Md} {n k r : Nat} {F : Nat → Nat} (h : StL m n k r F) (ht : (m.sg k).typ ≠ 1) : StL m n (k + 1) r F := by
  obtain ⟨h1, h2, h3⟩ := h
  refine ⟨?_, fun hr j hj => ?_, h3⟩
  · rw [Md.eL, if_neg ht]; exact h1
  · rw [h2 hr j hj, upTo_skip m k ht]
theorem StL.toO {m : Md} {n r : Nat} {F : Nat → Nat} (h : StL m n n r F) (hn : n = m.segs.length) : StO m n 0 r F := by
  obtain ⟨h1, h2, h3⟩ := h
  refine ⟨?_, fun hr j hj => ?_, h3⟩
  · rw [Md.eO, ← hn]; exact h1
  · rw [h2 hr j hj, mix_zero]
    unfold upTo
    rw [if_pos hj]
theorem StO.keep {m : Md} {n k r : Nat} {F : Nat → Nat} (h : StO m n k r F) (ht : (m.sg k).typ = 1) : StO m n (k + 1) r F := by
  obtain ⟨h1, h2, h3⟩ := h
  refine ⟨?_, fun hr j hj => ?_, h3⟩
  · rw [Md.eO, if_pos ht]; exact h1
  · rw [h2 hr j hj, mix_keep m k ht]
theorem mix_put {m : Md} {n k v : Nat} {F : Nat → Nat} (h : ∀ j, j < n → F j = mixP m k j) (hv : v = m.P2 k) : ∀ j, j < n → put1 F k v j = mixP m (k + 1) j := fun j hj => by
  have := h j hj
  unfold put1 mixP at *
  by_cases e : j = k
  · subst e
    rw [if_pos rfl, if_pos (by omega), hv]
  · rw [if_neg e, this]
    by_cases e2 : j < k
    · rw [if_pos e2, if_pos (by omega)]
    · rw [if_neg e2, if_neg (by omega)]
theorem StO.own {m : Md} {n k r x : Nat} {F : Nat → Nat} (h : StO m n k r F) (ht : (m.sg k).typ ≠ 1) (hi : (m.sg k).pl.inn = -1) (hx : NextR r 0 8 x) (hz : (m.sg k).pl.size < 9223372036854775808) :
    StO m n (k + 1) (x + (m.sg k).pl.size) (put1 F k x) := by
  obtain ⟨h1, h2, h3⟩ := h
  obtain ⟨s1, s2⟩ := h1.step (n := (m.sg k).pl.size) hx
  refine ⟨?_, fun hr => ?_, by have := hx.2.2; omega⟩
  · rw [Md.eO, if_neg ht, if_pos hi]; exact s1
  · obtain ⟨hr', hx'⟩ := s2 hr
    exact mix_put (h2 hr') (by rw [hx', Md.P2, if_neg ht, if_pos hi])
theorem StO.seg {m : Md} {n k r i : Nat} {F : Nat → Nat} (h : StO m n k r F) (ht : (m.sg k).typ ≠ 1) (hi : (m.sg k).pl.inn = (i : Int)) (hin : i < n) (hty : (m.sg i).typ = 1) (hof : (m.sg k).pl.off < 9223372036854775808) :
    StO m n (k + 1) r (put1 F k ((F i + (m.sg k).pl.off) % 18446744073709551616)) := by
  obtain ⟨h1, h2, h3⟩ := h
  have hne : ¬ ((m.sg k).pl.inn = -1) := by omega
  refine ⟨?_, fun hr => ?_, h3⟩
  · rw [Md.eO, if_neg ht, if_neg hne]; exact h1
  · have := h2 hr i hin
    rw [mix_loaded m k i hty] at this
    have hl := m.P1_le i
    have e : m.P2 k = m.P1 i + (m.sg k).pl.off := by unfold Md.P2; rw [if_neg ht, if_neg hne, hi]; rfl
    exact mix_put (h2 hr) (by rw [this, e, Nat.mod_eq_of_lt (by omega)])
theorem StO.toS {m : Md} {n n2 r : Nat} {F G : Nat → Nat} (h : StO m n n r F) (hn : n = m.segs.length) (hG : ∀ j, j < n2 → G j = 0) : StS m n n2 0 r F G := by
  obtain ⟨h1, h2, h3⟩ := h
  refine ⟨?_, fun hr => ⟨fun j hj => ?_, fun j hj => ?_⟩, h3⟩
  · rw [Md.eS, ← hn]; exact h1
  · rw [h2 hr j hj]; unfold mixP; rw [if_pos hj]
  · rw [hG j hj]; unfold upTo; rw [if_neg (by omega)]
theorem up_put {m : Md} {n k v : Nat} {G : Nat → Nat} (h : ∀ j, j < n → G j = upTo m.P3 k j) (hv : v = m.P3 k) : ∀ j, j < n → put1 G k v j = upTo m.P3 (k + 1) j := fun j hj => by
  have := h j hj
  unfold put1 upTo at *
  by_cases e : j = k
  · subst e
    rw [if_pos rfl, if_pos (by omega), hv]
  · rw [if_neg e, this]
    by_cases e2 : j < k
    · rw [if_pos e2, if_pos (by omega)]
    · rw [if_neg e2, if_neg (by omega)]
theorem StS.own {m : Md} {n1 n k r x : Nat} {F G : Nat → Nat} (h : StS m n1 n k r F G) (hi : (m.se k).pl.inn = -1) (hx : NextR r 0 8 x) (hz : (m.se k).pl.size < 9223372036854775808) :
    StS m n1 n (k + 1) (x + (m.se k).pl.size) F (put1 G k x) := by
  obtain ⟨h1, h2, h3⟩ := h
  obtain ⟨s1, s2⟩ := h1.step (n := (m.se k).pl.size) hx
  refine ⟨?_, fun hr => ?_, by have := hx.2.2; omega⟩
  · rw [Md.eS, if_pos hi]; exact s1
  · obtain ⟨hr', hx'⟩ := s2 hr
    exact ⟨(h2 hr').1, up_put (h2 hr').2 (by rw [hx', Md.P3, if_pos hi])⟩
theorem StS.seg {m : Md} {n1 n k r i : Nat} {F G : Nat → Nat} (h : StS m n1 n k r F G) (hi : (m.se k).pl.inn = (i : Int)) (hin : i < n1) (hof : m.P2 i + (m.se k).pl.off < 18446744073709551616) :
    StS m n1 n (k + 1) r F (put1 G k ((F i + (m.se k).pl.off) % 18446744073709551616)) := by
  obtain ⟨h1, h2, h3⟩ := h
  have hne : ¬ ((m.se k).pl.inn = -1) := by omega
  refine ⟨?_, fun hr => ?_, h3⟩
  · rw [Md.eS, if_neg hne]; exact h1
  · have := (h2 hr).1 i hin
    have e : m.P3 k = m.P2 i + (m.se k).pl.off := by unfold Md.P3; rw [if_neg hne, hi]; rfl
    exact ⟨(h2 hr).1, up_put (h2 hr).2 (by rw [this, e, Nat.mod_eq_of_lt (by omega)])⟩
end Go.Proofs.Ythebemikhjglbaa
