/-
  In a plan that ends in the file nothing stands in one place with another thing, and all is in the file. No program's function is spoken of here.
-/
import Derived.Test.YthebemikhjglbaaPlOf
namespace Go.Proofs.Ythebemikhjglbaa

namespace Md
variable (m : Md)
theorem eL_step (h : m.segs.length ≤ 16) (k : Nat) : m.eL k ≤ m.eL (k + 1) := by
  rw [eL]
  split
  · exact fin_ge (m.eL_le h k)
  · exact Nat.le_refl _
theorem eO_step (h : m.segs.length ≤ 16) (k : Nat) : m.eO k ≤ m.eO (k + 1) := by
  rw [eO]
  split
  · exact Nat.le_refl _
  split
  · exact fin_ge (m.eO_le h k)
  · exact Nat.le_refl _
theorem eS_step (h : m.segs.length ≤ 16) (k : Nat) : m.eS k ≤ m.eS (k + 1) := by
  rw [eS]
  split
  · exact fin_ge (m.eS_le h k)
  · exact Nat.le_refl _
end Md
theorem mono_of {f : Nat → Nat} (h : ∀ k, f k ≤ f (k + 1)) {a b : Nat} (hab : a ≤ b) : f a ≤ f b := by
  induction b with
  | zero => rw [show a = 0 by omega]; exact Nat.le_refl _
  | succ b ih =>
    rcases Nat.lt_or_ge a (b + 1) with h1 | h1
    · exact Nat.le_trans (ih (by omega)) (h b)
    · rw [show a = b + 1 by omega]; exact Nat.le_refl _

/-- Two stretches are apart. -/
def Ap (x y : Nat × Nat) : Prop := x.2 = 0 ∨ y.2 = 0 ∨ x.1 + x.2 ≤ y.1 ∨ y.1 + y.2 ≤ x.1
/-- What the first k segments, the first k sections have of their own. -/
def ownS (m : Md) (k : Nat) : List (Nat × Nat) := if (m.sg k).pl.inn = -1 then [(m.P2 k, (m.sg k).pl.size)] else []
def ownT (m : Md) (k : Nat) : List (Nat × Nat) := if (m.se k).pl.inn = -1 then [(m.P3 k, (m.se k).pl.size)] else []
def segP (m : Md) : Nat → List (Nat × Nat)
  | 0 => []
  | k + 1 => segP m k ++ ownS m k
def secP (m : Md) : Nat → List (Nat × Nat)
  | 0 => []
  | k + 1 => secP m k ++ ownT m k
def baseP (m : Md) : List (Nat × Nat) := [(0, hSize m.wide), (m.phoff, byWide m.wide 32 56 * m.segs.length)] ++ (if 0 < m.secs.length then [(m.shoff, byWide m.wide 40 64 * (m.secs.length + 1))] else [])
def allP (m : Md) : List (Nat × Nat) := baseP m ++ segP m m.segs.length ++ secP m m.secs.length

/-- A plan that may be. -/
structure Planned (m : Md) : Prop where
  ok : PlOk m
  load : ∀ k, k < m.segs.length → (m.sg k).typ = 1 → (m.sg k).pl.inn = -1
  fits : m.eT ≤ 65536

theorem Planned.eS_in {m : Md} (h : Planned m) {k : Nat} (hk : k ≤ m.secs.length) : m.eS k ≤ 65536 := by
  have h1 := h.fits
  have h2 : m.eS k ≤ m.eS m.secs.length := mono_of (m.eS_step h.ok.n1) hk
  have h3 : m.eS m.secs.length ≤ m.eT := by
    unfold Md.eT
    split
    · exact fin_ge (m.eS_le h.ok.n1 _)
    · exact Nat.le_refl _
  omega
theorem Planned.eO_in {m : Md} (h : Planned m) {k : Nat} (hk : k ≤ m.segs.length) : m.eO k ≤ m.eO m.segs.length ∧ m.eO m.segs.length ≤ 65536 := by
  have h1 := h.eS_in (k := 0) (by omega)
  exact ⟨mono_of (m.eO_step h.ok.n1) hk, h1⟩
theorem Planned.eL_in {m : Md} (h : Planned m) {k : Nat} (hk : k ≤ m.segs.length) : m.eL k ≤ m.eL m.segs.length ∧ m.eL m.segs.length ≤ 65536 := by
  have h1 := (h.eO_in (k := 0) (by omega))
  have h2 : m.eO 0 = m.eL m.segs.length := rfl
  exact ⟨mono_of (m.eL_step h.ok.n1) hk, by omega⟩
/-- The own bytes of a loaded segment, of another one, of a section. -/
theorem Planned.load_at {m : Md} (h : Planned m) {k : Nat} (hk : k < m.segs.length) (ht : (m.sg k).typ = 1) : m.eL k ≤ m.P2 k ∧ m.P2 k + (m.sg k).pl.size = m.eL (k + 1) ∧ m.P2 k = nxt (m.eL k) (m.sg k).vaddr (m.sg k).align := by
  have h1 := h.eL_in (k := k + 1) hk
  have e : m.eL (k + 1) = fin (m.eL k) (m.sg k).vaddr (m.sg k).align (m.sg k).pl.size := by rw [Md.eL, if_pos ht]
  have hin := fin_in (e := m.eL k) (v := (m.sg k).vaddr) (a := (m.sg k).align) (n := (m.sg k).pl.size) (by rw [← e]; omega)
  have e2 : m.P2 k = plc (m.eL k) (m.sg k).vaddr (m.sg k).align := by unfold Md.P2 Md.P1; rw [if_pos ht, if_pos ht]
  rw [e2, e]
  exact ⟨hin.2.2.2, hin.2.2.1, hin.1⟩
theorem Planned.other_at {m : Md} (h : Planned m) {k : Nat} (hk : k < m.segs.length) (ht : (m.sg k).typ ≠ 1) (hi : (m.sg k).pl.inn = -1) : m.eO k ≤ m.P2 k ∧ m.P2 k + (m.sg k).pl.size = m.eO (k + 1) := by
  have h1 := h.eO_in (k := k + 1) hk
  have e : m.eO (k + 1) = fin (m.eO k) 0 8 (m.sg k).pl.size := by rw [Md.eO, if_neg ht, if_pos hi]
  have hin := fin_in (e := m.eO k) (v := 0) (a := 8) (n := (m.sg k).pl.size) (by rw [← e]; omega)
  have e2 : m.P2 k = plc (m.eO k) 0 8 := by unfold Md.P2; rw [if_neg ht, if_pos hi]
  rw [e2, e]
  exact ⟨hin.2.2.2, hin.2.2.1⟩
theorem Planned.sec_at {m : Md} (h : Planned m) {k : Nat} (hk : k < m.secs.length) (hi : (m.se k).pl.inn = -1) : m.eS k ≤ m.P3 k ∧ m.P3 k + (m.se k).pl.size = m.eS (k + 1) := by
  have h1 := h.eS_in (k := k + 1) hk
  have e : m.eS (k + 1) = fin (m.eS k) 0 8 (m.se k).pl.size := by rw [Md.eS, if_pos hi]
  have hin := fin_in (e := m.eS k) (v := 0) (a := 8) (n := (m.se k).pl.size) (by rw [← e]; exact h1)
  have e2 : m.P3 k = plc (m.eS k) 0 8 := by unfold Md.P3; rw [if_pos hi]
  rw [e2, e]
  exact ⟨hin.2.2.2, hin.2.2.1⟩
/-- Where the stretches of the first k segments are. -/
theorem Planned.segs_in {m : Md} (h : Planned m) : ∀ {k : Nat}, k ≤ m.segs.length → ∀ x ∈ segP m k, (m.e1 ≤ x.1 ∧ x.1 + x.2 ≤ m.eL k) ∨ (m.eL m.segs.length ≤ x.1 ∧ x.1 + x.2 ≤ m.eO k)
  | 0, _, x, hx => by simp [segP] at hx
  | k + 1, hk, x, hx => by
    have s1 := m.eL_step h.ok.n1 k
    have s2 := m.eO_step h.ok.n1 k
    rw [segP] at hx
    rcases List.mem_append.1 hx with hx | hx
    · rcases Planned.segs_in h (by omega) x hx with a | a
      · exact .inl ⟨a.1, by omega⟩
      · exact .inr ⟨a.1, by omega⟩
    · unfold ownS at hx
      split at hx
      · rename_i hi
        obtain rfl : x = (m.P2 k, (m.sg k).pl.size) := by simpa using hx
        by_cases ht : (m.sg k).typ = 1
        · have a := h.load_at (by omega) ht
          have b : m.eL 0 ≤ m.eL k := mono_of (m.eL_step h.ok.n1) (by omega)
          have c : m.eL 0 = m.e1 := rfl
          exact .inl ⟨by show m.e1 ≤ m.P2 k; omega, by show m.P2 k + _ ≤ _; omega⟩
        · have a := h.other_at (by omega) ht hi
          have b : m.eO 0 ≤ m.eO k := mono_of (m.eO_step h.ok.n1) (by omega)
          have c : m.eO 0 = m.eL m.segs.length := rfl
          exact .inr ⟨by show _ ≤ m.P2 k; omega, by show m.P2 k + _ ≤ _; omega⟩
      · simp at hx
theorem Planned.segs_ap {m : Md} (h : Planned m) : ∀ {k : Nat}, k ≤ m.segs.length → (segP m k).Pairwise Ap
  | 0, _ => by simp [segP]
  | k + 1, hk => by
    rw [segP, List.pairwise_append]
    refine ⟨Planned.segs_ap h (by omega), by unfold ownS; split <;> simp, fun x hx y hy => ?_⟩
    have hxin := h.segs_in (k := k) (by omega) x hx
    unfold ownS at hy
    split at hy
    · rename_i hi
      obtain rfl : y = (m.P2 k, (m.sg k).pl.size) := by simpa using hy
      unfold Ap
      show x.2 = 0 ∨ (m.sg k).pl.size = 0 ∨ x.1 + x.2 ≤ m.P2 k ∨ m.P2 k + (m.sg k).pl.size ≤ x.1
      by_cases ht : (m.sg k).typ = 1
      · have a := h.load_at (by omega) ht
        have b := h.eL_in (k := k + 1) hk
        omega
      · have a := h.other_at (by omega) ht hi
        have b := h.eL_in (k := k) (by omega)
        have c : m.eO 0 ≤ m.eO k := mono_of (m.eO_step h.ok.n1) (by omega)
        have d : m.eO 0 = m.eL m.segs.length := rfl
        omega
    · simp at hy
theorem Planned.secs_in {m : Md} (h : Planned m) : ∀ {k : Nat}, k ≤ m.secs.length → ∀ x ∈ secP m k, m.eS 0 ≤ x.1 ∧ x.1 + x.2 ≤ m.eS k
  | 0, _, x, hx => by simp [secP] at hx
  | k + 1, hk, x, hx => by
    have s1 := m.eS_step h.ok.n1 k
    rw [secP] at hx
    rcases List.mem_append.1 hx with hx | hx
    · have a := Planned.secs_in h (by omega) x hx
      exact ⟨a.1, by omega⟩
    · unfold ownT at hx
      split at hx
      · rename_i hi
        obtain rfl : x = (m.P3 k, (m.se k).pl.size) := by simpa using hx
        have a := h.sec_at (by omega) hi
        have b : m.eS 0 ≤ m.eS k := mono_of (m.eS_step h.ok.n1) (by omega)
        exact ⟨by show _ ≤ m.P3 k; omega, by show m.P3 k + _ ≤ _; omega⟩
      · simp at hx
theorem Planned.secs_ap {m : Md} (h : Planned m) : ∀ {k : Nat}, k ≤ m.secs.length → (secP m k).Pairwise Ap
  | 0, _ => by simp [secP]
  | k + 1, hk => by
    rw [secP, List.pairwise_append]
    refine ⟨Planned.secs_ap h (by omega), by unfold ownT; split <;> simp, fun x hx y hy => ?_⟩
    have hxin := h.secs_in (k := k) (by omega) x hx
    unfold ownT at hy
    split at hy
    · rename_i hi
      obtain rfl : y = (m.P3 k, (m.se k).pl.size) := by simpa using hy
      unfold Ap
      show x.2 = 0 ∨ (m.se k).pl.size = 0 ∨ x.1 + x.2 ≤ m.P3 k ∨ m.P3 k + (m.se k).pl.size ≤ x.1
      have a := h.sec_at (by omega) hi
      omega
    · simp at hy
/-- The header and the tables. -/
theorem Planned.base_in {m : Md} (h : Planned m) : ∀ x ∈ baseP m, (x = (0, hSize m.wide)) ∨ (x.2 = 0 ∨ (hSize m.wide ≤ x.1 ∧ x.1 + x.2 ≤ m.e1)) ∨ (m.eS m.secs.length ≤ x.1 ∧ x.1 + x.2 = m.eT) := fun x hx => by
  unfold baseP at hx
  rcases List.mem_append.1 hx with hx | hx
  · simp only [List.mem_cons, List.not_mem_nil, or_false] at hx
    rcases hx with rfl | rfl
    · exact .inl rfl
    · refine .inr (.inl ?_)
      show byWide m.wide 32 56 * m.segs.length = 0 ∨ (hSize m.wide ≤ m.phoff ∧ m.phoff + byWide m.wide 32 56 * m.segs.length ≤ m.e1)
      unfold Md.phoff Md.e1
      by_cases h0 : 0 < m.segs.length
      · rw [if_pos h0]
        exact .inr ⟨Nat.le_refl _, Nat.le_refl _⟩
      · rw [show m.segs.length = 0 by omega]
        exact .inl rfl
  · split at hx
    · rename_i h0
      obtain rfl : x = (m.shoff, byWide m.wide 40 64 * (m.secs.length + 1)) := by simpa using hx
      refine .inr (.inr ?_)
      show m.eS m.secs.length ≤ m.shoff ∧ m.shoff + byWide m.wide 40 64 * (m.secs.length + 1) = m.eT
      have hf := h.fits
      have e : m.eT = fin (m.eS m.secs.length) 0 8 (byWide m.wide 40 64 * (m.secs.length + 1)) := by unfold Md.eT; rw [if_pos h0]
      have e2 : m.shoff = plc (m.eS m.secs.length) 0 8 := by unfold Md.shoff; rw [if_pos h0]
      have hin := fin_in (e := m.eS m.secs.length) (v := 0) (a := 8) (n := byWide m.wide 40 64 * (m.secs.length + 1)) (by rw [← e]; exact hf)
      rw [e, e2]
      exact ⟨hin.2.2.2, hin.2.2.1⟩
    · simp at hx
theorem Planned.order {m : Md} (h : Planned m) : hSize m.wide ≤ m.e1 ∧ m.e1 ≤ m.eL m.segs.length ∧ m.eL m.segs.length ≤ m.eO m.segs.length ∧ m.eO m.segs.length = m.eS 0 ∧ m.eS 0 ≤ m.eS m.secs.length ∧ m.eS m.secs.length ≤ m.eT := by
  have a : m.eL 0 ≤ m.eL m.segs.length := mono_of (m.eL_step h.ok.n1) (by omega)
  have b : m.eO 0 ≤ m.eO m.segs.length := mono_of (m.eO_step h.ok.n1) (by omega)
  have c : m.eS 0 ≤ m.eS m.secs.length := mono_of (m.eS_step h.ok.n1) (by omega)
  have d : m.eS m.secs.length ≤ m.eT := by
    unfold Md.eT
    split
    · exact fin_ge (m.eS_le h.ok.n1 _)
    · exact Nat.le_refl _
  exact ⟨Nat.le_add_right _ _, a, b, rfl, c, d⟩
theorem Planned.base_ap {m : Md} (h : Planned m) : (baseP m).Pairwise Ap := by
  have ho := h.order
  have hb := h.base_in
  unfold baseP
  rw [List.pairwise_append]
  refine ⟨?_, by split <;> simp, fun x hx y hy => ?_⟩
  · simp only [List.pairwise_cons, List.mem_cons, List.not_mem_nil, or_false, forall_eq, List.Pairwise.nil, and_true, false_implies, implies_true]
    have h1 := hb (m.phoff, byWide m.wide 32 56 * m.segs.length) (by unfold baseP; simp)
    unfold Ap
    show hSize m.wide = 0 ∨ byWide m.wide 32 56 * m.segs.length = 0 ∨ 0 + hSize m.wide ≤ m.phoff ∨ _
    unfold Md.phoff
    by_cases h0 : 0 < m.segs.length
    · rw [if_pos h0]; omega
    · rw [show m.segs.length = 0 by omega]; simp
  · split at hy
    · rename_i h0
      obtain rfl : y = (m.shoff, byWide m.wide 40 64 * (m.secs.length + 1)) := by simpa using hy
      have h1 := hb (m.shoff, byWide m.wide 40 64 * (m.secs.length + 1)) (by unfold baseP; rw [if_pos h0]; simp)
      have e2 : m.eS m.secs.length ≤ m.shoff := by
        have hf := h.fits
        have e : m.eT = fin (m.eS m.secs.length) 0 8 (byWide m.wide 40 64 * (m.secs.length + 1)) := by unfold Md.eT; rw [if_pos h0]
        have e2 : m.shoff = plc (m.eS m.secs.length) 0 8 := by unfold Md.shoff; rw [if_pos h0]
        have hin := fin_in (e := m.eS m.secs.length) (v := 0) (a := 8) (n := byWide m.wide 40 64 * (m.secs.length + 1)) (by rw [← e]; exact hf)
        rw [e2]
        exact hin.2.2.2
      unfold Ap
      show x.2 = 0 ∨ _ ∨ x.1 + x.2 ≤ m.shoff ∨ _
      simp only [List.mem_cons, List.not_mem_nil, or_false] at hx
      rcases hx with rfl | rfl
      · refine .inr (.inr (.inl ?_))
        show 0 + hSize m.wide ≤ m.shoff
        omega
      · by_cases h00 : 0 < m.segs.length
        · refine .inr (.inr (.inl ?_))
          show m.phoff + byWide m.wide 32 56 * m.segs.length ≤ m.shoff
          have e3 : m.phoff + byWide m.wide 32 56 * m.segs.length = m.e1 := by unfold Md.phoff Md.e1; rw [if_pos h00]
          omega
        · refine .inl ?_
          show byWide m.wide 32 56 * m.segs.length = 0
          rw [show m.segs.length = 0 by omega, Nat.mul_zero]
    · simp at hy
/-- All of it. -/
theorem Planned.all_in {m : Md} (h : Planned m) : ∀ x ∈ allP m, x.2 = 0 ∧ x.1 ≤ m.eT ∨ x.1 + x.2 ≤ m.eT := fun x hx => by
  have ho := h.order
  unfold allP at hx
  rcases List.mem_append.1 hx with hx | hx
  · rcases List.mem_append.1 hx with hx | hx
    · rcases h.base_in x hx with rfl | a | a
      · refine .inr ?_
        show 0 + hSize m.wide ≤ _
        omega
      · rcases a with a | a
        · refine .inl ⟨a, ?_⟩
          unfold baseP at hx
          rcases List.mem_append.1 hx with hx | hx
          · simp only [List.mem_cons, List.not_mem_nil, or_false] at hx
            rcases hx with rfl | rfl
            · exact Nat.zero_le _
            · show m.phoff ≤ _
              unfold Md.phoff
              split <;> omega
          · split at hx
            · rename_i h0
              obtain rfl : x = (m.shoff, byWide m.wide 40 64 * (m.secs.length + 1)) := by simpa using hx
              exfalso
              have : 40 ≤ byWide m.wide 40 64 := by unfold byWide; split <;> omega
              have h2 := Nat.mul_le_mul this (show 1 ≤ m.secs.length + 1 by omega)
              have : byWide m.wide 40 64 * (m.secs.length + 1) = 0 := a
              omega
            · simp at hx
        · exact .inr (by omega)
      · exact .inr (by omega)
    · rcases h.segs_in (Nat.le_refl _) x hx with a | a
      · exact .inr (by omega)
      · exact .inr (by omega)
  · have a := h.secs_in (Nat.le_refl _) x hx
    exact .inr (by omega)
theorem Planned.all_ap {m : Md} (h : Planned m) : (allP m).Pairwise Ap := by
  have ho := h.order
  unfold allP
  rw [List.pairwise_append, List.pairwise_append]
  refine ⟨⟨h.base_ap, h.segs_ap (Nat.le_refl _), fun x hx y hy => ?_⟩, h.secs_ap (Nat.le_refl _), fun x hx y hy => ?_⟩
  · have b := h.segs_in (Nat.le_refl _) y hy
    unfold Ap
    rcases h.base_in x hx with rfl | a | a
    · refine .inr (.inr (.inl ?_))
      show 0 + hSize m.wide ≤ _
      omega
    · omega
    · omega
  · have b := h.secs_in (Nat.le_refl _) y hy
    unfold Ap
    rcases List.mem_append.1 hx with hx | hx
    · rcases h.base_in x hx with rfl | a | a
      · refine .inr (.inr (.inl ?_))
        show 0 + hSize m.wide ≤ _
        omega
      · omega
      · omega
    · rcases h.segs_in (Nat.le_refl _) x hx with a | a
      · omega
      · omega
theorem segP_len (m : Md) : ∀ k, (segP m k).length ≤ k
  | 0 => by simp [segP]
  | k + 1 => by
    have := segP_len m k
    rw [segP, List.length_append]
    have : (ownS m k).length ≤ 1 := by unfold ownS; split <;> simp
    omega
theorem secP_len (m : Md) : ∀ k, (secP m k).length ≤ k
  | 0 => by simp [secP]
  | k + 1 => by
    have := secP_len m k
    rw [secP, List.length_append]
    have : (ownT m k).length ≤ 1 := by unfold ownT; split <;> simp
    omega
theorem baseP_len (m : Md) : (baseP m).length ≤ 3 := by
  unfold baseP
  rw [List.length_append]
  split <;> simp
end Go.Proofs.Ythebemikhjglbaa
