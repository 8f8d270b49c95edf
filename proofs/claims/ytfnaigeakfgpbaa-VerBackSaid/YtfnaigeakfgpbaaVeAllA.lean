/-
  What reading all of a chain answers, and small words for it. No program's function is spoken of here but the error's.
-/
import Derived.Test.YtfnaigeakfgpbaaVeMem
import Derived.Test.YtfnaigeakfgpbaaVeParts
namespace Go.Proofs.Ytfnaigeakfgpbaa
open Go.RowKit

/-- What all answers: all of them, or an error. -/
def VAll (M : VM) (S : List Ve × Nat × Nat) (w : World) (e : Ending) (w' : World) : Prop :=
  (S.2.1 = 0 ∧ ∃ A2 c2, e = .returned (.tuple #[.slice A2 S.1.length c2, .nilIface]) ∧ ZV M w' w'.heap.size A2 S.1.length c2 S.1 ∧ Grow w w') ∨
  (S.2.1 ≠ 0 ∧ ∃ v, e = .returned (.tuple #[.slice none 0 0, v]) ∧ Err w' v S.2.1 S.2.2 ∧ Grow w w')

theorem vtParts_in (G : Nat → Nat → Nat) (n z : Nat) : ∀ c p, (vtParts G n z c p).2.1 = 0 → (vtParts G n z c p).1.length ≤ c ∧ ∀ k ∈ (vtParts G n z c p).1, k + z ≤ n
  | 0, p, _ => ⟨by simp [vtParts], by simp [vtParts]⟩
  | c + 1, p, h => by
    have ih := vtParts_in G n z c (p + G (p + (z - 4)) 4)
    rw [vtParts] at h ⊢
    by_cases h1 : n < p + z
    · rw [if_pos h1] at h; cases h
    · rw [if_neg h1] at h ⊢
      by_cases h2 : c = 0
      · rw [if_pos h2] at h ⊢
        by_cases h3 : G (p + (z - 4)) 4 = 0
        · rw [if_pos h3]
          exact ⟨by simp, fun k hk => by simp at hk; omega⟩
        · rw [if_neg h3] at h; cases h
      · rw [if_neg h2] at h ⊢
        by_cases h3 : G (p + (z - 4)) 4 < z
        · rw [if_pos h3] at h; cases h
        · rw [if_neg h3] at h ⊢
          obtain ⟨i1, i2⟩ := ih h
          refine ⟨by simpa using i1, fun k hk => ?_⟩
          rcases List.mem_cons.1 hk with e | e
          · omega
          · exact i2 k e

/-- An error that is one. -/
theorem Err.some {w : World} {v : Value} {c p : Nat} (h : Err w v c p) (hc : c ≠ 0) : ∃ b, v = .iface 78 (.pointer (some ⟨b, 0, none⟩)) := by
  rcases h with ⟨h, _⟩ | ⟨_, b, h, _⟩
  · exact absurd h hc
  · exact ⟨b, h⟩
end Go.Proofs.Ytfnaigeakfgpbaa
