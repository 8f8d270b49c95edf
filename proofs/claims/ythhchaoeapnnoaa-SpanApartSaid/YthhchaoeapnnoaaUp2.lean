/-
  The contract of the head of layer 2's statements: the document's example holds.
-/
import Derived.Test.YthhchaoeapnnoaaSpanD
namespace Go.Proofs.Ythhchaoeapnnoaa
open Go.RowKit

theorem RS.lit2 (w : World) (t : TypeId) : RS (w.alloc (.cells #[.int .u64 0, .int .u64 5, .int .u64 5, .int .u64 5] t)) (w.heap.size + 1) (some ⟨w.heap.size, 0, none⟩) 2 2 [(0, 5), (5, 5)] :=
  ⟨rfl, Nat.le_refl _, by unfold maxLen; omega, by decide, fun _ => ⟨w.heap.size, 0, rfl, by omega, fun j hj => by
    match j, hj with
    | 0, _ => simp
    | 1, _ => simp⟩⟩
theorem RS.lit3 (w : World) (t : TypeId) : RS (w.alloc (.cells #[.int .u64 0, .int .u64 5, .int .u64 9, .int .u64 0, .int .u64 4, .int .u64 1] t)) (w.heap.size + 1) (some ⟨w.heap.size, 0, none⟩) 3 3 [(0, 5), (9, 0), (4, 1)] :=
  ⟨rfl, Nat.le_refl _, by unfold maxLen; omega, by decide, fun _ => ⟨w.heap.size, 0, rfl, by omega, fun j hj => by
    match j, hj with
    | 0, _ => simp
    | 1, _ => simp
    | 2, _ => simp⟩⟩

/-- The first pair is one. -/
theorem First.one {l : List (Nat × Nat)} {i k i' k' : Nat} (h : First l i k) (h' : First l i' k') : i = i' ∧ k = k' := by
  obtain ⟨a1, a2, a3, a4, a5⟩ := h
  obtain ⟨b1, b2, b3, b4, b5⟩ := h'
  rcases Nat.lt_trichotomy k k' with h | h | h
  · have := b3 k h i a1; rw [a5] at this; cases this
  · subst h
    rcases Nat.lt_trichotomy i i' with h | h | h
    · have := b4 i h; rw [a5] at this; cases this
    · exact ⟨h, rfl⟩
    · have := a4 i' h; rw [b5] at this; cases this
  · have := a3 k' h i' b1; rw [b5] at this; cases this
theorem First.not_bare {l : List (Nat × Nat)} {i k : Nat} (h : First l i k) : ¬ Bare l l.length := fun hb => by
  obtain ⟨a1, a2, a3, a4, a5⟩ := h
  have := hb k a2 i a1
  rw [a5] at this; cases this

theorem first_up : First [(0, 5), (9, 0), (4, 1)] 0 2 := by
  refine ⟨by omega, by decide, ?_, fun i h => absurd h (Nat.not_lt_zero _), by decide +kernel⟩
  intro k hk i hi
  obtain ⟨rfl, rfl⟩ : k = 1 ∧ i = 0 := by omega
  decide +kernel
theorem up_up : Up [(0, 5), (5, 5)] := by
  intro k h1 h2
  obtain rfl : k = 1 := by simp at h2; omega
  decide +kernel

set_option maxHeartbeats 800000 in
theorem up2_any (w : World) : Calls Try.prog 5 #[] w fun e w' => e = .returned (.bool true) ∧ Grow w w' := by
  go_enter Try.func5, Try.ntmps5
  go_wp2_with fail
  refine (clash_any _ _ _ [(0, 5), (9, 0), (4, 1)] (w.heap.size + 2) _ (by simpa using RS.lit3 (w.alloc (.cells #[.int .u64 0, .int .u64 5, .int .u64 5, .int .u64 5] 25)) 25) (by simp)).mono ?_
  rintro e w1 ⟨h, hg⟩
  obtain rfl : e = .returned (.tuple #[.int .i64 0, .int .i64 2, .bool true]) := by
    rcases h with ⟨_, hb⟩ | ⟨i, k, rfl, hf⟩
    · exact absurd hb first_up.not_bare
    · obtain ⟨rfl, rfl⟩ := hf.one first_up
      rfl
  clear h
  have HS : Hid (RS w1 (w.heap.size + 1) (some ⟨w.heap.size, 0, none⟩) 2 2 [(0, 5), (5, 5)]) := Lib.hid ((RS.lit2 w 25).grow (by simp) ((Grow.of_alloc _ _).trans hg))
  have HZ : Hid (w.heap.size + 1 ≤ w1.heap.size) := Lib.hid (by have := hg.size; simp at this; omega)
  have HG : Hid (Grow w w1) := Lib.hid ((Grow.of_alloc _ _).trans ((Grow.of_alloc _ _).trans hg))
  clear hg
  go_wp2_with fail
  refine wp_region_chain [(0, true), (1, false), (2, true), (3, true), (4, true), (5, true), (6, true), (7, true), (8, true), (9, false), (10, true), (11, true), (12, true), (13, true), (14, true), (15, true), (16, true), (17, true), (18, true), (19, true), (20, true), (21, true), (22, true), (23, true)] (by kernel_rfl) (by kernel_rfl) (by kernel_rfl) ?_
  have HD : Hid (Grow w w1.drew) := Lib.hid (HG.out.trans (Grow.of_drew _))
  have HT := Lib.hid (HS.out.grow HZ.out (Grow.of_drew _))
  have HY : Hid (w.heap.size + 1 ≤ w1.drew.heap.size) := HZ
  generalize w1.drew = w2 at HD HT HY ⊢
  clear HG HS HZ
  repeat (first | (refine chain_take rfl (by rfl) ?_ (fun W hG => ?_) ?_; rotate_left; (go_simp; rfl); simp only [Act.put, List.setIfInBounds_toArray, List.set_cons_zero, List.set_cons_succ]) | (refine chain_skip rfl (by rfl) ?_; simp only [Act.put, List.setIfInBounds_toArray, List.set_cons_zero, List.set_cons_succ]))
  refine chain_only rfl (by rfl) (fun K hK => ?_)
  go_simp
  refine (rising_any _ _ _ _ _ _ HT.out HY.out).mono ?_
  rintro e w3 ⟨r, rfl, hr, hb⟩
  obtain rfl := hr.2 up_up
  refine hK _ _ hb ?_
  clear hK K hr
  have HE : Hid (Grow w w3) := HD.out.trans hb
  have HU := Lib.hid (HT.out.grow HY.out hb)
  have c0 : ∀ W, Grow w3 W → W.cell? ⟨w.heap.size, 0, none⟩ = some (.int .u64 0) := fun W h => (HT.out.at HY.out (j := 0) (by decide) (hb.trans h)).1
  have c1 : ∀ W, Grow w3 W → W.cell? ⟨w.heap.size, 1, none⟩ = some (.int .u64 5) := fun W h => (HT.out.at HY.out (j := 0) (by decide) (hb.trans h)).2
  have c2 : ∀ W, Grow w3 W → W.cell? ⟨w.heap.size, 2, none⟩ = some (.int .u64 5) := fun W h => (HT.out.at HY.out (j := 1) (by decide) (hb.trans h)).1
  have c3 : ∀ W, Grow w3 W → W.cell? ⟨w.heap.size, 3, none⟩ = some (.int .u64 5) := fun W h => (HT.out.at HY.out (j := 1) (by decide) (hb.trans h)).2
  clear hb
  repeat (first | (refine chain_take rfl (by rfl) ?_ (fun W hG => ?_) ?_; rotate_left; (go_simp; rfl); simp only [Act.put, List.setIfInBounds_toArray, List.set_cons_zero, List.set_cons_succ]) | (refine chain_skip rfl (by rfl) ?_; simp only [Act.put, List.setIfInBounds_toArray, List.set_cons_zero, List.set_cons_succ]))
  refine chain_only rfl (by rfl) (fun K hK => ?_)
  go_simp
  refine (meet_any 0 5 5 5 _ (by omega) (by omega) (by omega) (by omega)).mono ?_
  rintro e w4 ⟨rfl, hb⟩
  refine hK _ _ hb ?_
  have HF : Hid (Grow w w4) := HE.out.trans hb
  clear hK K hb c0 c1 c2 c3
  rw [show meetN 0 5 5 5 = false by decide +kernel]
  repeat (first | (refine chain_take rfl (by rfl) ?_ (fun W hG => ?_) ?_; rotate_left; (go_simp; rfl); simp only [Act.put, List.setIfInBounds_toArray, List.set_cons_zero, List.set_cons_succ]) | (refine chain_skip rfl (by rfl) ?_; simp only [Act.put, List.setIfInBounds_toArray, List.set_cons_zero, List.set_cons_succ]))
  refine chain_done ?_
  go_wp2
  go_ret
  exact ⟨rfl, HF.out⟩
end Go.Proofs.Ythhchaoeapnnoaa
