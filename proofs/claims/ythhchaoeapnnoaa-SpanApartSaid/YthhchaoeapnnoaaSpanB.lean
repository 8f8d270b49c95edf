/-
  The contract of span.Meet.
-/
import Derived.Test.YthhchaoeapnnoaaSpanA
namespace Go.Proofs.Ythhchaoeapnnoaa
open Go.RowKit

theorem two_boxed (w : World) (x y z u : Value) (t : TypeId) :
    (∀ W, Grow ((w.alloc (.cells #[x, y] t)).alloc (.cells #[z, u] t)).drew W → W.cell? ⟨w.heap.size, 0, none⟩ = some x) ∧
    (∀ W, Grow ((w.alloc (.cells #[x, y] t)).alloc (.cells #[z, u] t)).drew W → W.cell? ⟨w.heap.size, 1, none⟩ = some y) ∧
    (∀ W, Grow ((w.alloc (.cells #[x, y] t)).alloc (.cells #[z, u] t)).drew W → W.cell? ⟨w.heap.size + 1, 0, none⟩ = some z) ∧
    (∀ W, Grow ((w.alloc (.cells #[x, y] t)).alloc (.cells #[z, u] t)).drew W → W.cell? ⟨w.heap.size + 1, 1, none⟩ = some u) := by
  refine ⟨fun W h => ?_, fun W h => ?_, fun W h => ?_, fun W h => ?_⟩ <;> rw [Below.cell h (by simp; try omega)] <;> simp

set_option maxHeartbeats 800000 in
theorem meet_any (a n b m : Nat) (w : World) (ha : a < 18446744073709551616) (hn : n < 18446744073709551616) (hb : b < 18446744073709551616) (hm : m < 18446744073709551616) :
    Calls Try.prog 6 #[.agg #[.int .u64 a, .int .u64 n], .agg #[.int .u64 b, .int .u64 m]] w fun e w' => e = .returned (.bool (meetN a n b m)) ∧ Grow w w' := by
  have pn : n = 0 ∨ 0 < n := by omega
  have pm : m = 0 ∨ 0 < m := by omega
  have LB := lastN_lt b m
  have LA := lastN_lt a n
  rcases pn with pn | pn
  · have d0 : decide (0 < n) = false := decide_eq_false (by omega)
    have E := Lib.hid (show meetN a n b m = false by simp [meetN, pn])
    clear pn
    go_enter Try.func6, Try.ntmps6
    go_wp2_with fail
    refine wp_region_chain [(0, true), (1, true), (2, true), (3, true), (4, true), (5, true), (6, true), (7, true), (8, true), (9, true), (10, true), (11, true), (12, false), (13, true), (14, true), (15, true), (16, true), (17, true), (18, true), (19, false), (20, true), (21, true), (22, true)] (by kernel_rfl) (by kernel_rfl) (by kernel_rfl) ?_
    have HG : Hid (Grow w ((w.alloc (.cells #[.int .u64 a, .int .u64 n] 25)).alloc (.cells #[.int .u64 b, .int .u64 m] 25)).drew) := ((Grow.of_alloc _ _).trans (Grow.of_alloc _ _)).trans (Grow.of_drew _)
    obtain ⟨a0, a1, b0, b1⟩ := two_boxed w (.int .u64 a) (.int .u64 n) (.int .u64 b) (.int .u64 m) 25
    generalize ((w.alloc (.cells #[.int .u64 a, .int .u64 n] 25)).alloc (.cells #[.int .u64 b, .int .u64 m] 25)).drew = w1 at HG a0 a1 b0 b1 ⊢
    repeat (first | (refine chain_take rfl (by rfl) ?_ (fun W hG => ?_) ?_; rotate_left; (go_simp; rfl); simp only [Act.put, List.setIfInBounds_toArray, List.set_cons_zero, List.set_cons_succ]) | (refine chain_skip rfl (by rfl) ?_; simp only [Act.put, List.setIfInBounds_toArray, List.set_cons_zero, List.set_cons_succ]))
    refine chain_none rfl (by rfl) ?_
    simp only [Act.put, List.setIfInBounds_toArray, List.set_cons_zero, List.set_cons_succ]
    repeat (first | (refine chain_take rfl (by rfl) ?_ (fun W hG => ?_) ?_; rotate_left; (go_simp; rfl); simp only [Act.put, List.setIfInBounds_toArray, List.set_cons_zero, List.set_cons_succ]) | (refine chain_skip rfl (by rfl) ?_; simp only [Act.put, List.setIfInBounds_toArray, List.set_cons_zero, List.set_cons_succ]))
    refine chain_none rfl (by rfl) ?_
    simp only [Act.put, List.setIfInBounds_toArray, List.set_cons_zero, List.set_cons_succ]
    repeat (first | (refine chain_take rfl (by rfl) ?_ (fun W hG => ?_) ?_; rotate_left; (go_simp; rfl); simp only [Act.put, List.setIfInBounds_toArray, List.set_cons_zero, List.set_cons_succ]) | (refine chain_skip rfl (by rfl) ?_; simp only [Act.put, List.setIfInBounds_toArray, List.set_cons_zero, List.set_cons_succ]))
    refine chain_done ?_
    go_wp2
    go_ret
    exact ⟨ret_bool E.out.symm, HG.out⟩
  rcases pm with pm | pm
  · have d0 : decide (0 < n) = true := decide_eq_true (by omega)
    have d1 : decide (0 < m) = false := decide_eq_false (by omega)
    have E := Lib.hid (show meetN a n b m = false by simp [meetN, pm])
    clear pm
    go_enter Try.func6, Try.ntmps6
    go_wp2_with fail
    refine wp_region_chain [(0, true), (1, true), (2, true), (3, true), (4, true), (5, true), (6, true), (7, true), (8, true), (9, true), (10, true), (11, true), (12, false), (13, true), (14, true), (15, true), (16, true), (17, true), (18, true), (19, false), (20, true), (21, true), (22, true)] (by kernel_rfl) (by kernel_rfl) (by kernel_rfl) ?_
    have HG : Hid (Grow w ((w.alloc (.cells #[.int .u64 a, .int .u64 n] 25)).alloc (.cells #[.int .u64 b, .int .u64 m] 25)).drew) := ((Grow.of_alloc _ _).trans (Grow.of_alloc _ _)).trans (Grow.of_drew _)
    obtain ⟨a0, a1, b0, b1⟩ := two_boxed w (.int .u64 a) (.int .u64 n) (.int .u64 b) (.int .u64 m) 25
    generalize ((w.alloc (.cells #[.int .u64 a, .int .u64 n] 25)).alloc (.cells #[.int .u64 b, .int .u64 m] 25)).drew = w1 at HG a0 a1 b0 b1 ⊢
    repeat (first | (refine chain_take rfl (by rfl) ?_ (fun W hG => ?_) ?_; rotate_left; (go_simp; rfl); simp only [Act.put, List.setIfInBounds_toArray, List.set_cons_zero, List.set_cons_succ]) | (refine chain_skip rfl (by rfl) ?_; simp only [Act.put, List.setIfInBounds_toArray, List.set_cons_zero, List.set_cons_succ]))
    refine chain_none rfl (by rfl) ?_
    simp only [Act.put, List.setIfInBounds_toArray, List.set_cons_zero, List.set_cons_succ]
    repeat (first | (refine chain_take rfl (by rfl) ?_ (fun W hG => ?_) ?_; rotate_left; (go_simp; rfl); simp only [Act.put, List.setIfInBounds_toArray, List.set_cons_zero, List.set_cons_succ]) | (refine chain_skip rfl (by rfl) ?_; simp only [Act.put, List.setIfInBounds_toArray, List.set_cons_zero, List.set_cons_succ]))
    refine chain_none rfl (by rfl) ?_
    simp only [Act.put, List.setIfInBounds_toArray, List.set_cons_zero, List.set_cons_succ]
    repeat (first | (refine chain_take rfl (by rfl) ?_ (fun W hG => ?_) ?_; rotate_left; (go_simp; rfl); simp only [Act.put, List.setIfInBounds_toArray, List.set_cons_zero, List.set_cons_succ]) | (refine chain_skip rfl (by rfl) ?_; simp only [Act.put, List.setIfInBounds_toArray, List.set_cons_zero, List.set_cons_succ]))
    refine chain_done ?_
    go_wp2
    go_ret
    exact ⟨ret_bool E.out.symm, HG.out⟩
  by_cases pl : a ≤ lastN b m
  · have d0 : decide (0 < n) = true := decide_eq_true (by omega)
    have d1 : decide (0 < m) = true := decide_eq_true (by omega)
    have d2 : decide (a ≤ lastN b m) = true := decide_eq_true (by omega)
    have E := Lib.hid (show meetN a n b m = decide (b ≤ lastN a n) by simp [meetN, pn, pm, pl])
    go_enter Try.func6, Try.ntmps6
    go_wp2_with fail
    refine wp_region_chain [(0, true), (1, true), (2, true), (3, true), (4, true), (5, true), (6, true), (7, true), (8, true), (9, true), (10, true), (11, true), (12, false), (13, true), (14, true), (15, true), (16, true), (17, true), (18, true), (19, false), (20, true), (21, true), (22, true)] (by kernel_rfl) (by kernel_rfl) (by kernel_rfl) ?_
    have HG : Hid (Grow w ((w.alloc (.cells #[.int .u64 a, .int .u64 n] 25)).alloc (.cells #[.int .u64 b, .int .u64 m] 25)).drew) := ((Grow.of_alloc _ _).trans (Grow.of_alloc _ _)).trans (Grow.of_drew _)
    obtain ⟨a0, a1, b0, b1⟩ := two_boxed w (.int .u64 a) (.int .u64 n) (.int .u64 b) (.int .u64 m) 25
    generalize ((w.alloc (.cells #[.int .u64 a, .int .u64 n] 25)).alloc (.cells #[.int .u64 b, .int .u64 m] 25)).drew = w1 at HG a0 a1 b0 b1 ⊢
    repeat (first | (refine chain_take rfl (by rfl) ?_ (fun W hG => ?_) ?_; rotate_left; (go_simp; rfl); simp only [Act.put, List.setIfInBounds_toArray, List.set_cons_zero, List.set_cons_succ]) | (refine chain_skip rfl (by rfl) ?_; simp only [Act.put, List.setIfInBounds_toArray, List.set_cons_zero, List.set_cons_succ]))
    refine chain_only rfl (by rfl) (fun K hK => ?_)
    go_simp
    refine (last_any _ _ _ hb hm pm).mono ?_
    rintro e w2 ⟨rfl, hb'⟩
    refine hK _ _ hb' ?_
    clear hK K
    have HG1 : Hid (Grow w w2) := HG.out.trans hb'
    replace a0 : ∀ W, Grow w2 W → W.cell? ⟨w.heap.size, 0, none⟩ = some (.int .u64 a) := fun W h => a0 W (hb'.trans h)
    replace a1 : ∀ W, Grow w2 W → W.cell? ⟨w.heap.size, 1, none⟩ = some (.int .u64 n) := fun W h => a1 W (hb'.trans h)
    replace b0 : ∀ W, Grow w2 W → W.cell? ⟨w.heap.size + 1, 0, none⟩ = some (.int .u64 b) := fun W h => b0 W (hb'.trans h)
    replace b1 : ∀ W, Grow w2 W → W.cell? ⟨w.heap.size + 1, 1, none⟩ = some (.int .u64 m) := fun W h => b1 W (hb'.trans h)
    clear hb'
    repeat (first | (refine chain_take rfl (by rfl) ?_ (fun W hG => ?_) ?_; rotate_left; (go_simp; rfl); simp only [Act.put, List.setIfInBounds_toArray, List.set_cons_zero, List.set_cons_succ]) | (refine chain_skip rfl (by rfl) ?_; simp only [Act.put, List.setIfInBounds_toArray, List.set_cons_zero, List.set_cons_succ]))
    refine chain_only rfl (by rfl) (fun K hK => ?_)
    go_simp
    refine (last_any _ _ _ ha hn pn).mono ?_
    rintro e w3 ⟨rfl, hb'⟩
    refine hK _ _ hb' ?_
    clear hK K
    have HG2 : Hid (Grow w w3) := HG1.out.trans hb'
    replace a0 : ∀ W, Grow w3 W → W.cell? ⟨w.heap.size, 0, none⟩ = some (.int .u64 a) := fun W h => a0 W (hb'.trans h)
    replace a1 : ∀ W, Grow w3 W → W.cell? ⟨w.heap.size, 1, none⟩ = some (.int .u64 n) := fun W h => a1 W (hb'.trans h)
    replace b0 : ∀ W, Grow w3 W → W.cell? ⟨w.heap.size + 1, 0, none⟩ = some (.int .u64 b) := fun W h => b0 W (hb'.trans h)
    replace b1 : ∀ W, Grow w3 W → W.cell? ⟨w.heap.size + 1, 1, none⟩ = some (.int .u64 m) := fun W h => b1 W (hb'.trans h)
    clear hb'
    repeat (first | (refine chain_take rfl (by rfl) ?_ (fun W hG => ?_) ?_; rotate_left; (go_simp; rfl); simp only [Act.put, List.setIfInBounds_toArray, List.set_cons_zero, List.set_cons_succ]) | (refine chain_skip rfl (by rfl) ?_; simp only [Act.put, List.setIfInBounds_toArray, List.set_cons_zero, List.set_cons_succ]))
    refine chain_done ?_
    go_wp2
    go_ret
    exact ⟨ret_bool E.out.symm, HG2.out⟩
  · have d0 : decide (0 < n) = true := decide_eq_true (by omega)
    have d1 : decide (0 < m) = true := decide_eq_true (by omega)
    have d2 : decide (a ≤ lastN b m) = false := decide_eq_false (by omega)
    have E := Lib.hid (show meetN a n b m = false by simp [meetN, pl])
    go_enter Try.func6, Try.ntmps6
    go_wp2_with fail
    refine wp_region_chain [(0, true), (1, true), (2, true), (3, true), (4, true), (5, true), (6, true), (7, true), (8, true), (9, true), (10, true), (11, true), (12, false), (13, true), (14, true), (15, true), (16, true), (17, true), (18, true), (19, false), (20, true), (21, true), (22, true)] (by kernel_rfl) (by kernel_rfl) (by kernel_rfl) ?_
    have HG : Hid (Grow w ((w.alloc (.cells #[.int .u64 a, .int .u64 n] 25)).alloc (.cells #[.int .u64 b, .int .u64 m] 25)).drew) := ((Grow.of_alloc _ _).trans (Grow.of_alloc _ _)).trans (Grow.of_drew _)
    obtain ⟨a0, a1, b0, b1⟩ := two_boxed w (.int .u64 a) (.int .u64 n) (.int .u64 b) (.int .u64 m) 25
    generalize ((w.alloc (.cells #[.int .u64 a, .int .u64 n] 25)).alloc (.cells #[.int .u64 b, .int .u64 m] 25)).drew = w1 at HG a0 a1 b0 b1 ⊢
    repeat (first | (refine chain_take rfl (by rfl) ?_ (fun W hG => ?_) ?_; rotate_left; (go_simp; rfl); simp only [Act.put, List.setIfInBounds_toArray, List.set_cons_zero, List.set_cons_succ]) | (refine chain_skip rfl (by rfl) ?_; simp only [Act.put, List.setIfInBounds_toArray, List.set_cons_zero, List.set_cons_succ]))
    refine chain_only rfl (by rfl) (fun K hK => ?_)
    go_simp
    refine (last_any _ _ _ hb hm pm).mono ?_
    rintro e w2 ⟨rfl, hb'⟩
    refine hK _ _ hb' ?_
    clear hK K
    have HG1 : Hid (Grow w w2) := HG.out.trans hb'
    replace a0 : ∀ W, Grow w2 W → W.cell? ⟨w.heap.size, 0, none⟩ = some (.int .u64 a) := fun W h => a0 W (hb'.trans h)
    replace a1 : ∀ W, Grow w2 W → W.cell? ⟨w.heap.size, 1, none⟩ = some (.int .u64 n) := fun W h => a1 W (hb'.trans h)
    replace b0 : ∀ W, Grow w2 W → W.cell? ⟨w.heap.size + 1, 0, none⟩ = some (.int .u64 b) := fun W h => b0 W (hb'.trans h)
    replace b1 : ∀ W, Grow w2 W → W.cell? ⟨w.heap.size + 1, 1, none⟩ = some (.int .u64 m) := fun W h => b1 W (hb'.trans h)
    clear hb'
    repeat (first | (refine chain_take rfl (by rfl) ?_ (fun W hG => ?_) ?_; rotate_left; (go_simp; rfl); simp only [Act.put, List.setIfInBounds_toArray, List.set_cons_zero, List.set_cons_succ]) | (refine chain_skip rfl (by rfl) ?_; simp only [Act.put, List.setIfInBounds_toArray, List.set_cons_zero, List.set_cons_succ]))
    refine chain_none rfl (by rfl) ?_
    simp only [Act.put, List.setIfInBounds_toArray, List.set_cons_zero, List.set_cons_succ]
    repeat (first | (refine chain_take rfl (by rfl) ?_ (fun W hG => ?_) ?_; rotate_left; (go_simp; rfl); simp only [Act.put, List.setIfInBounds_toArray, List.set_cons_zero, List.set_cons_succ]) | (refine chain_skip rfl (by rfl) ?_; simp only [Act.put, List.setIfInBounds_toArray, List.set_cons_zero, List.set_cons_succ]))
    refine chain_done ?_
    go_wp2
    go_ret
    exact ⟨ret_bool E.out.symm, HG1.out⟩
end Go.Proofs.Ythhchaoeapnnoaa
