/-
  The contract of the head of layer 1's statements: the document's example holds.
-/
import Derived.Test.YtoaifjkjgmngiaaWirePut
import Derived.Test.YtoaifjkjgmngiaaConv
namespace Go.Proofs.Ytoaifjkjgmngiaa
open Go.RowKit Go.Deep

theorem RB.lit2 (w : World) (t : TypeId) : RB (w.alloc (.cells #[.int .u8 1, .int .u8 2] t)) (w.heap.size + 1) (some ⟨w.heap.size, 0, none⟩) 2 2 [1, 2] :=
  ⟨rfl, Nat.le_refl _, by unfold maxLen; omega, fun _ => ⟨w.heap.size, 0, rfl, by omega, fun j hj => by
    match j, hj with
    | 0, _ => simp
    | 1, _ => simp⟩⟩
theorem RB.lit4 (w : World) (t : TypeId) : RB (w.alloc (.cells #[.int .u8 0, .int .u8 0, .int .u8 1, .int .u8 2] t)) (w.heap.size + 1) (some ⟨w.heap.size, 0, none⟩) 4 4 [0, 0, 1, 2] :=
  ⟨rfl, Nat.le_refl _, by unfold maxLen; omega, fun _ => ⟨w.heap.size, 0, rfl, by omega, fun j hj => by
    match j, hj with
    | 0, _ => simp
    | 1, _ => simp
    | 2, _ => simp
    | 3, _ => simp⟩⟩

set_option maxHeartbeats 400000 in
theorem up1_any (w : World) : Calls Try.prog 5 #[] w fun e w' => e = .returned (.bool true) ∧ Below w.heap.size w w' := by
  go_enter Try.func5, Try.ntmps5
  go_wp2_with fail
  refine (get_any _ _ _ [1, 2] _ 0 2 false _ (RB.lit2 w _) (by omega)).mono ?_
  rintro e w1 ⟨rfl, m, hw1⟩
  have HB : Hid (Grow w w1) := by
    rw [hw1]; exact (Grow.of_alloc _ _).trans (Grow.of_drewN _ _)
  clear hw1
  rw [show gotV [1, 2] 0 2 false = 513 by decide +kernel, show gotB [1, 2] 0 2 = true by decide +kernel]
  go_wp2_with fail
  refine wp_region_fork [] 0 [(1, true), (2, false), (3, true), (4, true), (5, true), (6, true), (7, true), (8, true), (9, true), (10, true), (11, true), (12, true), (13, false), (14, true), (15, true), (16, false), (17, true), (18, true), (19, true), (20, false), (21, true), (22, true)] 2 [(3, true), (0, false), (1, true), (4, true), (5, true), (6, true), (7, true), (8, true), (9, true), (10, true), (11, true), (12, true), (13, false), (14, true), (15, true), (16, false), (17, true), (18, true), (19, true), (20, false), (21, true), (22, true)] (by kernel_rfl) (by kernel_rfl) (by kernel_rfl) (chain_done ?_)
  have HD : Hid (Grow w w1.drew) := HB.out.trans (Grow.of_drew _)
  generalize w1.drew = w2 at HD ⊢
  clear HB
  have hp : putL 258 4 true = [0, 0, 1, 2] := by decide +kernel
  have hf1 : fits 255 1 = true := by decide +kernel
  have hf2 : fits 256 1 = false := by decide +kernel
  have hwt : wthn 3 2 5 = true := by decide +kernel
  refine ⟨step_op rfl (by rfl) (fun K hK => ?_), step_op rfl (by rfl) (fun K hK => ?_)⟩
  · go_simp
    refine (put_any 258 4 true _ (by omega)).mono ?_
    rintro e w3 ⟨A, c, rfl, hown, hb⟩
    refine hK _ _ hb ?_
    clear hK K
    rw [hp] at hown ⊢
    rw [show ([0, 0, 1, 2] : List UInt8).length = 4 from rfl] at hown ⊢
    have hs := (RB.of_own hown).conv (Nat.le_refl _)
    have HE : Hid (Grow w w3) := HD.out.trans hb
    clear hown hb
    repeat (refine chain_take rfl (by rfl) ?_ (fun W hG => ?_) ?_; rotate_left; (go_simp; rfl); simp only [Act.put, List.setIfInBounds_toArray, List.set_cons_zero, List.set_cons_succ])
    clear hs
    refine chain_only rfl (by rfl) (fun K hK => ?_)
    go_simp
    refine hK _ _ (Grow.of_alloc _ _) ?_
    have hs := (RB.lit4 w3 5).conv (by simp)
    have HF : Hid (Grow w (w3.alloc (.cells #[.int .u8 0, .int .u8 0, .int .u8 1, .int .u8 2] 5))) := HE.out.trans (Grow.of_alloc _ _)
    generalize w3.alloc (.cells #[.int .u8 0, .int .u8 0, .int .u8 1, .int .u8 2] 5) = w4 at hs HF ⊢
    clear hK K HE
    repeat (refine chain_take rfl (by rfl) ?_ (fun W hG => ?_) ?_; rotate_left; (go_simp; rfl); simp only [Act.put, List.setIfInBounds_toArray, List.set_cons_zero, List.set_cons_succ])
    clear hs
    refine chain_only rfl (by rfl) (fun K hK => ?_)
    go_simp
    refine (fits_any 255 1 _ (by omega) (by omega)).mono ?_
    rintro e w5 ⟨rfl, rfl⟩
    refine hK _ _ (Grow.refl _) ?_
    clear hK K
    rw [hf1]
    repeat (refine chain_take rfl (by rfl) ?_ (fun W hG => ?_) ?_; rotate_left; (go_simp; rfl); simp only [Act.put, List.setIfInBounds_toArray, List.set_cons_zero, List.set_cons_succ])
    refine chain_only rfl (by rfl) (fun K hK => ?_)
    go_simp
    refine (fits_any 256 1 _ (by omega) (by omega)).mono ?_
    rintro e w5 ⟨rfl, rfl⟩
    refine hK _ _ (Grow.refl _) ?_
    clear hK K
    rw [hf2]
    repeat (refine chain_take rfl (by rfl) ?_ (fun W hG => ?_) ?_; rotate_left; (go_simp; rfl); simp only [Act.put, List.setIfInBounds_toArray, List.set_cons_zero, List.set_cons_succ])
    refine chain_only rfl (by rfl) (fun K hK => ?_)
    go_simp
    refine (within_any 3 2 5 _ (by omega) (by omega) (by omega)).mono ?_
    rintro e w5 ⟨rfl, rfl⟩
    refine hK _ _ (Grow.refl _) ?_
    clear hK K
    rw [hwt]
    repeat (refine chain_take rfl (by rfl) ?_ (fun W hG => ?_) ?_; rotate_left; (go_simp; rfl); simp only [Act.put, List.setIfInBounds_toArray, List.set_cons_zero, List.set_cons_succ])
    refine chain_done ?_
    go_wp2
    go_ret
    exact ⟨rfl, HF.out⟩
  · go_simp
    refine hK _ _ (Grow.of_alloc _ _) ?_
    have hs := (RB.lit4 w2 5).conv (by simp)
    have HE : Hid (Grow w (w2.alloc (.cells #[.int .u8 0, .int .u8 0, .int .u8 1, .int .u8 2] 5))) := HD.out.trans (Grow.of_alloc _ _)
    generalize w2.alloc (.cells #[.int .u8 0, .int .u8 0, .int .u8 1, .int .u8 2] 5) = w3 at hs HE ⊢
    clear hK K HD
    repeat (refine chain_take rfl (by rfl) ?_ (fun W hG => ?_) ?_; rotate_left; (go_simp; rfl); simp only [Act.put, List.setIfInBounds_toArray, List.set_cons_zero, List.set_cons_succ])
    clear hs
    refine chain_only rfl (by rfl) (fun K hK => ?_)
    go_simp
    refine (put_any 258 4 true _ (by omega)).mono ?_
    rintro e w4 ⟨A, c, rfl, hown, hb⟩
    refine hK _ _ hb ?_
    clear hK K
    rw [hp] at hown ⊢
    rw [show ([0, 0, 1, 2] : List UInt8).length = 4 from rfl] at hown ⊢
    have hs := (RB.of_own hown).conv (Nat.le_refl _)
    have HF : Hid (Grow w w4) := HE.out.trans hb
    clear hown hb
    repeat (refine chain_take rfl (by rfl) ?_ (fun W hG => ?_) ?_; rotate_left; (go_simp; rfl); simp only [Act.put, List.setIfInBounds_toArray, List.set_cons_zero, List.set_cons_succ])
    clear hs
    refine chain_only rfl (by rfl) (fun K hK => ?_)
    go_simp
    refine (fits_any 255 1 _ (by omega) (by omega)).mono ?_
    rintro e w5 ⟨rfl, rfl⟩
    refine hK _ _ (Grow.refl _) ?_
    clear hK K
    rw [hf1]
    repeat (refine chain_take rfl (by rfl) ?_ (fun W hG => ?_) ?_; rotate_left; (go_simp; rfl); simp only [Act.put, List.setIfInBounds_toArray, List.set_cons_zero, List.set_cons_succ])
    refine chain_only rfl (by rfl) (fun K hK => ?_)
    go_simp
    refine (fits_any 256 1 _ (by omega) (by omega)).mono ?_
    rintro e w5 ⟨rfl, rfl⟩
    refine hK _ _ (Grow.refl _) ?_
    clear hK K
    rw [hf2]
    repeat (refine chain_take rfl (by rfl) ?_ (fun W hG => ?_) ?_; rotate_left; (go_simp; rfl); simp only [Act.put, List.setIfInBounds_toArray, List.set_cons_zero, List.set_cons_succ])
    refine chain_only rfl (by rfl) (fun K hK => ?_)
    go_simp
    refine (within_any 3 2 5 _ (by omega) (by omega) (by omega)).mono ?_
    rintro e w5 ⟨rfl, rfl⟩
    refine hK _ _ (Grow.refl _) ?_
    clear hK K
    rw [hwt]
    repeat (refine chain_take rfl (by rfl) ?_ (fun W hG => ?_) ?_; rotate_left; (go_simp; rfl); simp only [Act.put, List.setIfInBounds_toArray, List.set_cons_zero, List.set_cons_succ])
    refine chain_done ?_
    go_wp2
    go_ret
    exact ⟨rfl, HF.out⟩
end Go.Proofs.Ytoaifjkjgmngiaa
