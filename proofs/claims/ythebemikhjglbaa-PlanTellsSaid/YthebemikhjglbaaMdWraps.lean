/-
  The contract of model.wraps: whether a segment goes on beyond the last address.
-/
import Derived.Test.YthebemikhjglbaaMdA
namespace Go.Proofs.Ythebemikhjglbaa
open Go.RowKit

theorem sgC_cells (s : Sg) (S : Value) : ∃ x0 x1 x3 x5 x6 x7 x8 : Value, sgC s S = #[x0, x1, .int .u64 (s.vaddr : Nat), x3, .int .u64 (s.memsz : Nat), x5, x6, x7, x8, S] := ⟨_, _, _, _, _, _, _, rfl⟩

set_option maxHeartbeats 400000 in
theorem mWraps_any (s : Sg) (ok : s.Ok) (S : Value) (wide big : Bool) (w : World) : Calls Try.prog 54 #[.agg (sgC s S), .agg #[.bool wide, .bool big]] w fun e w' => e = .returned (.bool (s.wraps wide)) ∧ Grow w w' := by
  have hv := ok.vaddr
  have hz := ok.memsz
  have HL := Lib.hid (fun w => mLast_any wide big w)
  have hl : lastA wide ≤ 18446744073709551615 := by cases wide <;> decide
  obtain ⟨x0, x1, x3, x5, x6, x7, x8, hC⟩ := sgC_cells s S
  rw [hC]
  have E : Hid (s.wraps wide = (decide (0 < s.memsz) && !decide (s.vaddr + (s.memsz - 1) ≤ lastA wide))) := Lib.hid rfl
  clear hC ok
  generalize s.wraps wide = R at E ⊢
  generalize lastA wide = la at HL E hl
  generalize s.vaddr = v at E hv ⊢
  generalize s.memsz = z at E hz ⊢
  go_enter Try.func54, Try.ntmps54
  go_wp2_with fail
  refine wp_region_chain [(0, true), (1, true), (2, true), (3, true), (4, true), (5, true), (6, true), (7, true), (8, true), (9, true), (10, false), (11, false), (12, true), (13, true), (14, true)] (by kernel_rfl) (by kernel_rfl) (by kernel_rfl) ?_
  generalize hW : World.alloc _ _ = W0
  obtain ⟨b1, b2, hg0⟩ := blk2 hW
  clear hW
  have HG0 := Lib.hid hg0
  have q2 : ∀ W, Grow W0.drew W → W.cell? ⟨w.heap.size, 2, none⟩ = some (.int .u64 (v : Nat)) := fun W hW => (b1.grow ((Grow.of_drew _).trans hW)).at 2
  have q4 : ∀ W, Grow W0.drew W → W.cell? ⟨w.heap.size, 4, none⟩ = some (.int .u64 (z : Nat)) := fun W hW => (b1.grow ((Grow.of_drew _).trans hW)).at 4
  have r0 : ∀ W, Grow W0.drew W → W.cell? ⟨w.heap.size + 1, 0, none⟩ = some (.bool wide) := fun W hW => (b2.grow ((Grow.of_drew _).trans hW)).at 0
  have r1 : ∀ W, Grow W0.drew W → W.cell? ⟨w.heap.size + 1, 1, none⟩ = some (.bool big) := fun W hW => (b2.grow ((Grow.of_drew _).trans hW)).at 1
  have HD : Hid (Grow w W0.drew) := HG0.out.trans (Grow.of_drew _)
  clear b1 b2 hg0 HG0
  generalize W0.drew = w2 at HD q2 q4 r0 r1 ⊢
  by_cases h0 : 0 < z
  · have e2 : decide (0 < z) = true := decide_eq_true h0
    have z1 : IntKind.u64.wrap ((z : Int) - 1) = (z : Int) - 1 := by rw [IntKind.wrap_u64]; omega
    have E2 := Lib.hid (show R = !wthn (v : Int) ((z : Int) - 1) (la : Int) by
      rw [E.out, e2, Bool.true_and]
      congr 1
      unfold wthn
      rw [Bool.eq_iff_iff, decide_eq_true_iff, decide_eq_true_iff]
      omega)
    have k1 : (0 : Int) ≤ (z : Int) - 1 := by omega
    have K1 := Lib.hid k1
    clear k1 h0
    repeat (first | (refine chain_take rfl (by rfl) ?_ (fun W hG => ?_) ?_; rotate_left; (go_simp; rfl); simp only [Act.put, List.setIfInBounds_toArray, List.set_cons_zero, List.set_cons_succ]) | (refine chain_skip rfl (by rfl) ?_; simp only [Act.put, List.setIfInBounds_toArray, List.set_cons_zero, List.set_cons_succ]))
    refine chain_only rfl (by rfl) (fun K hK => ?_)
    go_simp
    refine (HL.out _).mono ?_
    rintro e w3 ⟨rfl, hg3⟩
    refine hK _ _ hg3 ?_
    have HF : Hid (Grow w w3) := HD.out.trans hg3
    clear hK K hg3 q2 q4 r0 r1
    refine chain_only rfl (by rfl) (fun K hK => ?_)
    go_simp
    refine (within_any _ _ _ _ (by omega) K1.out (by omega)).mono ?_
    rintro e w4 ⟨rfl, rfl⟩
    refine hK _ _ (Grow.refl _) ?_
    clear hK K
    generalize wthn (v : Int) ((z : Int) - 1) (la : Int) = V at E2 ⊢
    repeat (first | (refine chain_take rfl (by rfl) ?_ (fun W hG => ?_) ?_; rotate_left; (go_simp; rfl); simp only [Act.put, List.setIfInBounds_toArray, List.set_cons_zero, List.set_cons_succ]) | (refine chain_skip rfl (by rfl) ?_; simp only [Act.put, List.setIfInBounds_toArray, List.set_cons_zero, List.set_cons_succ]))
    refine chain_done ?_
    go_wp2
    go_ret
    exact ⟨ret_bool (by rw [E2.out]), HF.out⟩
  · have e2 : decide (0 < z) = false := decide_eq_false h0
    have E2 := Lib.hid (show R = false by rw [E.out, e2]; rfl)
    clear h0
    repeat (first | (refine chain_take rfl (by rfl) ?_ (fun W hG => ?_) ?_; rotate_left; (go_simp; rfl); simp only [Act.put, List.setIfInBounds_toArray, List.set_cons_zero, List.set_cons_succ]) | (refine chain_skip rfl (by rfl) ?_; simp only [Act.put, List.setIfInBounds_toArray, List.set_cons_zero, List.set_cons_succ]))
    refine chain_none rfl (by rfl) ?_
    simp only [Act.put, List.setIfInBounds_toArray, List.set_cons_zero, List.set_cons_succ]
    refine chain_none rfl (by rfl) ?_
    simp only [Act.put, List.setIfInBounds_toArray, List.set_cons_zero, List.set_cons_succ]
    repeat (first | (refine chain_take rfl (by rfl) ?_ (fun W hG => ?_) ?_; rotate_left; (go_simp; rfl); simp only [Act.put, List.setIfInBounds_toArray, List.set_cons_zero, List.set_cons_succ]) | (refine chain_skip rfl (by rfl) ?_; simp only [Act.put, List.setIfInBounds_toArray, List.set_cons_zero, List.set_cons_succ]))
    refine chain_done ?_
    go_wp2
    go_ret
    exact ⟨ret_bool E2.out.symm, HD.out⟩
end Go.Proofs.Ythebemikhjglbaa
