/-
  The contracts of ver.isWell, spot, mayBe, next; and of the document's own step and place.
-/
import Derived.Test.YtfnaigeakfgpbaaVeGet
import Derived.Test.YtfnaigeakfgpbaaBlk
import Derived.Test.YtfnaigeakfgpbaaTree
import Derived.Test.YtfnaigeakfgpbaaErr
namespace Go.Proofs.Ytfnaigeakfgpbaa
open Go.RowKit

theorem Blk.c3 {w : World} {g : Nat} {t : TypeId} {a b c : Value} (h : Blk w g t #[a, b, c]) : w.cell? ⟨g, 0, none⟩ = some a ∧ w.cell? ⟨g, 1, none⟩ = some b ∧ w.cell? ⟨g, 2, none⟩ = some c := ⟨h.at 0, h.at 1, h.at 2⟩

theorem mayBe_any (n : Nat) (w : World) : Calls Try.prog 20 #[.int .i64 n] w fun e w' => e = .returned (.bool (decide (1 ≤ n) && decide (n ≤ 65535))) ∧ w = w' := by
  by_cases h1 : 1 ≤ n
  · have e1 : decide ((1 : Int) ≤ (n : Int)) = true := decide_eq_true (by omega)
    have e3 : decide (1 ≤ n) = true := decide_eq_true h1
    by_cases h2 : n ≤ 65535
    · have e2 : decide ((n : Int) ≤ 65535) = true := decide_eq_true (by omega)
      have e4 : decide (n ≤ 65535) = true := decide_eq_true h2
      rw [e3, e4]
      go_enter Try.func20, Try.ntmps20
      go_wp2
      go_ret
      exact ⟨rfl, rfl⟩
    · have e2 : decide ((n : Int) ≤ 65535) = false := decide_eq_false (by omega)
      have e4 : decide (n ≤ 65535) = false := decide_eq_false h2
      rw [e3, e4]
      go_enter Try.func20, Try.ntmps20
      go_wp2
      go_ret
      exact ⟨rfl, rfl⟩
  · have e1 : decide ((1 : Int) ≤ (n : Int)) = false := decide_eq_false (by omega)
    have e3 : decide (1 ≤ n) = false := decide_eq_false h1
    rw [e3]
    go_enter Try.func20, Try.ntmps20
    go_wp2
    go_ret
    exact ⟨rfl, rfl⟩

theorem nextOf_any (i n off : Nat) (w : World) (hi : i < n) (hn : n ≤ 100000000) (ho : off ≤ 100000000) : Calls Try.prog 22 #[.int .i64 i, .int .i64 n, .int .i64 off] w fun e w' => e = .returned (.int .u64 (nx i n off : Nat)) ∧ w = w' := by
  have z1 : IntKind.i64.wrap ((n : Int) - 1) = ((n - 1 : Nat) : Int) := by rw [IntKind.wrap_i64]; omega
  have z2 : IntKind.u64.wrap (off : Int) = (off : Int) := by rw [IntKind.wrap_u64]; omega
  by_cases h : i + 1 = n
  · have e0 : nx i n off = 0 := by unfold nx; rw [if_pos h]
    rw [e0]
    have e1 : ((i : Int) == ((n - 1 : Nat) : Int)) = true := by simp; omega
    go_enter Try.func22, Try.ntmps22
    go_wp2
    go_ret
    exact ⟨rfl, rfl⟩
  · have e0 : nx i n off = off := by unfold nx; rw [if_neg h]
    rw [e0]
    have e1 : ((i : Int) == ((n - 1 : Nat) : Int)) = false := by simp; omega
    go_enter Try.func22, Try.ntmps22
    go_wp2
    go_ret
    exact ⟨rfl, rfl⟩

theorem step_any (i n off : Nat) (w : World) (hi : i < n) (hn : n ≤ 100000000) (ho : off ≤ 100000000) : Calls Try.prog 24 #[.int .i64 i, .int .i64 n, .int .i64 off] w fun e w' => e = .returned (.int .u64 (nx i n off : Nat)) ∧ w = w' := by
  have z1 : IntKind.i64.wrap ((i : Int) + 1) = ((i + 1 : Nat) : Int) := by rw [IntKind.wrap_i64]; omega
  have z2 : IntKind.u64.wrap (off : Int) = (off : Int) := by rw [IntKind.wrap_u64]; omega
  by_cases h : i + 1 = n
  · have e0 : nx i n off = 0 := by unfold nx; rw [if_pos h]
    rw [e0]
    have e1 : (((i + 1 : Nat) : Int) == (n : Int)) = true := by simp; omega
    have e2 : ((i : Int) + 1 == (n : Int)) = true := by simp; omega
    go_enter Try.func24, Try.ntmps24
    go_wp2
    go_ret
    exact ⟨rfl, rfl⟩
  · have e0 : nx i n off = off := by unfold nx; rw [if_neg h]
    rw [e0]
    have e1 : (((i + 1 : Nat) : Int) == (n : Int)) = false := by simp; omega
    have e2 : ((i : Int) + 1 == (n : Int)) = false := by simp; omega
    go_enter Try.func24, Try.ntmps24
    go_wp2
    go_ret
    exact ⟨rfl, rfl⟩

theorem vspot_any (A : Option Addr) (n cc : Nat) (a c : Nat) (big : Bool) (w : World) (hn : n ≤ maxLen) (ha : a < 18446744073709551616) (hc : 0 < c) :
    Calls Try.prog 35 #[.agg #[.slice A n cc, .bool big], .int .u64 a, .int .i64 c] w fun e w' => ∃ v, e = .returned v ∧ Err w' v c (min a n) ∧ Grow w w' := by
  unfold maxLen at hn
  have z1 : IntKind.u64.wrap (n : Int) = (n : Int) := by rw [IntKind.wrap_u64]; omega
  have z2 : IntKind.i64.wrap (n : Int) = (n : Int) := by rw [IntKind.wrap_i64]; omega
  by_cases h : a ≤ n
  · rw [Nat.min_eq_left h]
    have z3 : IntKind.i64.wrap (a : Int) = (a : Int) := by rw [IntKind.wrap_i64]; omega
    have h1 : ¬ ((n : Int) < (a : Int)) := by omega
    have h2 : ((a : Int) ≤ (n : Int)) := by omega
    have h3 : min (a : Int) (n : Int) = (a : Int) := by omega
    have h4 : ¬ (n < a) := by omega
    go_enter Try.func35, Try.ntmps35
    go_wp2
    go_ret
    exact ⟨_, rfl, by have := Err.box (w.alloc (.cells #[.slice A n cc, .bool big] 70)) c a 81 hc; simpa using this, (Grow.of_alloc _ _).trans (Grow.of_alloc _ _)⟩
  · rw [Nat.min_eq_right (by omega)]
    have h1 : ((n : Int) < (a : Int)) := by omega
    have h2 : ¬ ((a : Int) ≤ (n : Int)) := by omega
    have h3 : min (a : Int) (n : Int) = (n : Int) := by omega
    have h4 : n < a := by omega
    go_enter Try.func35, Try.ntmps35
    go_wp2
    go_ret
    exact ⟨_, rfl, by have := Err.box (w.alloc (.cells #[.slice A n cc, .bool big] 70)) c n 81 hc; simpa using this, (Grow.of_alloc _ _).trans (Grow.of_alloc _ _)⟩

theorem place_any (A : Option Addr) (n cc : Nat) (a : Nat) (w : World) (hn : n ≤ maxLen) (ha : a < 18446744073709551616) :
    Calls Try.prog 28 #[.slice A n cc, .int .u64 a] w fun e w' => e = .returned (.int .i64 (min a n : Nat)) ∧ w = w' := by
  unfold maxLen at hn
  have z1 : IntKind.u64.wrap (n : Int) = (n : Int) := by rw [IntKind.wrap_u64]; omega
  have z2 : IntKind.i64.wrap (n : Int) = (n : Int) := by rw [IntKind.wrap_i64]; omega
  by_cases h : a ≤ n
  · rw [Nat.min_eq_left h]
    have z3 : IntKind.i64.wrap (a : Int) = (a : Int) := by rw [IntKind.wrap_i64]; omega
    have h1 : ¬ ((n : Int) < (a : Int)) := by omega
    have h2 : ((a : Int) ≤ (n : Int)) := by omega
    have h3 : min (a : Int) (n : Int) = (a : Int) := by omega
    have h4 : ¬ (n < a) := by omega
    go_enter Try.func28, Try.ntmps28
    go_wp2
    go_ret
    exact ⟨rfl, rfl⟩
  · rw [Nat.min_eq_right (by omega)]
    have h1 : ((n : Int) < (a : Int)) := by omega
    have h2 : ¬ ((a : Int) ≤ (n : Int)) := by omega
    have h3 : min (a : Int) (n : Int) = (n : Int) := by omega
    have h4 : n < a := by omega
    go_enter Try.func28, Try.ntmps28
    go_wp2
    go_ret
    exact ⟨rfl, rfl⟩

set_option maxHeartbeats 1000000 in
theorem vwell_any (K : VK) (A : Option Addr) (n c : Nat) (l : List UInt8) (a : Nat) (big : Bool) (w : World) (h : RB w w.heap.size A n c l) (hK : K.Is) (hq : a + K.S ≤ n) :
    Calls Try.prog 36 #[.agg #[.slice A n c, .bool big], .int .u64 a, shV K] w fun e w' => e = .returned (.bool (vWell K (vG l big) a)) ∧ Grow w w' := by
  obtain ⟨-, -, hS, -, hcp, -, -⟩ := K_small hK
  have HR := Lib.hid h
  unfold vWell
  have HG1 := Lib.hid fun w' (hg : Grow w w') => vget_any A n c l a 2 big w' ((h.belowAt hg (Nat.le_refl _)).more hg.size) (by omega) (.inl rfl)
  have HG2 := Lib.hid fun w' (hg : Grow w w') => vcount_any A n c l a K.S K.z K.cp big w' ((h.belowAt hg (Nat.le_refl _)).more hg.size) (by omega)
  have HG3 := Lib.hid fun w' (hg : Grow w w') => vfirst_any A n c l a K.S K.z K.cp big w' ((h.belowAt hg (Nat.le_refl _)).more hg.size) (by omega) hq
  unfold shV
  generalize vG l big a 2 = v1 at HG1 ⊢
  generalize vG l big (a + K.cp) 2 = v2 at HG2 ⊢
  generalize vG l big (a + (K.S - 8)) 4 = v3 at HG3 ⊢
  generalize K.S = S at *
  generalize K.cp = cp at *
  generalize K.z = z at *
  clear hS hcp hK h HR hq
  obtain ⟨b1, hb1⟩ : ∃ b, decide (v1 = 1) = b := ⟨_, rfl⟩
  obtain ⟨b2, hb2⟩ : ∃ b, decide (v2 ≠ 0) = b := ⟨_, rfl⟩
  have y1 : ((v1 : Int) == 1) = b1 := by rw [← hb1, Bool.eq_iff_iff]; simp; omega
  have y2 : ((v2 : Int) != 0) = b2 := by rw [← hb2, Bool.eq_iff_iff]; simp
  rw [hb1, hb2]
  clear hb1 hb2
  go_enter Try.func36, Try.ntmps36
  go_wp2_with fail
  generalize hW : World.alloc _ _ = W0
  obtain ⟨bf, b4, hg0⟩ := blk2 hW
  clear hW
  refine wp_region_chain [(0, true), (1, true), (2, false), (3, true), (4, true), (5, true), (6, true), (7, true), (8, false), (9, true), (10, true), (11, true), (12, true), (13, true), (14, true), (16, true), (17, true), (15, false), (18, true), (19, true), (20, true)] (by kernel_rfl) (by kernel_rfl) (by kernel_rfl) ?_
  have HX : Hid (∀ W, Grow W0.drew W → (_ ∧ _) ∧ (_ ∧ _ ∧ _)) := fun W hW => ⟨((bf.drew).grow hW).c2, ((b4.drew).grow hW).c3⟩
  have HW : Hid (Grow w W0.drew) := hg0.trans (Grow.of_drew _)
  generalize W0.drew = w1 at HX HW ⊢
  clear bf b4 hg0
  repeat (refine chain_take rfl (by rfl) ?_ (fun W hG => ?_) ?_; rotate_left; (obtain ⟨⟨q1, q2⟩, q3, q4, q5⟩ := HX.out W hG; go_simp; rfl); simp only [Act.put, List.setIfInBounds_toArray, List.set_cons_zero, List.set_cons_succ])
  refine chain_only rfl (by rfl) (fun K hK => ?_)
  go_simp
  refine (HG1.out _ HW.out).mono ?_
  rintro e w2 ⟨rfl, hg2⟩
  refine hK _ _ hg2 ?_
  clear hK K
  have HX2 : Hid (∀ W, Grow w2 W → (_ ∧ _) ∧ (_ ∧ _ ∧ _)) := fun W hW => HX.out W (hg2.trans hW)
  have HW2 : Hid (Grow w w2) := HW.out.trans hg2
  clear hg2 HX HW
  cases b1
  · repeat (first | (refine chain_take rfl (by rfl) ?_ (fun W hG => ?_) ?_; rotate_left; (obtain ⟨⟨q1, q2⟩, q3, q4, q5⟩ := HX2.out W hG; go_simp; rfl); simp only [Act.put, List.setIfInBounds_toArray, List.set_cons_zero, List.set_cons_succ]) | (refine chain_skip rfl (by rfl) ?_; simp only [Act.put, List.setIfInBounds_toArray, List.set_cons_zero, List.set_cons_succ]) | (refine chain_none rfl (by rfl) ?_; simp only [Act.put, List.setIfInBounds_toArray, List.set_cons_zero, List.set_cons_succ]))
    refine chain_done ?_
    go_wp2
    go_ret
    exact ⟨rfl, HW2.out⟩
  · repeat (refine chain_take rfl (by rfl) ?_ (fun W hG => ?_) ?_; rotate_left; (obtain ⟨⟨q1, q2⟩, q3, q4, q5⟩ := HX2.out W hG; go_simp; rfl); simp only [Act.put, List.setIfInBounds_toArray, List.set_cons_zero, List.set_cons_succ])
    refine chain_only rfl (by rfl) (fun K hK => ?_)
    go_simp
    refine (HG2.out _ HW2.out).mono ?_
    rintro e w3 ⟨rfl, hg3⟩
    refine hK _ _ hg3 ?_
    clear hK K
    have HX3 : Hid (∀ W, Grow w3 W → (_ ∧ _) ∧ (_ ∧ _ ∧ _)) := fun W hW => HX2.out W (hg3.trans hW)
    have HW3 : Hid (Grow w w3) := HW2.out.trans hg3
    clear hg3 HX2 HW2
    cases b2
    · repeat (first | (refine chain_take rfl (by rfl) ?_ (fun W hG => ?_) ?_; rotate_left; (obtain ⟨⟨q1, q2⟩, q3, q4, q5⟩ := HX3.out W hG; go_simp; rfl); simp only [Act.put, List.setIfInBounds_toArray, List.set_cons_zero, List.set_cons_succ]) | (refine chain_skip rfl (by rfl) ?_; simp only [Act.put, List.setIfInBounds_toArray, List.set_cons_zero, List.set_cons_succ]) | (refine chain_none rfl (by rfl) ?_; simp only [Act.put, List.setIfInBounds_toArray, List.set_cons_zero, List.set_cons_succ]))
      refine chain_done ?_
      go_wp2
      go_ret
      exact ⟨rfl, HW3.out⟩
    · repeat (refine chain_take rfl (by rfl) ?_ (fun W hG => ?_) ?_; rotate_left; (obtain ⟨⟨q1, q2⟩, q3, q4, q5⟩ := HX3.out W hG; go_simp; rfl); simp only [Act.put, List.setIfInBounds_toArray, List.set_cons_zero, List.set_cons_succ])
      refine chain_only rfl (by rfl) (fun K hK => ?_)
      go_simp
      refine (HG3.out _ HW3.out).mono ?_
      rintro e w4 ⟨rfl, hg4⟩
      refine hK _ _ hg4 ?_
      clear hK K
      have HW4 : Hid (Grow w w4) := HW3.out.trans hg4
      clear hg4 HX3 HW3
      repeat (refine chain_take rfl (by rfl) ?_ (fun W hG => ?_) ?_; rotate_left; (go_simp; rfl); simp only [Act.put, List.setIfInBounds_toArray, List.set_cons_zero, List.set_cons_succ])
      refine chain_done ?_
      go_wp2
      go_ret
      exact ⟨rfl, HW4.out⟩
end Go.Proofs.Ytfnaigeakfgpbaa
