/-
  The walk of bezantlaw02.SpanApart: at any stretches it returns true, and nothing that was there has changed.
-/
import Derived.Test.YthhchaoeapnnoaaUp2
namespace Go.Proofs.Ythhchaoeapnnoaa
open Go.RowKit

theorem last_ge {a n : Nat} (ha : a < 18446744073709551616) (h : 0 < n) : a ≤ lastN a n := by unfold lastN; omega
/-- Of rising ones none meets another. -/
theorem up_from {l : List (Nat × Nat)} (hs : ∀ j (_ : j < l.length), (l.getD j (0, 0)).1 < 18446744073709551616 ∧ (l.getD j (0, 0)).2 < 18446744073709551616) (h : Up l) : ∀ k i, i < k → k < l.length → belowAt l i k = true := by
  intro k
  induction k with
  | zero => intro i hi; omega
  | succ k ih =>
    intro i hi hk
    have h1 : belowAt l k (k + 1) = true := h (k + 1) (by omega) hk
    rcases Nat.lt_or_ge i k with h2 | h2
    · have h3 := ih i h2 (by omega)
      have hsk := (hs k (by omega)).1
      unfold belowAt belowN at h1 h3 ⊢
      generalize l.getD i (0, 0) = x at *
      generalize l.getD (k + 1) (0, 0) = z at *
      generalize l.getD k (0, 0) = y at *
      have hy : y.1 ≤ z.1 := by
        split at h1
        · exact of_decide_eq_true h1
        · have := of_decide_eq_true h1
          have := last_ge (n := y.2) hsk (by omega)
          omega
      split at h3
      · rename_i h4
        rw [if_pos h4]
        have := of_decide_eq_true h3
        exact decide_eq_true (by omega)
      · rename_i h4
        rw [if_neg h4]
        have := of_decide_eq_true h3
        exact decide_eq_true (by omega)
    · obtain rfl : i = k := by omega
      exact h1
theorem up_bare {l : List (Nat × Nat)} (hs : ∀ j (_ : j < l.length), (l.getD j (0, 0)).1 < 18446744073709551616 ∧ (l.getD j (0, 0)).2 < 18446744073709551616) (h : Up l) : Bare l l.length := by
  intro k hk i hi
  have := up_from hs h k i hi hk
  unfold belowAt belowN at this
  unfold meetAt meetN
  generalize l.getD i (0, 0) = x at *
  generalize l.getD k (0, 0) = z at *
  apply decide_eq_false
  split at this
  · omega
  · have := of_decide_eq_true this
    omega
theorem meet_comm (a n b m : Nat) : meetN a n b m = meetN b m a n := by
  unfold meetN; rw [Bool.eq_iff_iff, decide_eq_true_iff, decide_eq_true_iff]; omega
theorem meet_none (a n b : Nat) : meetN a n b 0 = false := by unfold meetN; simp
theorem meet_one {a n x : Nat} (ha : a < 18446744073709551616) (hx : x < 18446744073709551616) : meetN a n x 1 = decide (a ≤ x ∧ x - a < n) := by
  unfold meetN lastN; rw [Bool.eq_iff_iff, decide_eq_true_iff, decide_eq_true_iff]; omega
theorem meet_both {a n b m x : Nat} (ha : a < 18446744073709551616) (hb : b < 18446744073709551616) (hx : x < 18446744073709551616) (h1 : meetN a n x 1 = true) (h2 : meetN b m x 1 = true) : meetN a n b m = true := by
  have h1 := of_decide_eq_true h1
  have h2 := of_decide_eq_true h2
  unfold meetN
  refine decide_eq_true ?_
  unfold lastN at *
  omega
/-- What two boxed numbers read as, from w on. -/
def Box (w : World) (g a n : Nat) : Prop := ∀ W, Grow w W → W.cell? ⟨g, 0, none⟩ = some (.int .u64 a) ∧ W.cell? ⟨g, 1, none⟩ = some (.int .u64 n)
theorem Box.grow {w w' : World} {g a n : Nat} (h : Box w g a n) (hg : Grow w w') : Box w' g a n := fun W hW => h W (hg.trans hW)
theorem Box.c0 {w : World} {g a n : Nat} (h : Box w g a n) : ∀ W, Grow w W → W.cell? ⟨g, 0, none⟩ = some (.int .u64 a) := fun W hW => (h W hW).1
theorem Box.c1 {w : World} {g a n : Nat} (h : Box w g a n) : ∀ W, Grow w W → W.cell? ⟨g, 1, none⟩ = some (.int .u64 n) := fun W hW => (h W hW).2

set_option maxHeartbeats 1600000 in
theorem apart_core (A : Option Addr) (len c : Nat) (l : List (Nat × Nat)) (a n b m x : Nat) (w : World) (h : RS w w.heap.size A len c l)
    (ha : a < 18446744073709551616) (hn : n < 18446744073709551616) (hb : b < 18446744073709551616) (hm : m < 18446744073709551616) (hx : x < 18446744073709551616) :
    Calls Try.prog 4 #[.slice A len c, .agg #[.int .u64 a, .int .u64 n], .agg #[.int .u64 b, .int .u64 m], .int .u64 x] w fun e w' => e = .returned (.bool true) ∧ Below w.heap.size w w' := by
  have HR := Lib.hid h
  have hc := h.cap
  have hmx := h.max
  unfold maxLen at hmx
  clear h
  by_cases hbig : 60 < len
  · go_enter Try.func4, Try.ntmps4
    go_wp2_with (go_at_call 5; refine (up2_any _).mono ?_; rintro e w1 ⟨rfl, hb1⟩; have HB := Lib.hid hb1; clear hb1)
    go_ret
    exact ⟨rfl, (Grow.of_alloc _ _).trans ((Grow.of_alloc _ _).trans HB.out)⟩
  · go_enter Try.func4, Try.ntmps4
    go_wp2_with fail
    refine (up2_any _).mono ?_
    rintro e w1 ⟨rfl, hg⟩
    have HG : Hid (Grow w w1) := Lib.hid ((Grow.of_alloc _ _).trans ((Grow.of_alloc _ _).trans hg))
    have HA : Hid (Box w1 w.heap.size a n) := Lib.hid fun W hW => boxed ((Grow.of_alloc _ _).trans (hg.trans hW))
    have HB : Hid (Box w1 (w.heap.size + 1) b m) := Lib.hid fun W hW => by have := boxed (w := w.alloc (.cells #[.int .u64 a, .int .u64 n] 25)) (hg.trans hW); simpa using this
    clear hg
    generalize w.heap.size + 1 = gb at HB ⊢
    have HS : Hid (RS w1 w.heap.size A len c l) := Lib.hid (HR.out.grow (Nat.le_refl _) HG.out)
    go_wp2_with fail
    refine (clash_any _ _ _ l w.heap.size _ HS.out HG.out.size).mono ?_
    rintro e w2 ⟨h, hg⟩
    obtain ⟨i, k, s, rfl, hs⟩ : ∃ (i k : Nat) (s : Bool), e = .returned (.tuple #[.int .i64 i, .int .i64 k, .bool s]) ∧ (Up l → s = false) := by
      rcases h with ⟨rfl, _⟩ | ⟨i, k, rfl, hf⟩
      · exact ⟨0, 0, false, rfl, fun _ => rfl⟩
      · exact ⟨i, k, true, rfl, fun hu => absurd (up_bare HS.out.small hu) hf.not_bare⟩
    have HH := Lib.hid hs
    clear h hs
    have HG2 : Hid (Grow w w2) := Lib.hid (HG.out.trans hg)
    have HA2 := Lib.hid (HA.out.grow hg)
    have HB2 := Lib.hid (HB.out.grow hg)
    clear HG HA HB HS hg
    go_wp2_with fail
    refine wp_region_chain [(0, true), (1, false), (2, true), (3, true), (4, true), (5, true), (6, true), (7, true), (9, true), (10, true), (8, false), (11, false), (12, true), (13, true), (14, true), (15, true), (16, true), (17, true), (18, true), (19, false), (20, true)] (by kernel_rfl) (by kernel_rfl) (by kernel_rfl) ?_
    have HG3 : Hid (Grow w w2.drew) := Lib.hid (HG2.out.trans (Grow.of_drew _))
    have HA3 := Lib.hid (HA2.out.grow (Grow.of_drew _))
    have HB3 := Lib.hid (HB2.out.grow (Grow.of_drew _))
    generalize w2.drew = w3 at HG3 HA3 HB3 ⊢
    clear HG2 HA2 HB2
    repeat (first | (refine chain_take rfl (by rfl) ?_ (fun W hG => ?_) ?_; rotate_left; (go_simp; rfl); simp only [Act.put, List.setIfInBounds_toArray, List.set_cons_zero, List.set_cons_succ]) | (refine chain_skip rfl (by rfl) ?_; simp only [Act.put, List.setIfInBounds_toArray, List.set_cons_zero, List.set_cons_succ]))
    refine chain_only rfl (by rfl) (fun K hK => ?_)
    go_simp
    refine (rising_any _ _ _ l w.heap.size _ (HR.out.grow (Nat.le_refl _) HG3.out) HG3.out.size).mono ?_
    rintro e w4 ⟨r, rfl, hr, hg⟩
    refine hK _ _ hg ?_
    clear hK K
    have HG4 : Hid (Grow w w4) := Lib.hid (HG3.out.trans hg)
    have HA4 := Lib.hid (HA3.out.grow hg)
    have HB4 := Lib.hid (HB3.out.grow hg)
    clear HG3 HA3 HB3 hg
    have hrs : r = true → s = false := fun h => HH.out (hr.1 h)
    clear hr HH
    have hrs' : (r = true ∧ s = false) ∨ r = false := by cases r; exact .inr rfl; exact .inl ⟨rfl, hrs rfl⟩
    clear hrs
    rcases hrs' with ⟨rfl, rfl⟩ | rfl
    all_goals
      have a0 := HA4.out.c0
      have a1 := HA4.out.c1
      have b0 := HB4.out.c0
      have b1 := HB4.out.c1
      repeat (first | (refine chain_take rfl (by rfl) ?_ (fun W hG => ?_) ?_; rotate_left; (go_simp; rfl); simp only [Act.put, List.setIfInBounds_toArray, List.set_cons_zero, List.set_cons_succ]) | (refine chain_skip rfl (by rfl) ?_; simp only [Act.put, List.setIfInBounds_toArray, List.set_cons_zero, List.set_cons_succ]))
      clear a0 a1 b0 b1
      refine chain_only rfl (by rfl) (fun K hK => ?_)
      go_simp
      refine (meet_any a n b m _ ha hn hb hm).mono ?_
      rintro e w5 ⟨rfl, hg⟩
      refine hK _ _ hg ?_
      clear hK K
      have HG5 : Hid (Grow w w5) := Lib.hid (HG4.out.trans hg)
      have HA5 := Lib.hid (HA4.out.grow hg)
      have HB5 := Lib.hid (HB4.out.grow hg)
      clear HG4 HA4 HB4 hg
      refine chain_only rfl (by rfl) (fun K hK => ?_)
      go_simp
      refine (meet_any b m a n _ hb hm ha hn).mono ?_
      rintro e w6 ⟨rfl, hg⟩
      refine hK _ _ hg ?_
      clear hK K
      rw [meet_comm b m a n]
      have HG6 : Hid (Grow w w6) := Lib.hid (HG5.out.trans hg)
      have HA6 := Lib.hid (HA5.out.grow hg)
      have HB6 := Lib.hid (HB5.out.grow hg)
      clear HG5 HA5 HB5 hg
      have a0 := HA6.out.c0
      have a1 := HA6.out.c1
      have b0 := HB6.out.c0
      have b1 := HB6.out.c1
      repeat (first | (refine chain_take rfl (by rfl) ?_ (fun W hG => ?_) ?_; rotate_left; (go_simp; rfl); simp only [Act.put, List.setIfInBounds_toArray, List.set_cons_zero, List.set_cons_succ]) | (refine chain_skip rfl (by rfl) ?_; simp only [Act.put, List.setIfInBounds_toArray, List.set_cons_zero, List.set_cons_succ]))
      clear a0 a1 b0 b1
      refine chain_only rfl (by rfl) (fun K hK => ?_)
      go_simp
      refine (meet_any a n b 0 _ ha hn hb (by omega)).mono ?_
      rintro e w7 ⟨rfl, hg⟩
      refine hK _ _ hg ?_
      clear hK K
      rw [meet_none]
      have HG7 : Hid (Grow w w7) := Lib.hid (HG6.out.trans hg)
      have HA7 := Lib.hid (HA6.out.grow hg)
      have HB7 := Lib.hid (HB6.out.grow hg)
      clear HG6 HA6 HB6 hg
      repeat (first | (refine chain_take rfl (by rfl) ?_ (fun W hG => ?_) ?_; rotate_left; (go_simp; rfl); simp only [Act.put, List.setIfInBounds_toArray, List.set_cons_zero, List.set_cons_succ]) | (refine chain_skip rfl (by rfl) ?_; simp only [Act.put, List.setIfInBounds_toArray, List.set_cons_zero, List.set_cons_succ]))
      refine chain_done ?_
      have a0 := (HA7.out _ (Grow.refl _)).1
      have a1 := (HA7.out _ (Grow.refl _)).2
      go_wp2_with fail
      refine (meet_any a n x 1 _ ha hn hx (by omega)).mono ?_
      rintro e w8 ⟨rfl, hg⟩
      have HG8 : Hid (Grow w w8) := Lib.hid (HG7.out.trans hg)
      have HA8 := Lib.hid (HA7.out.grow hg)
      have HB8 := Lib.hid (HB7.out.grow hg)
      clear HG7 HA7 HB7 hg a0 a1
      have b0 := (HB8.out _ (Grow.refl _)).1
      have b1 := (HB8.out _ (Grow.refl _)).2
      go_wp2_with fail
      refine (meet_any b m x 1 _ hb hm hx (by omega)).mono ?_
      rintro e w9 ⟨rfl, hg⟩
      have HG9 : Hid (Grow w w9) := Lib.hid (HG8.out.trans hg)
      have HA9 := Lib.hid (HA8.out.grow hg)
      have HB9 := Lib.hid (HB8.out.grow hg)
      clear HG8 HA8 HB8 hg b0 b1
      have HM := Lib.hid (fun h1 h2 => meet_both (n := n) (m := m) ha hb hx h1 h2)
      have H1 := Lib.hid (meet_one (n := n) ha hx)
      generalize meetN a n x 1 = one at HM H1 ⊢
      generalize meetN b m x 1 = two at HM ⊢
      have a0 := (HA9.out _ (Grow.refl _)).1
      have a1 := (HA9.out _ (Grow.refl _)).2
      have b0 := (HB9.out _ (Grow.refl _)).1
      have b1 := (HB9.out _ (Grow.refl _)).2
      have HJ : Hid (one = true → two = true → ∀ W, Grow w9 W → Calls Try.prog 6 #[.agg #[.int .u64 a, .int .u64 n], .agg #[.int .u64 b, .int .u64 m]] W fun e w' => e = .returned (.bool true) ∧ Grow w w') :=
        Lib.hid fun h1 h2 W hW => (meet_any a n b m W ha hn hb hm).mono fun e w' ⟨h3, h4⟩ => ⟨by rw [h3, HM.out h1 h2], HG9.out.trans (hW.trans h4)⟩
      clear HM
      by_cases p1 : a ≤ x
      · have z : IntKind.u64.wrap ((x : Int) - a) = (x : Int) - a := by rw [IntKind.wrap_u64]; omega
        have p3 : decide ((a : Int) ≤ x) = true := decide_eq_true (by omega)
        by_cases p2 : x - a < n
        · obtain rfl : one = true := by rw [H1.out]; exact decide_eq_true ⟨p1, p2⟩
          have p4 : decide ((x : Int) - a < n) = true := decide_eq_true (by omega)
          clear H1
          cases two
          · go_wp2_with fail
            go_ret
            exact ⟨rfl, HG9.out⟩
          · go_wp2_with fail
            refine (HJ.out (by simp) (by simp) _ (Grow.refl _)).mono ?_
            rintro e w10 ⟨rfl, hg⟩
            have HG10 := Lib.hid hg
            clear hg
            go_wp2
            go_ret
            exact ⟨rfl, HG10.out⟩
        · obtain rfl : one = false := by rw [H1.out]; exact decide_eq_false (fun h => p2 h.2)
          have p4 : decide ((x : Int) - a < n) = false := decide_eq_false (by omega)
          clear H1
          go_wp2_with fail
          go_ret
          exact ⟨rfl, HG9.out⟩
      · obtain rfl : one = false := by rw [H1.out]; exact decide_eq_false (fun h => p1 h.1)
        have p3 : decide ((a : Int) ≤ x) = false := decide_eq_false (by omega)
        clear H1
        go_wp2_with fail
        go_ret
        exact ⟨rfl, HG9.out⟩
end Go.Proofs.Ythhchaoeapnnoaa
