/-
  The walk of bezantlaw01.WireTells: at any bytes and numbers it returns true, and nothing that was there has changed.
-/
import Derived.Test.YtoaifjkjgmngiaaUp1
import Derived.Test.YtoaifjkjgmngiaaRefGet
import Derived.Test.YtoaifjkjgmngiaaRefPut
import Derived.Test.YtoaifjkjgmngiaaRefFits
namespace Go.Proofs.Ytoaifjkjgmngiaa
open Go.RowKit

set_option maxHeartbeats 800000 in
theorem tells_core (A : Option Addr) (len c : Nat) (l : List UInt8) (p n : Int) (big : Bool) (v s : Int) (w : World) (h : RB w w.heap.size A len c l)
    (hp : 0 ≤ p) (hv : 0 ≤ v) (hv1 : v ≤ 18446744073709551615) (hs : s ≤ 18446744073709551615) :
    Calls Try.prog 3 #[.slice A len c, .int .u64 p, .int .i64 n, .bool big, .int .u64 v, .int .u64 s] w fun e w' => e = .returned (.bool true) ∧ Below w.heap.size w w' := by
  have HR := Lib.hid h
  have hc := h.cap
  have hm := h.max
  unfold maxLen at hm
  clear h
  by_cases hbig : 10000 < len
  · go_enter Try.func3, Try.ntmps3
    go_wp2_with (go_at_call 5; refine (up1_any _).mono ?_; rintro e w1 ⟨rfl, hb1⟩; have HB := Lib.hid hb1; clear hb1)
    go_ret
    exact ⟨rfl, HB.out⟩
  · go_enter Try.func3, Try.ntmps3
    go_wp2_with fail
    refine (up1_any _).mono ?_
    rintro e w1 ⟨rfl, hb1⟩
    have HB1 := Lib.hid hb1
    have HR1 := Lib.hid (HR.out.belowAt hb1 (Nat.le_refl _))
    clear hb1
    go_wp2_with fail
    refine (get_any _ _ _ l _ _ _ _ _ HR1.out hp).mono ?_
    rintro e w2 ⟨rfl, m, hw2⟩
    have HB2 : Hid (Grow w w2) := by rw [hw2]; exact (show Grow w w1 from HB1.out).trans (Grow.of_drewN _ _)
    have HR2 : Hid (RB w2 w.heap.size A len c l) := by rw [hw2]; exact HR1.out.drewN _
    clear hw2 HR1 HB1
    go_wp2_with fail
    refine (refGet_any _ _ _ l _ _ _ _ _ HR2.out hp).mono ?_
    rintro e w3 ⟨rfl, rfl⟩
    generalize gotV l p n big = x
    generalize gotB l p n = ok
    go_wp2_with fail
    refine wp_region_chain [(0, true), (1, true), (2, true), (3, true), (4, true), (5, true), (6, true), (7, true), (8, true), (9, true), (10, true), (11, true), (12, true), (13, true), (14, true), (17, true), (18, true), (19, true), (15, false), (16, true), (20, false), (21, true), (22, true), (23, true), (24, true), (25, true), (26, true), (28, true), (29, true), (27, false), (30, false), (31, true), (32, true), (33, true), (34, true), (35, true), (36, true), (38, true), (39, true), (40, true), (37, false), (41, false), (42, true), (43, true), (44, true)] (by kernel_rfl) (by kernel_rfl) (by kernel_rfl) ?_
    have HD : Hid (Grow w w2.drew) := HB2.out.trans (Grow.of_drew _)
    generalize w2.drew = w4 at HD ⊢
    clear HB2 HR2 HR hc hm
    repeat (refine chain_take rfl (by rfl) ?_ (fun W hG => ?_) ?_; rotate_left; (go_simp; rfl); simp only [Act.put, List.setIfInBounds_toArray, List.set_cons_zero, List.set_cons_succ])
    refine chain_only rfl (by rfl) (fun K hK => ?_)
    go_simp
    refine (put_any v n big _ hv).mono ?_
    rintro e w5 ⟨A1, c1, rfl, hown, hb⟩
    refine hK _ _ hb ?_
    clear hK K
    have hs1 := (OB.rb hown).conv (Nat.le_refl _)
    have HE : Hid (Grow w w5) := HD.out.trans hb
    clear hown hb HD
    repeat (refine chain_take rfl (by rfl) ?_ (fun W hG => ?_) ?_; rotate_left; (go_simp; rfl); simp only [Act.put, List.setIfInBounds_toArray, List.set_cons_zero, List.set_cons_succ])
    clear hs1
    refine chain_only rfl (by rfl) (fun K hK => ?_)
    go_simp
    refine (refPut_any v n big _ hv hv1).mono ?_
    rintro e w6 ⟨A2, c2, rfl, hown, hb⟩
    refine hK _ _ hb ?_
    clear hK K
    have hs2 := (OB.rb hown).conv (Nat.le_refl _)
    have HF : Hid (Grow w w6) := HE.out.trans hb
    clear hown hb HE
    repeat (refine chain_take rfl (by rfl) ?_ (fun W hG => ?_) ?_; rotate_left; (go_simp; rfl); simp only [Act.put, List.setIfInBounds_toArray, List.set_cons_zero, List.set_cons_succ])
    clear hs2
    refine chain_only rfl (by rfl) (fun K hK => ?_)
    go_simp
    refine (fits_any v n _ hv hv1).mono ?_
    rintro e w7 ⟨rfl, rfl⟩
    refine hK _ _ (Grow.refl _) ?_
    clear hK K
    repeat (refine chain_take rfl (by rfl) ?_ (fun W hG => ?_) ?_; rotate_left; (go_simp; rfl); simp only [Act.put, List.setIfInBounds_toArray, List.set_cons_zero, List.set_cons_succ])
    refine chain_only rfl (by rfl) (fun K hK => ?_)
    go_simp
    refine (refFits_any v n _ hv hv1).mono ?_
    rintro e w7 ⟨rfl, rfl⟩
    refine hK _ _ (Grow.refl _) ?_
    clear hK K
    repeat (refine chain_take rfl (by rfl) ?_ (fun W hG => ?_) ?_; rotate_left; (go_simp; rfl); simp only [Act.put, List.setIfInBounds_toArray, List.set_cons_zero, List.set_cons_succ])
    refine chain_only rfl (by rfl) (fun K hK => ?_)
    go_simp
    refine (within_any p v s _ hp hv hs).mono ?_
    rintro e w7 ⟨rfl, rfl⟩
    refine hK _ _ (Grow.refl _) ?_
    clear hK K
    repeat (refine chain_take rfl (by rfl) ?_ (fun W hG => ?_) ?_; rotate_left; (go_simp; rfl); simp only [Act.put, List.setIfInBounds_toArray, List.set_cons_zero, List.set_cons_succ])
    refine chain_only rfl (by rfl) (fun K hK => ?_)
    go_simp
    refine (refWithin_any p v s _ hp hv hs).mono ?_
    rintro e w7 ⟨rfl, rfl⟩
    refine hK _ _ (Grow.refl _) ?_
    clear hK K
    repeat (refine chain_take rfl (by rfl) ?_ (fun W hG => ?_) ?_; rotate_left; (go_simp; rfl); simp only [Act.put, List.setIfInBounds_toArray, List.set_cons_zero, List.set_cons_succ])
    refine chain_done ?_
    go_wp2
    go_ret
    exact ⟨rfl, HF.out⟩
end Go.Proofs.Ytoaifjkjgmngiaa
