/-
  The walk of bezantlaw01.WireTells: at any bytes and numbers it returns true, and nothing that was there has changed.
-/
import Derived.Test.YtoaifjkjgmngiaaUp1
import Derived.Test.YtoaifjkjgmngiaaRefGet
import Derived.Test.YtoaifjkjgmngiaaRefPut
import Derived.Test.YtoaifjkjgmngiaaRefFits
namespace Go.Proofs.Ytoaifjkjgmngiaa
open Go.RowKit

set_option maxHeartbeats 800000 in
theorem tells_core (A : Option Addr) (len c : Nat) (l : List UInt8) (p n : Int) (big : Bool) (v s : Int) (w : World) (h : RB w w.heap.size A len c l)
    (hp : 0 ≤ p) (hv : 0 ≤ v) (hv1 : v ≤ 18446744073709551615) (hs : s ≤ 18446744073709551615) :
    Calls Try.prog 3 #[.slice A len c, .int .u64 p, .int .i64 n, .bool big, .int .u64 v, .int .u64 s] w fun e w' => e = .returned (.bool true) ∧ Below w.heap.size w w' := by
  have HR := Lib.hid h
  have hc := h.cap
  have hm := h.max
  unfold maxLen at hm
  clear h
  by_cases hbig : 10000 < len
  · go_enter Try.func3, Try.ntmps3
    go_wp2_with (go_at_call 5; refine (up1_any _).mono ?_; rintro e w1 ⟨rfl, hb1⟩; have HB := Lib.hid hb1; clear hb1)
    go_ret
    exact ⟨rfl, HB.out⟩
  · go_enter Try.func3, Try.ntmps3
    go_wp2_with fail
    refine (up1_any _).mono ?_
    rintro e w1 ⟨rfl, hb1⟩
    have HB1 := Lib.hid hb1
    have HR1 := Lib.hid (HR.out.belowAt hb1 (Nat.le_refl _))
    clear hb1
    go_wp2_with fail
    refine (get_any _ _ _ l _ _ _ _ _ HR1.out hp).mono ?_
    rintro e w2 ⟨rfl, m, hw2⟩
    have HB2 : Hid (Grow w w2) := by rw [hw2]; exact (show Grow w w1 from HB1.out).trans (Grow.of_drewN _ _)
    have HR2 : Hid (RB w2 w.heap.size A len c l) := by rw [hw2]; exact HR1.out.drewN _
    clear hw2 HR1 HB1
    go_wp2_with fail
    refine (refGet_any _ _ _ l _ _ _ _ _ HR2.out hp).mono ?_
    rintro e w3 ⟨rfl, rfl⟩
    generalize gotV l p n big = x
    generalize gotB l p n = ok
    go_wp2_with fail
    refine wp_region_tree (.take 0 (.take 1 (.take 2 (.take 3 (.take 4 (.take 5 (.take 6 (.take 7 (.take 8 (.take 9 (.take 10 (.take 11 (.take 12 (.take 13 (.take 14 (.take 17 (.take 18 (.take 19 (.only 15 (.take 16 (.only 20 (.take 21 (.take 22 (.take 23 (.take 24 (.take 25 (.take 26 (.take 28 (.take 29 (.only 27 (.only 30 (.take 31 (.take 32 (.take 33 (.take 34 (.take 35 (.take 36 (.take 38 (.take 39 (.take 40 (.only 37 (.only 41 (.take 42 (.take 43 (.take 44 .done))))))))))))))))))))))))))))))))))))))))))))) (by kernel_rfl) (by kernel_rfl) (by kernel_rfl) ?_
    have HD : Hid (Grow w w2.drew) := HB2.out.trans (Grow.of_drew _)
    generalize w2.drew = w4 at HD ⊢
    clear HB2 HR2 HR hc hm
    repeat (refine wpTree_take rfl (by rfl) ?_ (fun W hG => ?_) ?_; rotate_left; (go_simp; rfl); simp only [Act.put, List.setIfInBounds_toArray, List.set_cons_zero, List.set_cons_succ])
    refine wpTree_only rfl (by rfl) (fun K hK => ?_)
    go_simp
    refine (put_any v n big _ hv).mono ?_
    rintro e w5 ⟨A1, c1, rfl, hown, hb⟩
    refine hK _ _ hb ?_
    clear hK K
    have hs1 := (OB.rb hown).conv (Nat.le_refl _)
    have HE : Hid (Grow w w5) := HD.out.trans hb
    clear hown hb HD
    repeat (refine wpTree_take rfl (by rfl) ?_ (fun W hG => ?_) ?_; rotate_left; (go_simp; rfl); simp only [Act.put, List.setIfInBounds_toArray, List.set_cons_zero, List.set_cons_succ])
    clear hs1
    refine wpTree_only rfl (by rfl) (fun K hK => ?_)
    go_simp
    refine (refPut_any v n big _ hv hv1).mono ?_
    rintro e w6 ⟨A2, c2, rfl, hown, hb⟩
    refine hK _ _ hb ?_
    clear hK K
    have hs2 := (OB.rb hown).conv (Nat.le_refl _)
    have HF : Hid (Grow w w6) := HE.out.trans hb
    clear hown hb HE
    repeat (refine wpTree_take rfl (by rfl) ?_ (fun W hG => ?_) ?_; rotate_left; (go_simp; rfl); simp only [Act.put, List.setIfInBounds_toArray, List.set_cons_zero, List.set_cons_succ])
    clear hs2
    refine wpTree_only rfl (by rfl) (fun K hK => ?_)
    go_simp
    refine (fits_any v n _ hv hv1).mono ?_
    rintro e w7 ⟨rfl, rfl⟩
    refine hK _ _ (Grow.refl _) ?_
    clear hK K
    repeat (refine wpTree_take rfl (by rfl) ?_ (fun W hG => ?_) ?_; rotate_left; (go_simp; rfl); simp only [Act.put, List.setIfInBounds_toArray, List.set_cons_zero, List.set_cons_succ])
    refine wpTree_only rfl (by rfl) (fun K hK => ?_)
    go_simp
    refine (refFits_any v n _ hv hv1).mono ?_
    rintro e w7 ⟨rfl, rfl⟩
    refine hK _ _ (Grow.refl _) ?_
    clear hK K
    repeat (refine wpTree_take rfl (by rfl) ?_ (fun W hG => ?_) ?_; rotate_left; (go_simp; rfl); simp only [Act.put, List.setIfInBounds_toArray, List.set_cons_zero, List.set_cons_succ])
    refine wpTree_only rfl (by rfl) (fun K hK => ?_)
    go_simp
    refine (within_any p v s _ hp hv hs).mono ?_
    rintro e w7 ⟨rfl, rfl⟩
    refine hK _ _ (Grow.refl _) ?_
    clear hK K
    repeat (refine wpTree_take rfl (by rfl) ?_ (fun W hG => ?_) ?_; rotate_left; (go_simp; rfl); simp only [Act.put, List.setIfInBounds_toArray, List.set_cons_zero, List.set_cons_succ])
    refine wpTree_only rfl (by rfl) (fun K hK => ?_)
    go_simp
    refine (refWithin_any p v s _ hp hv hs).mono ?_
    rintro e w7 ⟨rfl, rfl⟩
    refine hK _ _ (Grow.refl _) ?_
    clear hK K
    repeat (refine wpTree_take rfl (by rfl) ?_ (fun W hG => ?_) ?_; rotate_left; (go_simp; rfl); simp only [Act.put, List.setIfInBounds_toArray, List.set_cons_zero, List.set_cons_succ])
    refine wpTree_done ?_
    go_wp2
    go_ret
    exact ⟨rfl, HF.out⟩
end Go.Proofs.Ytoaifjkjgmngiaa
