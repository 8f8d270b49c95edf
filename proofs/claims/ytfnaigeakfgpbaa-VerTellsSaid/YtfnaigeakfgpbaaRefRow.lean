/-
  The contracts of the document's own Row: the bytes of numbers, each of so many, and whether all fit.
-/
import Derived.Test.YtfnaigeakfgpbaaRows
import Derived.Test.YtfnaigeakfgpbaaRowMath
import Derived.Test.YtfnaigeakfgpbaaNums
import Derived.Test.YtfnaigeakfgpbaaRefFits
import Derived.Test.YtfnaigeakfgpbaaRefPut
namespace Go.Proofs.Ytfnaigeakfgpbaa
open Go.RowKit

/-- Widths that may be, of few numbers that are no greater than there are. -/
structure Rowed (q : List (Nat × Nat)) : Prop where
  few : q.length ≤ 100
  wide : ∀ k (h : k < q.length), wid q[k].2 = true
  lt : ∀ k (h : k < q.length), q[k].1 < 18446744073709551616

theorem Rowed.wide8 {q : List (Nat × Nat)} (h : Rowed q) (k : Nat) (hk : k < q.length) : q[k].2 ≤ 8 := by
  have := wid_cases (h.wide k hk); omega
theorem rowB_le {q : List (Nat × Nat)} (h : Rowed q) (big : Bool) : ∀ k, k ≤ q.length → (rowB big (q.take k)).length ≤ 8 * k
  | 0, _ => by simp [rowB]
  | k + 1, hk => by
    rw [rowB_succ big q k (by omega), List.length_append, length_putB]
    have := rowB_le h big k (by omega)
    have := h.wide8 k (by omega)
    omega

theorem fits_row (v n : Nat) (h : wid n = true) : fits v n = decide (v < 256 ^ n) := by
  simp only [fits, h, Bool.true_and, Int.toNat_natCast]
  rw [Bool.eq_iff_iff, decide_eq_true_iff, decide_eq_true_iff]
  have e : ((256 : Int) ^ n) = ((256 ^ n : Nat) : Int) := by simp
  rw [e]; omega

set_option maxHeartbeats 400000 in
theorem row_any (q : List (Nat × Nat)) (hq : Rowed q) (A : Option Addr) (n c : Nat) (A' : Option Addr) (n' c' : Nat) (big : Bool) (w : World)
    (h : NS w w.heap.size .u64 A n c (q.map (·.1))) (h' : NS w w.heap.size .i64 A' n' c' (q.map (·.2))) :
    Calls Try.prog 23 #[.slice A n c, .slice A' n' c', .bool big] w fun e w' =>
      ∃ A2 c2, e = .returned (.tuple #[.slice A2 (rowB big q).length c2, .bool (rowF q)]) ∧ OB w' w.heap.size 5 A2 (rowB big q).length c2 (rowB big q) ∧ Grow w w' := by
  have hn : n = q.length := by have := h.len; simpa using this
  have hn' : n' = q.length := by have := h'.len; simpa using this
  have hfew := hq.few
  have HN := Lib.hid hn
  have HN' := Lib.hid hn'
  have HQ := Lib.hid hq
  have HS := Lib.hid h
  have HS' := Lib.hid h'
  have hn100 : n ≤ 100 := by omega
  clear h h' hq hn hn' hfew
  go_enter Try.func23, Try.ntmps23
  go_wp2_with fail
  go_loopw [8, 9, 10] (fun x y i wr => ∃ (k : Nat) (A2 : Option Addr) (c2 : Nat), k ≤ n ∧ i = .int .i64 k ∧ x = .slice A2 (rowB big (q.take k)).length c2 ∧ y = .bool (rowF (q.take k)) ∧
    OB wr w.heap.size 5 A2 (rowB big (q.take k)).length c2 (rowB big (q.take k)) ∧ Below w.heap.size w wr) (fun _ _ i _ => n - (intOf i).toNat)
  case atStart => exact ⟨0, none, 0, Nat.zero_le _, rfl, rfl, rfl, OB.nil, Below.refl _ _⟩
  case round =>
    obtain ⟨k, A2, c2, hk, rfl, rfl, rfl, ho, hb⟩ := hrel
    by_cases hlt : k < n
    · have hkq : k < q.length := by rw [← HN.out]; exact hlt
      obtain ⟨b, off, rfl, hb1, hc1⟩ := HS.out.pos (by omega)
      obtain ⟨b', off', rfl, hb1', hc1'⟩ := HS'.out.pos (by have := HN.out; have := HN'.out; omega)
      have y1 := hc1 k (by simpa using hkq)
      have y2 := hc1' k (by simpa using hkq)
      simp only [List.getElem_map] at y1 y2
      have HB := Lib.hid (rowB_succ big q k hkq)
      have HF := Lib.hid (rowF_succ q k hkq)
      have HW := Lib.hid (HQ.out.wide k hkq)
      have hv := HQ.out.lt k hkq
      have hw8 := HQ.out.wide8 k hkq
      have HLE := Lib.hid (rowB_le HQ.out big k (by omega))
      generalize q[k].1 = v at y1 HB HF hv
      generalize q[k].2 = m at y2 HB HF HW hw8
      have z1 : (0 : Int) ≤ (k : Int) := by omega
      have z2 : (k : Int) < (n : Int) := by omega
      have z3 : (k : Int) < (n' : Int) := by have := HN.out; have := HN'.out; omega
      have HO := Lib.hid ho
      have HG := Lib.hid hb
      clear ho hb hc1 hc1' hkq
      go_wp2_with fail
      refine wp_region_leap (leap_below w.heap.size) [(0, true), (1, true), (2, true), (3, true), (4, true), (5, true), (6, true), (7, true), (8, false), (9, true)] (by kernel_rfl) (by kernel_rfl) (by kernel_rfl) ?_
      have HX : Hid (∀ W, Below w.heap.size wr.drew W → W.cell? ⟨b, off + k, none⟩ = _ ∧ W.cell? ⟨b', off' + k, none⟩ = _) := fun W hW =>
        ⟨((HG.out.trans (show Below w.heap.size wr wr.drew from ⟨rfl, rfl, rfl, Nat.le_refl _, fun _ _ => rfl⟩)).trans hW |>.cell hb1).trans y1, ((HG.out.trans (show Below w.heap.size wr wr.drew from ⟨rfl, rfl, rfl, Nat.le_refl _, fun _ _ => rfl⟩)).trans hW |>.cell hb1').trans y2⟩
      clear y1 y2
      repeat (refine chain_take rfl (by rfl) ?_ (fun W hG => ?_) ?_; rotate_left; (obtain ⟨q1, q2⟩ := HX.out W hG; go_simp; rfl); simp only [Act.put, List.setIfInBounds_toArray, List.set_cons_zero, List.set_cons_succ])
      refine chain_only rfl (by rfl) (fun K hK => ?_)
      go_simp
      refine (refFits_any v m _ (by omega) (by omega)).mono ?_
      rintro e w2 ⟨rfl, rfl⟩
      refine hK _ _ (Below.refl _ _) ?_
      clear hK K
      rw [fits_row v m HW.out]
      repeat (refine chain_take rfl (by rfl) ?_ (fun W hG => ?_) ?_; rotate_left; (go_simp; rfl); simp only [Act.put, List.setIfInBounds_toArray, List.set_cons_zero, List.set_cons_succ])
      refine chain_done ?_
      generalize decide (v < 256 ^ m) = f at HF
      have HG1 : Hid (Below w.heap.size w wr.drew) := HG.out.trans ⟨rfl, rfl, rfl, Nat.le_refl _, fun _ _ => rfl⟩
      have HO1 : Hid (OB wr.drew _ _ _ _ _ _) := HO.out
      generalize wr.drew = w1 at HX HG1 HO1 ⊢
      clear HO HG
      generalize rowF (q.take k) = al at HF ⊢
      cases al
      all_goals
        simp only [Bool.true_and, Bool.false_and] at HF
        go_wp2_with fail
        refine wp_region_leap (leap_below w.heap.size) [(0, true), (1, true), (2, true), (3, true), (4, true), (5, true), (6, true), (7, true), (8, true), (9, true), (10, false), (11, false), (12, true)] (by kernel_rfl) (by kernel_rfl) (by kernel_rfl) ?_
        have HX2 : Hid (∀ W, Below w.heap.size w1.drew W → _) := fun W hW => HX.out W ((show Below w.heap.size w1 w1.drew from ⟨rfl, rfl, rfl, Nat.le_refl _, fun _ _ => rfl⟩).trans hW)
        have HO2 : Hid (OB w1.drew _ _ _ _ _ _) := HO1.out
        have HG2 : Hid (Below w.heap.size w w1.drew) := HG1.out.trans ⟨rfl, rfl, rfl, Nat.le_refl _, fun _ _ => rfl⟩
        generalize w1.drew = w2 at HX2 HO2 HG2 ⊢
        clear HX HO1 HG1
        repeat (refine chain_take rfl (by rfl) ?_ (fun W hG => ?_) ?_; rotate_left; (obtain ⟨q1, q2⟩ := HX2.out W hG; go_simp; rfl); simp only [Act.put, List.setIfInBounds_toArray, List.set_cons_zero, List.set_cons_succ])
        refine chain_only rfl (by rfl) (fun K hK => ?_)
        go_simp
        refine (refPut_any v m big _ (by omega) (by omega)).mono ?_
        rintro e w3 ⟨A3, c3, rfl, ho3, hb3⟩
        refine hK _ _ (hb3.mono HG2.out.size) ?_
        clear hK K
        have HO3 := Lib.hid ho3
        have HO4 := Lib.hid (HO2.out.keep hb3)
        have HG3 : Hid (Below w.heap.size w w3) := HG2.out.trans (hb3.mono HG2.out.size)
        clear ho3 hb3 HO2 HG2 HX2
        have hpl : putL v m big = putB v m big := by simp [putL, HW.out]
        rw [hpl, length_putB] at HO3 ⊢
        clear hpl
        refine chain_only rfl (by rfl) (fun K hK => ?_)
        refine wp_appendB w3 (.tmp 31) (.tmp 41) 24 rfl w.heap.size 5 Try.underlying24 (by kernel_rfl) A2 _ c2 _ rfl HO4.out w3.heap.size A3 m c3 _ rfl HO3.out.rb (by have := HLE.out; omega) HG3.out.size ?_
        intro A5 c5 w5 ho5 hb5
        refine hK _ _ hb5 ?_
        clear hK K
        have HO5 := Lib.hid ho5
        have HG5 : Hid (Below w.heap.size w w5) := HG3.out.trans hb5
        rw [← HB.out] at HO5
        have hm : (rowB big (q.take k)).length + m = (rowB big (q.take (k + 1))).length := by rw [HB.out, List.length_append, length_putB]
        rw [hm] at HO5 ⊢
        clear ho5 hb5 hm HO3 HO4 HG3
        repeat (refine chain_take rfl (by rfl) ?_ (fun W hG => ?_) ?_; rotate_left; (go_simp; rfl); simp only [Act.put, List.setIfInBounds_toArray, List.set_cons_zero, List.set_cons_succ])
        refine chain_done ?_
        go_wp2
        go_roundw
        case rel => exact ⟨k + 1, A5, c5, by omega, by go_num, rfl, by rw [HF.out], HO5.out, HG5.out⟩
        case measure => simp [intOf]; omega
    · have HK : Hid (q.take k = q) := by
        have e : k = n := by omega
        rw [e, HN.out]
        exact List.take_length
      rw [HK.out] at ho ⊢
      have HO := Lib.hid ho
      have HG := Lib.hid hb
      clear ho hb
      go_wp2
      go_ret2
      exact ⟨A2, c2, rfl, HO.out, HG.out⟩
end Go.Proofs.Ytfnaigeakfgpbaa
