/-
  The walk of bezantlaw11.NoteBack: at any notes and bytes it returns true, and nothing that was there has changed.
-/
import Derived.Test.YtheekcjpphcihaaUp11
import Derived.Test.YtheekcjpphcihaaNtSmall
import Derived.Test.YtheekcjpphcihaaNtSame
namespace Go.Proofs.Ytheekcjpphcihaa
open Go.RowKit

set_option maxRecDepth 100000 in
set_option maxHeartbeats 4000000 in
theorem noteBack_core (A : Option Addr) (n c : Nat) (L : List Nt) (wide big : Bool) (A2 : Option Addr) (n2 c2 : Nat) (l : List UInt8) (w : World)
    (h : ZN w w.heap.size A n c L) (hty : ∀ s ∈ L, s.typ < 4294967296) (h2 : RB w w.heap.size A2 n2 c2 l) :
    Calls Try.prog 4 #[.slice A n c, .agg #[.bool wide, .bool big], .slice A2 n2 c2] w fun e w' => e = .returned (.bool true) ∧ Below w.heap.size w w' := by
  have HS := Lib.hid h
  have HR2 := Lib.hid h2
  have hn2 := h2.len
  have HSm := Lib.hid (fun W (h : ZN W W.heap.size A n c L) => small_any A n c L _ W h)
  generalize hI : ntSmI L = I at HSm
  by_cases hsm : ntSm L = true ∧ n2 ≤ 5000
  rotate_left
  · have hI2 : I = 0 ∨ (I = 1 ∧ 5000 < n2) := by
      by_cases h : ntSm L = true
      · exact .inr ⟨by rw [← hI, ntSmI_yes h], Nat.lt_of_not_le fun h2 => hsm ⟨h, h2⟩⟩
      · exact .inl (by rw [← hI]; exact ntSmI_no (by simpa using h))
    clear hI hsm hn2 hty h h2
    rcases hI2 with rfl | ⟨rfl, h5⟩
    · go_enter Try.func4, Try.ntmps4
      go_wp2_with fail
      refine (up11_any _).mono ?_
      rintro e w1 ⟨rfl, hg1⟩
      have HG1 : Hid (Grow w w1) := (Grow.of_alloc _ _).trans hg1
      clear hg1
      go_wp2_with fail
      refine (HSm.out _ (HS.out.grow HG1.out)).mono ?_
      rintro e w' ⟨rfl, rfl⟩
      clear HSm HS HR2
      go_wp2
      go_ret
      exact ⟨rfl, HG1.out⟩
    · have d2 : decide (5000 < (n2 : Int)) = true := decide_eq_true (by omega)
      clear h5
      go_enter Try.func4, Try.ntmps4
      go_wp2_with fail
      refine (up11_any _).mono ?_
      rintro e w1 ⟨rfl, hg1⟩
      have HG1 : Hid (Grow w w1) := (Grow.of_alloc _ _).trans hg1
      clear hg1
      go_wp2_with fail
      refine (HSm.out _ (HS.out.grow HG1.out)).mono ?_
      rintro e w' ⟨rfl, rfl⟩
      clear HSm HS HR2
      go_wp2
      go_ret
      exact ⟨rfl, HG1.out⟩
  · obtain ⟨hsm1, h5⟩ := hsm
    obtain ⟨hb, -, hfew⟩ := ntSm_len hsm1 big
    obtain rfl : I = 1 := by rw [← hI, ntSmI_yes hsm1]
    have hok : ∀ s ∈ L, s.Ok := fun s hs => ⟨by have := (hfew s hs).1; omega, by have := (hfew s hs).2; omega, hty s hs⟩
    have hl : l.length ≤ 5000 := by omega
    have d2 : decide (5000 < (n2 : Int)) = false := decide_eq_false (by omega)
    have HP := Lib.hid (fun W (h : ZN W W.heap.size A n c L) => nPut_any A n c L hok wide big hb W h)
    have HA := Lib.hid (fun (A : Option Addr) (c : Nat) W (h : RB W W.heap.size A (ntsB big L).length c (ntsB big L)) => by have := nAll_any A _ c _ wide big W h hb; rwa [show ntRest (ntsB big L) big 0 = (L.drop 0, 0, 0) from ntRest_put L hok big L.length 0 (by omega)] at this)
    have HA2 := Lib.hid (fun W (h : RB W W.heap.size A2 n2 c2 l) => nAll_any A2 n2 c2 l wide big W h (by omega))
    have HBk : Hid ((ntRest l big 0).2.1 = 0 → ntsB big (ntRest l big 0).1 = l ∧ ∀ s ∈ (ntRest l big 0).1, s.Ok) := Lib.hid (fun h => ntRest_back l big l.length 0 (by omega) h)
    have HPk := Lib.hid (fun (M : List Nt) (hM : ntsB big M = l ∧ ∀ s ∈ M, s.Ok) (A : Option Addr) (n c : Nat) W (h : ZN W W.heap.size A n c M) => nPut_any A n c M hM.2 wide big (by rw [hM.1]; omega) W h)
    have HLn := Lib.hid h.len
    unfold NPut at HP HPk
    unfold NAll at HA HA2
    generalize ntsB big L = P at HP HA
    generalize ntRest l big 0 = S at HA2 HBk
    obtain ⟨S, bd, at'⟩ := S
    simp only [List.drop_zero] at HA HA2 HBk
    clear hn2 hI hsm1 h5 hb hfew hok hl hty h h2
    go_enter Try.func4, Try.ntmps4
    go_wp2_with fail
    generalize hW : World.alloc _ _ = W0
    obtain ⟨bf, hg0⟩ := blk1 hW
    clear hW
    refine (up11_any _).mono ?_
    rintro e w1 ⟨rfl, hg1⟩
    have HF1 := Lib.hid (bf.grow hg1)
    have HG1 : Hid (Grow w w1) := hg0.trans hg1
    clear hg1 bf hg0
    go_wp2_with fail
    refine (HSm.out _ (HS.out.grow HG1.out)).mono ?_
    rintro e w' ⟨rfl, rfl⟩
    clear HSm
    obtain ⟨f0, f1⟩ := HF1.out.c2
    go_wp2_with fail
    clear f0 f1 d2
    refine wp_region_chain [(0, true), (1, true), (3, true), (2, false), (4, false), (5, true), (6, true), (7, true), (8, true), (9, true)] (by kernel_rfl) (by kernel_rfl) (by kernel_rfl) ?_
    have HX : Hid (∀ W, Grow w1.drew W → _ ∧ _) := fun W hW => ((HF1.out.drew).grow hW).c2
    have HF2 := Lib.hid HF1.out.drew
    have HG2 : Hid (Grow w w1.drew) := HG1.out.trans (Grow.of_drew _)
    generalize w1.drew = w2 at HX HF2 HG2 ⊢
    clear HF1 HG1
    repeat (refine chain_take rfl (by rfl) ?_ (fun W hG => ?_) ?_; rotate_left; (obtain ⟨q1, q2⟩ := HX.out W hG; go_simp; rfl); simp only [Act.put, List.setIfInBounds_toArray, List.set_cons_zero, List.set_cons_succ])
    clear HX
    refine chain_only rfl (by rfl) (fun K hK => ?_)
    go_simp
    refine (HP.out _ (HS.out.grow HG2.out)).mono ?_
    rintro e w3 ⟨Ac, cc, rfl, hoc, hg3⟩
    refine hK _ _ hg3 ?_
    clear hK K
    have HC3 := Lib.hid hoc.rb
    have HF3 := Lib.hid (HF2.out.grow hg3)
    have HG3 : Hid (Grow w w3) := HG2.out.trans hg3
    clear hoc hg3 HG2 HF2 HP
    refine chain_only rfl (by rfl) (fun K hK => ?_)
    go_simp
    refine (HA.out _ _ _ HC3.out).mono ?_
    rintro e w4 (⟨-, Ax, cx, rfl, hzx, hg4⟩ | ⟨hno, -⟩)
    rotate_left
    · exact absurd rfl hno
    refine hK _ _ hg4 ?_
    clear hK K
    have HZ4 := Lib.hid hzx
    have HF4 := Lib.hid (HF3.out.grow hg4)
    have HG4 : Hid (Grow w w4) := HG3.out.trans hg4
    clear hzx hg4 HF3 HG3 HC3 HA
    repeat (refine chain_take rfl (by rfl) ?_ (fun W hG => ?_) ?_; rotate_left; (go_simp; rfl); simp only [Act.put, List.setIfInBounds_toArray, List.set_cons_zero, List.set_cons_succ])
    refine chain_done ?_
    go_wp2_with fail
    refine (sameN_any _ _ _ _ _ _ L _ HZ4.out (HS.out.grow HG4.out)).mono ?_
    rintro e w5 ⟨rfl, hg5⟩
    have HF5 := Lib.hid (HF4.out.grow hg5)
    have HG5 : Hid (Grow w w5) := HG4.out.trans hg5
    clear hg5 HZ4 HF4 HG4
    obtain ⟨f0, f1⟩ := HF5.out.c2
    go_wp2_with fail
    clear f0 f1
    refine (HA2.out _ (HR2.out.grow HG5.out)).mono ?_
    rintro e w6 (⟨hr, Ay, cy, rfl, hzy, hg6⟩ | ⟨hr, er, rfl, he, hg6⟩)
    · have HZ6 := Lib.hid hzy
      have HBl := Lib.hid (HBk.out hr)
      have HF6 := Lib.hid (HF5.out.grow hg6)
      have HG6 : Hid (Grow w w6) := HG5.out.trans hg6
      clear hzy hr hg6 HF5 HG5 HA2 HBk
      go_wp2_with fail
      refine wp_region_chain [(0, true), (1, true), (2, true), (3, true), (4, true), (5, true), (6, true), (9, true), (10, true), (7, false), (8, true), (11, true), (12, true), (13, true), (14, true)] (by kernel_rfl) (by kernel_rfl) (by kernel_rfl) ?_
      have HX : Hid (∀ W, Grow w6.drew W → _ ∧ _) := fun W hW => ((HF6.out.drew).grow hW).c2
      have HCv : Hid (∀ W, Grow w6.drew W → (convert 25 9 (.slice A2 n2 c2)).run Try.prog W = .ok (.string ⟨l.toArray⟩) W) := Lib.hid (fun W hW => (HR2.out.conv (Nat.le_refl _)) W ((HG6.out.trans (Grow.of_drew _)).trans hW))
      have HZ7 := Lib.hid HZ6.out.drew
      have HG7 : Hid (Grow w w6.drew) := HG6.out.trans (Grow.of_drew _)
      have HZ7 : Hid (ZN w6.drew w6.drew.heap.size Ay S.length cy S) := HZ7
      generalize w6.drew = w7 at HX HCv HZ7 HG7 ⊢
      clear HF6 HG6 HZ6
      repeat (refine chain_take rfl (by rfl) ?_ (fun W hG => ?_) ?_; rotate_left; (obtain ⟨q1, q2⟩ := HX.out W hG; have q3 := HCv.out W hG; go_simp; rfl); simp only [Act.put, List.setIfInBounds_toArray, List.set_cons_zero, List.set_cons_succ])
      clear HX HCv
      refine chain_only rfl (by rfl) (fun K hK => ?_)
      go_simp
      refine (HPk.out S HBl.out _ _ _ _ HZ7.out).mono ?_
      rintro e w8 ⟨Ad, cd, rfl, hod, hg8⟩
      refine hK _ _ hg8 ?_
      clear hK K
      rw [HBl.out.1] at hod
      rw [HBl.out.1]
      have HCw := Lib.hid (hod.rb.conv (Nat.le_refl _))
      have HG8 : Hid (Grow w w8) := HG7.out.trans hg8
      clear hod hg8 HG7 HPk HBl HZ7
      repeat (refine chain_take rfl (by rfl) ?_ (fun W hG => ?_) ?_; rotate_left; (have q1 := HCw.out W hG; go_simp; rfl); simp only [Act.put, List.setIfInBounds_toArray, List.set_cons_zero, List.set_cons_succ])
      refine chain_done ?_
      clear HCw
      go_wp2
      go_ret
      exact ⟨rfl, HG8.out⟩
    · have HG6 : Hid (Grow w w6) := HG5.out.trans hg6
      rcases he with ⟨h0, -⟩ | ⟨-, be, rfl, -⟩
      · exact absurd h0 hr
      clear hr hg6 HF5 HG5 HA2 HBk HPk
      go_wp2_with fail
      refine wp_region_chain [(0, true), (1, true), (2, true), (3, true), (4, true), (5, true), (6, true), (9, true), (10, true), (7, false), (8, true), (11, true), (12, true), (13, true), (14, true)] (by kernel_rfl) (by kernel_rfl) (by kernel_rfl) ?_
      have HG7 : Hid (Grow w w6.drew) := HG6.out.trans (Grow.of_drew _)
      generalize w6.drew = w7 at HG7 ⊢
      clear HG6
      iterate 5 (refine chain_take rfl (by rfl) ?_ (fun W hG => ?_) ?_; rotate_left; (go_simp; rfl); simp only [Act.put, List.setIfInBounds_toArray, List.set_cons_zero, List.set_cons_succ])
      iterate 4 (refine chain_skip rfl (by rfl) ?_; simp only [Act.put, List.setIfInBounds_toArray, List.set_cons_zero, List.set_cons_succ])
      refine chain_none rfl (by rfl) ?_; simp only [Act.put, List.setIfInBounds_toArray, List.set_cons_zero, List.set_cons_succ]
      iterate 2 (refine chain_skip rfl (by rfl) ?_; simp only [Act.put, List.setIfInBounds_toArray, List.set_cons_zero, List.set_cons_succ])
      repeat (refine chain_take rfl (by rfl) ?_ (fun W hG => ?_) ?_; rotate_left; (go_simp; rfl); simp only [Act.put, List.setIfInBounds_toArray, List.set_cons_zero, List.set_cons_succ])
      refine chain_done ?_
      go_wp2
      go_ret
      exact ⟨rfl, HG7.out⟩
end Go.Proofs.Ytheekcjpphcihaa
