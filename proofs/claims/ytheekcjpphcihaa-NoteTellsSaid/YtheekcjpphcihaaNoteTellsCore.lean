/-
  The walk of bezantlaw11.NoteTells: at any notes and bytes it returns true, and nothing that was there has changed.
-/
import Derived.Test.YtheekcjpphcihaaUp11
import Derived.Test.YtheekcjpphcihaaNtSmall
import Derived.Test.YtheekcjpphcihaaNtSame
import Derived.Test.YtheekcjpphcihaaRefPutNotes
import Derived.Test.YtheekcjpphcihaaRefNotes
namespace Go.Proofs.Ytheekcjpphcihaa
open Go.RowKit

set_option maxRecDepth 100000 in
set_option maxHeartbeats 4000000 in
theorem noteTells_core (A : Option Addr) (n c : Nat) (L : List Nt) (wide big : Bool) (A2 : Option Addr) (n2 c2 : Nat) (l : List UInt8) (w : World)
    (h : ZN w w.heap.size A n c L) (hty : ∀ s ∈ L, s.typ < 4294967296) (h2 : RB w w.heap.size A2 n2 c2 l) :
    Calls Try.prog 3 #[.slice A n c, .agg #[.bool wide, .bool big], .slice A2 n2 c2] w fun e w' => e = .returned (.bool true) ∧ Below w.heap.size w w' := by
  have HS := Lib.hid h
  have HR2 := Lib.hid h2
  have hn2 := h2.len
  have HSm := Lib.hid (fun W (h : ZN W W.heap.size A n c L) => small_any A n c L _ W h)
  clear h h2
  generalize hI : ntSmI L = I at HSm
  by_cases hsm : ntSm L = true ∧ n2 ≤ 5000
  rotate_left
  · have hI2 : I = 0 ∨ (I = 1 ∧ 5000 < n2) := by
      by_cases h : ntSm L = true
      · exact .inr ⟨by rw [← hI, ntSmI_yes h], Nat.lt_of_not_le fun h2 => hsm ⟨h, h2⟩⟩
      · exact .inl (by rw [← hI]; exact ntSmI_no (by simpa using h))
    clear hI hsm hn2 hty
    rcases hI2 with rfl | ⟨rfl, h5⟩
    · go_enter Try.func3, Try.ntmps3
      go_wp2_with fail
      refine (up11_any _).mono ?_
      rintro e w1 ⟨rfl, hg1⟩
      have HG1 : Hid (Grow w w1) := (Grow.of_alloc _ _).trans hg1
      clear hg1
      go_wp2_with fail
      refine (HSm.out _ (HS.out.grow HG1.out)).mono ?_
      rintro e w' ⟨rfl, rfl⟩
      clear HSm HS HR2
      go_wp2
      go_ret
      exact ⟨rfl, HG1.out⟩
    · have d2 : decide (5000 < (n2 : Int)) = true := decide_eq_true (by omega)
      clear h5
      go_enter Try.func3, Try.ntmps3
      go_wp2_with fail
      refine (up11_any _).mono ?_
      rintro e w1 ⟨rfl, hg1⟩
      have HG1 : Hid (Grow w w1) := (Grow.of_alloc _ _).trans hg1
      clear hg1
      go_wp2_with fail
      refine (HSm.out _ (HS.out.grow HG1.out)).mono ?_
      rintro e w' ⟨rfl, rfl⟩
      clear HSm HS HR2
      go_wp2
      go_ret
      exact ⟨rfl, HG1.out⟩
  · obtain ⟨hsm1, h5⟩ := hsm
    obtain ⟨hb, -, hfew⟩ := ntSm_len hsm1 big
    obtain rfl : I = 1 := by rw [← hI, ntSmI_yes hsm1]
    have hok : ∀ s ∈ L, s.Ok := fun s hs => ⟨by have := (hfew s hs).1; omega, by have := (hfew s hs).2; omega, hty s hs⟩
    have hl : l.length ≤ 5000 := by omega
    have d2 : decide (5000 < (n2 : Int)) = false := decide_eq_false (by omega)
    have HP := Lib.hid (fun W (h : ZN W W.heap.size A n c L) => nPut_any A n c L hok wide big hb W h)
    have HQ := Lib.hid (fun W (h : ZN W W.heap.size A n c L) => rPutN_any A n c L hok wide big hb W h)
    have HA := Lib.hid (fun W (h : RB W W.heap.size A2 n2 c2 l) => nAll_any A2 n2 c2 l wide big W h (by omega))
    have HB := Lib.hid (fun W (h : RB W W.heap.size A2 n2 c2 l) => rAllN_any A2 n2 c2 l wide big W h (by omega))
    obtain ⟨hat, hbd, -⟩ := ntRest_at l big l.length 0 (by omega)
    unfold NPut at HP HQ
    unfold NAll at HA
    unfold RNAll at HB
    generalize ntsB big L = P at HP HQ
    generalize ntRest l big 0 = S at HA HB hat hbd
    obtain ⟨S, bd, at'⟩ := S
    simp only [] at HA HB hat hbd
    have hat2 : at' ≤ 5000 := Nat.le_trans hat hl
    clear hn2 hI hsm1 h5 hb hfew hok hl hat hty
    go_enter Try.func3, Try.ntmps3
    go_wp2_with fail
    generalize hW : World.alloc _ _ = W0
    obtain ⟨bf, hg0⟩ := blk1 hW
    clear hW
    refine (up11_any _).mono ?_
    rintro e w1 ⟨rfl, hg1⟩
    have HF1 := Lib.hid (bf.grow hg1)
    have HG1 : Hid (Grow w w1) := hg0.trans hg1
    clear hg1 bf hg0
    go_wp2_with fail
    refine (HSm.out _ (HS.out.grow HG1.out)).mono ?_
    rintro e w' ⟨rfl, rfl⟩
    clear HSm
    obtain ⟨f0, f1⟩ := HF1.out.c2
    go_wp2_with fail
    clear f0 f1 d2
    refine (HA.out _ (HR2.out.grow HG1.out)).mono ?_
    rintro e w5 (⟨hr, Ax, cx, rfl, hzx, hg5⟩ | ⟨hr, er, rfl, he, hg5⟩)
    case' inl =>
      have HZ5 := Lib.hid hzx
      have HF5 := Lib.hid (HF1.out.grow hg5)
      have HG5 : Hid (Grow w w5) := HG1.out.trans hg5
      clear hg5 hzx HF1 HG1 HA
      obtain ⟨f0, f1⟩ := HF5.out.c2
      go_wp2_with fail
      clear f0 f1
      refine (HB.out _ (HR2.out.grow HG5.out)).mono ?_
      rintro e w6 (⟨-, Ay, cy, rfl, hzy, hg6⟩ | ⟨hno, -⟩)
      rotate_left
      · exact absurd hr hno
      have HSm : Hid (∀ W, Grow w6 W → Calls Try.prog 10 #[.slice Ax S.length cx, .slice Ay S.length cy] W fun e w' => e = .returned (.bool true) ∧ Grow W w') := Lib.hid (fun W hW => sameN_any _ _ _ _ _ _ S _ ((HZ5.out.grow hg6).grow hW) (hzy.grow hW))
      have HF6 := Lib.hid (HF5.out.grow hg6)
      have HG6 : Hid (Grow w w6) := HG5.out.trans hg6
      clear hg6 hzy hr HZ5 HF5 HG5 HB hbd
      go_wp2_with fail
      refine (spot_any .nilIface 0 0 _ (.inl ⟨rfl, rfl, rfl⟩) (by omega) (by omega)).mono ?_
      rintro e w7 ⟨rfl, hg7⟩
      have HSm7 := Lib.hid (fun W (hW : Grow w7 W) => HSm.out W (hg7.trans hW))
      have HF7 := Lib.hid (HF6.out.grow hg7)
      have HG7 : Hid (Grow w w7) := HG6.out.trans hg7
      clear hg7 HF6 HG6 HSm
    case' inr =>
      have HE5 := Lib.hid he
      have HF5 := Lib.hid (HF1.out.grow hg5)
      have HG5 : Hid (Grow w w5) := HG1.out.trans hg5
      clear hg5 he HF1 HG1 HA
      obtain ⟨f0, f1⟩ := HF5.out.c2
      go_wp2_with fail
      clear f0 f1
      refine (HB.out _ (HR2.out.grow HG5.out)).mono ?_
      rintro e w6 (⟨hno, -⟩ | ⟨-, rfl, hg6⟩)
      · exact absurd hno hr
      have HE6 := Lib.hid (HE5.out.grow hg6)
      have HF6 := Lib.hid (HF5.out.grow hg6)
      have HG6 : Hid (Grow w w6) := HG5.out.trans hg6
      clear hg6 hr HE5 HF5 HG5 HB
      go_wp2_with fail
      refine (spot_any er bd at' _ HE6.out (by omega) (by omega)).mono ?_
      rintro e w7 ⟨rfl, hg7⟩
      have HSm7 : Hid (∀ W, Grow w7 W → Calls Try.prog 10 #[.slice none 0 0, .slice none 0 0] W fun e w' => e = .returned (.bool true) ∧ Grow W w') := Lib.hid (fun W _ => sameN_any none none 0 0 0 0 [] W ZN.nil ZN.nil)
      have HF7 := Lib.hid (HF6.out.grow hg7)
      have HG7 : Hid (Grow w w7) := HG6.out.trans hg7
      clear hg7 HE6 HF6 HG6 hbd
    all_goals
      go_wp2_with fail
      refine (HSm7.out _ (Grow.refl _)).mono ?_
      rintro e w8 ⟨rfl, hg8⟩
      have HF8 := Lib.hid (HF7.out.grow hg8)
      have HG8 : Hid (Grow w w8) := HG7.out.trans hg8
      clear hg8 HF7 HG7 HSm7
      go_wp2_with fail
      refine wp_region_chain [(0, true), (1, true), (2, true), (3, true), (6, true), (7, true), (4, false), (5, true), (8, false), (9, true), (10, true), (11, true), (12, true), (13, true), (14, true), (15, true), (16, true), (17, true), (18, true), (19, true), (20, true), (21, true), (22, true), (23, true), (24, true), (25, true)] (by kernel_rfl) (by kernel_rfl) (by kernel_rfl) ?_
      have HX : Hid (∀ W, Grow w8.drew W → _ ∧ _) := fun W hW => ((HF8.out.drew).grow hW).c2
      have HG9 : Hid (Grow w w8.drew) := HG8.out.trans (Grow.of_drew _)
      generalize w8.drew = w9 at HX HG9 ⊢
      clear HF8 HG8
      repeat (refine chain_take rfl (by rfl) ?_ (fun W hG => ?_) ?_; rotate_left; (obtain ⟨q1, q2⟩ := HX.out W hG; go_simp; rfl); simp only [Act.put, List.setIfInBounds_toArray, List.set_cons_zero, List.set_cons_succ])
      clear HX
      refine chain_only rfl (by rfl) (fun K hK => ?_)
      go_simp
      refine (HP.out _ (HS.out.grow HG9.out)).mono ?_
      rintro e w10 ⟨Ac, cc, rfl, hoc, hg10⟩
      refine hK _ _ hg10 ?_
      clear hK K
      have HC10 := Lib.hid hoc.rb
      have HG10 : Hid (Grow w w10) := HG9.out.trans hg10
      clear hoc hg10 HG9 HP
      have hcv := HC10.out.conv (Nat.le_refl _)
      have HCv := Lib.hid hcv
      clear hcv
      repeat (refine chain_take rfl (by rfl) ?_ (fun W hG => ?_) ?_; rotate_left; (have q1 := HCv.out W hG; go_simp; rfl); simp only [Act.put, List.setIfInBounds_toArray, List.set_cons_zero, List.set_cons_succ])
      clear HCv HC10
      refine chain_only rfl (by rfl) (fun K hK => ?_)
      go_simp
      refine (HQ.out _ (HS.out.grow HG10.out)).mono ?_
      rintro e w11 ⟨Ad, cd, rfl, hod, hg11⟩
      refine hK _ _ hg11 ?_
      clear hK K
      have HCw := Lib.hid (hod.rb.conv (Nat.le_refl _))
      have HG11 : Hid (Grow w w11) := HG10.out.trans hg11
      clear hod hg11 HG10 HQ
      repeat (refine chain_take rfl (by rfl) ?_ (fun W hG => ?_) ?_; rotate_left; (have q1 := HCw.out W hG; go_simp; rfl); simp only [Act.put, List.setIfInBounds_toArray, List.set_cons_zero, List.set_cons_succ])
      refine chain_done ?_
      clear HCw
      go_wp2
      go_ret
      exact ⟨rfl, HG11.out⟩
end Go.Proofs.Ytheekcjpphcihaa
