/-
  The walk of bezantlaw13.VerTells: at any definitions, needs and bytes it returns true, and nothing that was there has changed.
-/
import Derived.Test.YtfnaigeakfgpbaaUp13
import Derived.Test.YtfnaigeakfgpbaaVeSmall
import Derived.Test.YtfnaigeakfgpbaaVeSame
import Derived.Test.YtfnaigeakfgpbaaVePutN
import Derived.Test.YtfnaigeakfgpbaaRefPutD
import Derived.Test.YtfnaigeakfgpbaaRefPutN
import Derived.Test.YtfnaigeakfgpbaaRefAllD
import Derived.Test.YtfnaigeakfgpbaaRefAllN
import Derived.Test.YtfnaigeakfgpbaaErr
import Derived.Test.YtfnaigeakfgpbaaConv
import Derived.Test.YtfnaigeakfgpbaaCut
namespace Go.Proofs.Ytfnaigeakfgpbaa
open Go.RowKit

set_option maxRecDepth 100000 in
set_option maxHeartbeats 8000000 in
theorem verTells_core (A : Option Addr) (n c : Nat) (L : List Ve) (A' : Option Addr) (n' c' : Nat) (M : List Ve) (big : Bool) (A2 : Option Addr) (n2 c2 : Nat) (l : List UInt8) (w : World)
    (h : ZV vmD w w.heap.size A n c L) (ok : ∀ e ∈ L, e.Ok vkD) (h' : ZV vmN w w.heap.size A' n' c' M) (ok' : ∀ e ∈ M, e.Ok vkN) (h2 : RB w w.heap.size A2 n2 c2 l) :
    Calls Try.prog 3 #[.slice A n c, .slice A' n' c', .bool big, .slice A2 n2 c2] w fun e w' => e = .returned (.bool true) ∧ Below w.heap.size w w' := by
  have HS := Lib.hid h
  have HS' := Lib.hid h'
  have HR2 := Lib.hid h2
  have hn := h.len
  have hn' := h'.len
  have hn2 := h2.len
  have HSm := Lib.hid (fun W (h : ZV vmD W W.heap.size A n c L) (h' : ZV vmN W W.heap.size A' n' c' M) => small_any A A' n c n' c' L M _ W h h')
  clear h h' h2
  generalize hI : veSmI L M = I at HSm
  by_cases hsm : veSm L M = true ∧ n2 ≤ 5000
  rotate_left
  · have hI2 : I = 0 ∨ (I = 1 ∧ 5000 < n2) := by
      by_cases h : veSm L M = true
      · exact .inr ⟨by rw [← hI, veSmI_yes h], Nat.lt_of_not_le fun h2 => hsm ⟨h, h2⟩⟩
      · exact .inl (by rw [← hI]; exact veSmI_no (by simpa using h))
    clear hI hsm hn hn' hn2 ok ok'
    rcases hI2 with rfl | ⟨rfl, h5⟩
    · go_enter Try.func3, Try.ntmps3
      go_wp2_with fail
      refine (up13_any _).mono ?_
      rintro e w1 ⟨rfl, hg1⟩
      have HG1 := Lib.hid hg1
      clear hg1
      go_wp2_with fail
      refine (HSm.out _ (HS.out.grow HG1.out) (HS'.out.grow HG1.out)).mono ?_
      rintro e w' ⟨rfl, rfl⟩
      clear HSm HS HS' HR2
      go_wp2
      go_ret
      exact ⟨rfl, HG1.out⟩
    · have d2 : decide (5000 < (n2 : Int)) = true := decide_eq_true (by omega)
      clear h5
      go_enter Try.func3, Try.ntmps3
      go_wp2_with fail
      refine (up13_any _).mono ?_
      rintro e w1 ⟨rfl, hg1⟩
      have HG1 := Lib.hid hg1
      clear hg1
      go_wp2_with fail
      refine (HSm.out _ (HS.out.grow HG1.out) (HS'.out.grow HG1.out)).mono ?_
      rintro e w' ⟨rfl, rfl⟩
      clear HSm HS HS' HR2
      go_wp2
      go_ret
      exact ⟨rfl, HG1.out⟩
  · obtain ⟨hsm1, h5⟩ := hsm
    have hsp := hsm1
    unfold veSm at hsp
    rw [Bool.and_eq_true] at hsp
    have hbD := veSm1_len (K := vkD) (.inl rfl) big hsp.1
    have hbN := veSm1_len (K := vkN) (.inr rfl) big hsp.2
    have hn40 := (veSm1_of hsp.1).1
    have hn40' := (veSm1_of hsp.2).1
    obtain rfl : I = 1 := by rw [← hI, veSmI_yes hsm1]
    have d2 : decide (5000 < (n2 : Int)) = false := decide_eq_false (by omega)
    have HP := Lib.hid (fun W (h : ZV vmD W W.heap.size A n c L) => (putD_any A n c L ok big hbD (by omega) W h).mono fun e w' h => vput_uni h)
    have HQ := Lib.hid (fun W (h : ZV vmD W W.heap.size A n c L) => (rputD_any A n c L ok big hbD (by omega) W h).mono fun e w' h => rput_uni h)
    have HP' := Lib.hid (fun W (h : ZV vmN W W.heap.size A' n' c' M) => (putN_any A' n' c' M ok' big hbN (by omega) W h).mono fun e w' h => vput_uni h)
    have HQ' := Lib.hid (fun W (h : ZV vmN W W.heap.size A' n' c' M) => (rputN_any A' n' c' M ok' big hbN (by omega) W h).mono fun e w' h => rput_uni h)
    obtain ⟨b1, b2, b3⟩ := vAns_bd vkD l big
    obtain ⟨b1', b2', b3'⟩ := vAns_bd vkN l big
    have HA := Lib.hid (fun W (h : RB W W.heap.size A2 n2 c2 l) => (defs_any A2 n2 c2 l big W h (by omega)).mono fun e w' h => vall_uni h b3)
    have HB := Lib.hid (fun W (h : RB W W.heap.size A2 n2 c2 l) => (rallD_any A2 n2 c2 l big W h (by omega)).mono fun e w' h => rall_uni h b3)
    have HA' := Lib.hid (fun W (h : RB W W.heap.size A2 n2 c2 l) => (needs_any A2 n2 c2 l big W h (by omega)).mono fun e w' h => vall_uni h b3')
    have HB' := Lib.hid (fun W (h : RB W W.heap.size A2 n2 c2 l) => (rallN_any A2 n2 c2 l big W h (by omega)).mono fun e w' h => rall_uni h b3')
    have hl5 : l.length ≤ 5000 := by omega
    rw [show vmD.K = vkD from rfl] at HP HQ
    rw [show vmN.K = vkN from rfl] at HP' HQ'
    generalize putX vkD L big = X at HP HQ
    generalize putX vkN M big = X' at HP' HQ'
    generalize VMays L = bD at HP HQ
    generalize VMays M = bN at HP' HQ'
    generalize vAns vkD l big = S at HA HB b1 b2
    generalize vAns vkN l big = S' at HA' HB' b1' b2'
    generalize allX S = T at HA HB
    generalize allX S' = T' at HA' HB'
    obtain ⟨S0, bd, at0⟩ := S
    obtain ⟨S0', bd', at0'⟩ := S'
    simp only [] at HA HB HA' HB' b1 b2 b1' b2'
    have b4 : bd < 100 ∧ at0 < 100000 := by omega
    have b4' : bd' < 100 ∧ at0' < 100000 := by omega
    clear hn hn' hn2 hI hsm1 h5 hsp hbD hbN hn40 hn40' hl5 ok ok' b1 b2 b3 b1' b2' b3'
    go_enter Try.func3, Try.ntmps3
    go_wp2_with fail
    refine (up13_any _).mono ?_
    rintro e w1 ⟨rfl, hg1⟩
    have HG1 := Lib.hid hg1
    clear hg1
    go_wp2_with fail
    refine (HSm.out _ (HS.out.grow HG1.out) (HS'.out.grow HG1.out)).mono ?_
    rintro e w' ⟨rfl, rfl⟩
    clear HSm
    go_wp2_with fail
    clear d2
    refine (HP.out _ (HS.out.grow HG1.out)).mono ?_
    rintro e w2 ⟨Ac, cc, rfl, hr, hg2⟩
    have HR1 := Lib.hid hr
    have HG2 : Hid (Grow w w2) := HG1.out.trans hg2
    clear hr hg2 HG1 HP
    go_wp2_with fail
    refine (HQ.out _ (HS.out.grow HG2.out)).mono ?_
    rintro e w3 ⟨Ad, cd, rfl, hr, hg3⟩
    have HV3 := Lib.hid ((HR1.out.belowAt hg3 (Nat.le_refl _)).more hg3.size)
    have HW3 := Lib.hid hr
    have HG3 : Hid (Grow w w3) := HG2.out.trans hg3
    clear hr hg3 HG2 HQ HR1
    go_wp2_with fail
    refine (HP'.out _ (HS'.out.grow HG3.out)).mono ?_
    rintro e w4 ⟨Ae, ce, rfl, hr, hg4⟩
    have HV4 := Lib.hid ((HV3.out.belowAt hg4 (Nat.le_refl _)).more hg4.size)
    have HW4 := Lib.hid ((HW3.out.belowAt hg4 (Nat.le_refl _)).more hg4.size)
    have HX4 := Lib.hid hr
    have HG4 : Hid (Grow w w4) := HG3.out.trans hg4
    clear hr hg4 HG3 HP' HV3 HW3
    go_wp2_with fail
    rename_i K hK K2 hK2
    have HK := Lib.hid hK
    clear hK
    refine (HQ'.out _ (HS'.out.grow HG4.out)).mono ?_
    rintro e w5 ⟨Af, cf, rfl, hr, hg5⟩
    have HV5 := Lib.hid (((HV4.out.belowAt hg5 (Nat.le_refl _)).more hg5.size).conv (Nat.le_refl _) w5 (Grow.refl _))
    have HW5 := Lib.hid (((HW4.out.belowAt hg5 (Nat.le_refl _)).more hg5.size).conv (Nat.le_refl _) w5 (Grow.refl _))
    have HX5 := Lib.hid (((HX4.out.belowAt hg5 (Nat.le_refl _)).more hg5.size).conv (Nat.le_refl _) w5 (Grow.refl _))
    have HY5 := Lib.hid (hr.conv (Nat.le_refl _) w5 (Grow.refl _))
    have HG5 : Hid (Grow w w5) := HG4.out.trans hg5
    clear hr hg5 HG4 HQ' HV4 HW4 HX4 HS HS'
    go_wp2_with fail
    apply HK.out
    clear HK K
    apply wp_seq_k
    intro K hK
    refine wp_cut (fun a a' w' => w5 = w' ∧ a' = ⟨(a.tmps.toList.take 66 ++ (a'.tmps.toList.drop 66).take 44 ++ a.tmps.toList.drop 110).toArray, a.defers⟩ ∧ ((a'.tmps.toList.drop 66).take 44).length = 44) ?_ ?_
    · have q1 := HV5.out
      have q2 := HW5.out
      have q3 := HX5.out
      have q4 := HY5.out
      clear HA HB HA' HB' b4 b4' HR2 HG5 hK K
      have HC1 := Lib.hid (fun w => (code13_some 1 (by decide) (by decide) w : Calls Try.prog 11 #[.iface 60 (.int .i64 1)] w _))
      unfold putE
      cases bD
      · cases bN
        · simp only [Bool.false_eq_true, if_false]
          go_wp2_with fail
          refine (HC1.out _).mono ?_
          rintro e w' ⟨rfl, rfl⟩
          go_wp2_with fail
          refine (HC1.out _).mono ?_
          rintro e w' ⟨rfl, rfl⟩
          go_wp2
          done
        · simp only [Bool.false_eq_true, if_false, if_true]
          go_wp2_with fail
          refine (HC1.out _).mono ?_
          rintro e w' ⟨rfl, rfl⟩
          go_wp2
          done
      · cases bN
        · simp only [Bool.false_eq_true, if_false, if_true]
          go_wp2_with fail
          refine (HC1.out _).mono ?_
          rintro e w' ⟨rfl, rfl⟩
          go_wp2
          done
        · simp only [if_true]
          go_wp2
          done
    · rintro a' w' ⟨rfl, ha, hl⟩
      generalize (a'.tmps.toList.drop 66).take 44 = vs at ha hl
      obtain ⟨x0, x1, x2, x3, x4, x5, x6, x7, x8, x9, x10, x11, x12, x13, x14, x15, x16, x17, x18, x19, x20, x21, x22, x23, x24, x25, x26, x27, x28, x29, x30, x31, x32, x33, x34, x35, x36, x37, x38, x39, x40, x41, x42, x43, rfl⟩ := list44 hl
      subst ha
      clear hl HV5 HW5 HX5 HY5
      apply hK
      clear hK K
      simp only [List.take_succ_cons, List.take_zero, List.drop_succ_cons, List.drop_zero, List.cons_append, List.nil_append]
      go_wp2_with fail
      refine (HA.out _ (HR2.out.grow HG5.out)).mono ?_
      rintro e w6 ⟨Ax, cx, er, rfl, hz, he, hg6⟩
      have HZ6 := Lib.hid hz
      have HE6 := Lib.hid he
      have HG6 : Hid (Grow w w6) := HG5.out.trans hg6
      clear hz he hg6 HG5 HA
      go_wp2_with fail
      refine (HB.out _ (HR2.out.grow HG6.out)).mono ?_
      rintro e w7 ⟨Ay, cy, rfl, hz, hg7⟩
      have HZ7 := Lib.hid (HZ6.out.grow hg7)
      have HE7 := Lib.hid (HE6.out.grow hg7)
      have HY7 := Lib.hid hz
      have HG7 : Hid (Grow w w7) := HG6.out.trans hg7
      clear hz hg7 HG6 HB HZ6 HE6
      go_wp2_with fail
      refine (spot_any er bd at0 _ HE7.out b4.1 b4.2).mono ?_
      rintro e w8 ⟨rfl, hg8⟩
      have HZ8 := Lib.hid (HZ7.out.grow hg8)
      have HY8 := Lib.hid (HY7.out.grow hg8)
      have HG8 : Hid (Grow w w8) := HG7.out.trans hg8
      clear hg8 HG7 HZ7 HE7 HY7 b4
      go_wp2_with fail
      refine (sameD_any _ _ _ _ _ _ T _ HZ8.out HY8.out).mono ?_
      rintro e w9 ⟨rfl, hg9⟩
      have HG9 : Hid (Grow w w9) := HG8.out.trans hg9
      clear hg9 HG8 HZ8 HY8
      go_wp2_with fail
      refine (HA'.out _ (HR2.out.grow HG9.out)).mono ?_
      rintro e w6 ⟨Ax', cx', er', rfl, hz, he, hg6⟩
      have HZ6 := Lib.hid hz
      have HE6 := Lib.hid he
      have HG6 : Hid (Grow w w6) := HG9.out.trans hg6
      clear hz he hg6 HG9 HA'
      go_wp2_with fail
      refine (HB'.out _ (HR2.out.grow HG6.out)).mono ?_
      rintro e w7 ⟨Ay', cy', rfl, hz, hg7⟩
      have HZ7 := Lib.hid (HZ6.out.grow hg7)
      have HE7 := Lib.hid (HE6.out.grow hg7)
      have HY7 := Lib.hid hz
      have HG7 : Hid (Grow w w7) := HG6.out.trans hg7
      clear hz hg7 HG6 HB' HZ6 HE6 HR2
      go_wp2_with fail
      refine (spot_any er' bd' at0' _ HE7.out b4'.1 b4'.2).mono ?_
      rintro e w8 ⟨rfl, hg8⟩
      have HZ8 := Lib.hid (HZ7.out.grow hg8)
      have HY8 := Lib.hid (HY7.out.grow hg8)
      have HG8 : Hid (Grow w w8) := HG7.out.trans hg8
      clear hg8 HG7 HZ7 HE7 HY7 b4'
      go_wp2_with fail
      refine (sameN_any _ _ _ _ _ _ T' _ HZ8.out HY8.out).mono ?_
      rintro e w9 ⟨rfl, hg9⟩
      have HG9 : Hid (Grow w w9) := HG8.out.trans hg9
      clear hg9 HG8 HZ8 HY8
      go_wp2
      go_ret
      exact ⟨rfl, HG9.out⟩
end Go.Proofs.Ytfnaigeakfgpbaa
