/-
  The walk of bezantlaw09.RelTells: at any relocations and bytes it returns true, and nothing that was there has changed.
-/
import Derived.Test.YtkgjebkjpcpoaaaUp9
import Derived.Test.YtkgjebkjpcpoaaaReAll
import Derived.Test.YtkgjebkjpcpoaaaReSame
import Derived.Test.YtkgjebkjpcpoaaaRefPutRels
import Derived.Test.YtkgjebkjpcpoaaaRefRels
import Derived.Test.YtkgjebkjpcpoaaaCode
import Derived.Test.YtkgjebkjpcpoaaaConv
namespace Go.Proofs.Ytkgjebkjpcpoaaa
open Go.RowKit

set_option maxRecDepth 100000 in
set_option maxHeartbeats 2000000 in
theorem relTells_core (A : Option Addr) (n c : Nat) (L : List Re) (wide big adds : Bool) (A2 : Option Addr) (n2 c2 : Nat) (l : List UInt8) (w : World)
    (h : ZS w w.heap.size 4 A n c (L.map Re.C)) (hok : ∀ s ∈ L, s.Ok) (h2 : RB w w.heap.size A2 n2 c2 l) :
    Calls Try.prog 3 #[.slice A n c, .agg #[.bool wide, .bool big], .bool adds, .slice A2 n2 c2] w fun e w' => e = .returned (.bool true) ∧ Below w.heap.size w w' := by
  have hn : n = L.length := by have := h.len; simpa using this
  have hn2 := h2.len
  have HS := Lib.hid h
  have HR2 := Lib.hid h2
  clear h h2
  by_cases hbig : 100 < n ∨ 5000 < n2
  · clear hn hn2 hok
    by_cases b1 : 100 < n
    · have d1 : decide (100 < (n : Int)) = true := decide_eq_true (by omega)
      clear hbig
      go_enter Try.func3, Try.ntmps3
      go_wp2_with (go_at_call 5; refine (up9_any _).mono ?_; rintro e w1 ⟨rfl, hb1⟩; have HB := Lib.hid hb1; clear hb1)
      go_ret
      exact ⟨rfl, (Grow.of_alloc _ _).trans HB.out⟩
    have d1 : decide (100 < (n : Int)) = false := decide_eq_false (by omega)
    have d2 : decide (5000 < (n2 : Int)) = true := decide_eq_true (by omega)
    clear hbig
    go_enter Try.func3, Try.ntmps3
    go_wp2_with (go_at_call 5; refine (up9_any _).mono ?_; rintro e w1 ⟨rfl, hb1⟩; have HB := Lib.hid hb1; clear hb1)
    go_ret
    exact ⟨rfl, (Grow.of_alloc _ _).trans HB.out⟩
  · have d1 : decide (100 < (n : Int)) = false := decide_eq_false (by omega)
    have d2 : decide (5000 < (n2 : Int)) = false := decide_eq_false (by omega)
    have hL : L.length ≤ 1000 := by omega
    have hl : l.length ≤ 5000 := by omega
    have HP := Lib.hid (fun W (h : ZS W W.heap.size 4 A n c (L.map Re.C)) => ePut_any A n c L hok hL wide adds big W h)
    have HQ := Lib.hid (fun W (h : ZS W W.heap.size 4 A n c (L.map Re.C)) => rPutE_any A n c L hok hL wide adds big W h)
    have HA := Lib.hid (fun W (h : RB W W.heap.size A2 n2 c2 l) => eAll_any A2 n2 c2 l wide adds big W h (by omega))
    have HB := Lib.hid (fun W (h : RB W W.heap.size A2 n2 c2 l) => rAllE_any A2 n2 c2 l wide adds big W h (by omega))
    have HW := Lib.hid (fun W => rWord_any wide big W)
    have HZ := Lib.hid (fun W => reSize_any wide big adds W)
    unfold EPut at HP
    unfold RPutE at HQ
    unfold EAll at HA
    unfold RAllE at HB
    have hpl : l.length - l.length % reSize wide adds ≤ 5000 := by omega
    have HE2 : Hid (adds = false → 2 * reW wide = reSize wide adds) := Lib.hid (by rintro rfl; rfl)
    have HE3 : Hid (adds = true → 3 * reW wide = reSize wide adds) := Lib.hid (by rintro rfl; rfl)
    have hw8 : reW wide ≤ 8 := by cases wide <;> decide
    generalize mays wide adds L = rf at HP HQ
    generalize rowB big (relQ wide adds L) = P at HP HQ
    generalize l.length - l.length % reSize wide adds = pl at HA HB hpl
    generalize l.length % reSize wide adds = r at HA HB
    generalize l.length / reSize wide adds = m at HA HB
    generalize rels l wide adds big = S at HA HB
    generalize L.map Re.C = M at HS HP HQ
    generalize reSize wide adds = sz at HZ HE2 HE3
    obtain ⟨w2, hw2⟩ : ∃ x, x = 2 * reW wide := ⟨_, rfl⟩
    obtain ⟨w3, hw3⟩ : ∃ x, x = 3 * reW wide := ⟨_, rfl⟩
    rw [← hw2] at HE2
    rw [← hw3] at HE3
    generalize reW wide = wd at HW hw8 hw2 hw3
    have z2 : IntKind.i64.wrap (2 * (wd : Int)) = (w2 : Int) := by rw [IntKind.wrap_i64]; omega
    have z3 : IntKind.i64.wrap (3 * (wd : Int)) = (w3 : Int) := by rw [IntKind.wrap_i64]; omega
    have Z2 := Lib.hid z2
    have Z3 := Lib.hid z3
    clear hn hn2 hbig hL hl hok hw2 hw3 hw8 z2 z3
    go_enter Try.func3, Try.ntmps3
    go_wp2_with fail
    generalize hW : World.alloc _ _ = W0
    obtain ⟨bf, hg0⟩ := blk1 hW
    clear hW
    refine (up9_any _).mono ?_
    rintro e w1 ⟨rfl, hg1⟩
    have HF1 := Lib.hid (bf.grow hg1)
    have HG1 : Hid (Grow w w1) := hg0.trans hg1
    clear hg1 bf hg0
    obtain ⟨f0, f1⟩ := HF1.out.c2
    go_wp2_with fail
    clear f0 f1
    refine (HP.out _ (HS.out.grow HG1.out)).mono ?_
    rintro e w3 (⟨hrf, Ac, cc, rfl, hoc3, hg3⟩ | ⟨hrf, rfl, hg3⟩)
    case' inl =>
      subst hrf
      have HRC3 := Lib.hid hoc3.rb
      have HF3 := Lib.hid (HF1.out.grow hg3)
      have HG3 : Hid (Grow w w3) := HG1.out.trans hg3
      clear hg3 hoc3 HF1 HG1 HP
      obtain ⟨f0, f1⟩ := HF3.out.c2
      go_wp2_with fail
      clear f0 f1
      refine (HQ.out _ (HS.out.grow HG3.out)).mono ?_
      rintro e w4 (⟨-, Aw, cw, rfl, how4, hg4⟩ | ⟨hno, -, -⟩)
      rotate_left
      · cases hno
      have HF4 := Lib.hid (HF3.out.grow hg4)
      have HG4 : Hid (Grow w w4) := HG3.out.trans hg4
      have HRC4 : Hid (RB w4 w4.heap.size Ac P.length cc P) := HRC3.out.grow hg4
      have HRW4 := Lib.hid how4.rb
      clear how4 hg4 HF3 HG3 HRC3 HQ
      have hs1 := (HRC4.out.conv (Nat.le_refl _)) w4 (Grow.refl _)
      have hs2 := (HRW4.out.conv (Nat.le_refl _)) w4 (Grow.refl _)
      obtain ⟨f0, f1⟩ := HF4.out.c2
      go_wp2_with fail
      clear f0 f1 hs1 hs2 HRC4 HRW4
    case' inr =>
      subst hrf
      have HF3 := Lib.hid (HF1.out.grow hg3)
      have HG3 : Hid (Grow w w3) := HG1.out.trans hg3
      clear hg3 HF1 HG1 HP
      obtain ⟨f0, f1⟩ := HF3.out.c2
      go_wp2_with fail
      clear f0 f1
      refine (HQ.out _ (HS.out.grow HG3.out)).mono ?_
      rintro e w4 (⟨hno, -⟩ | ⟨-, rfl, hg4⟩)
      · cases hno
      have HF4 := Lib.hid (HF3.out.grow hg4)
      have HG4 : Hid (Grow w w4) := HG3.out.trans hg4
      clear hg4 HF3 HG3 HQ
      go_wp2_with fail
      refine (code_some 1 (by omega) (by omega) _).mono ?_
      rintro e wb ⟨rfl, rfl⟩
      obtain ⟨f0, f1⟩ := HF4.out.c2
      go_wp2_with fail
      clear f0 f1
    all_goals
      refine (HA.out _ (HR2.out.grow HG4.out)).mono ?_
      rintro e w5 (⟨hr, Ax, cx, rfl, hzx, hg5⟩ | ⟨hr, er, rfl, he, hg5⟩)
      case' inl =>
        have HZ5 := Lib.hid hzx
        have HF5 := Lib.hid (HF4.out.grow hg5)
        have HG5 : Hid (Grow w w5) := HG4.out.trans hg5
        clear hg5 hzx HF4 HG4 HA
        obtain ⟨f0, f1⟩ := HF5.out.c2
        go_wp2_with fail
        clear f0 f1
        refine (HB.out _ (HR2.out.grow HG5.out)).mono ?_
        rintro e w6 (⟨-, Ay, cy, rfl, hzy, hg6⟩ | ⟨hno, -⟩)
        rotate_left
        · exact absurd hr hno
        have HSm : Hid (∀ W, Grow w6 W → Calls Try.prog 13 #[.slice Ax m cx, .slice Ay m cy] W fun e w' => e = .returned (.int .i64 1) ∧ Grow W w') := Lib.hid (fun W hW => sameR_any _ _ _ _ _ _ S _ _ _ ((HZ5.out.grow hg6).grow hW) (hzy.grow hW))
        have HF6 := Lib.hid (HF5.out.grow hg6)
        have HG6 : Hid (Grow w w6) := HG5.out.trans hg6
        clear hg6 hzy hr HZ5 HF5 HG5 HB
        go_wp2_with fail
        refine (spot_any .nilIface 0 0 _ (.inl ⟨rfl, rfl, rfl⟩) (by omega) (by omega)).mono ?_
        rintro e w7 ⟨rfl, hg7⟩
        have HSm7 := Lib.hid (fun W (hW : Grow w7 W) => HSm.out W (hg7.trans hW))
        have HF7 := Lib.hid (HF6.out.grow hg7)
        have HG7 : Hid (Grow w w7) := HG6.out.trans hg7
        clear hg7 HF6 HG6 HSm
      case' inr =>
        have HE5 := Lib.hid he
        have HF5 := Lib.hid (HF4.out.grow hg5)
        have HG5 : Hid (Grow w w5) := HG4.out.trans hg5
        clear hg5 he HF4 HG4 HA
        obtain ⟨f0, f1⟩ := HF5.out.c2
        go_wp2_with fail
        clear f0 f1
        refine (HB.out _ (HR2.out.grow HG5.out)).mono ?_
        rintro e w6 (⟨hno, -⟩ | ⟨-, rfl, hg6⟩)
        · exact absurd hno hr
        have HE6 := Lib.hid (HE5.out.grow hg6)
        have HF6 := Lib.hid (HF5.out.grow hg6)
        have HG6 : Hid (Grow w w6) := HG5.out.trans hg6
        clear hg6 hr HE5 HF5 HG5 HB
        go_wp2_with fail
        refine (spot_any er 2 pl _ HE6.out (by omega) (by omega)).mono ?_
        rintro e w7 ⟨rfl, hg7⟩
        have HSm7 : Hid (∀ W, Grow w7 W → Calls Try.prog 13 #[.slice none 0 0, .slice none 0 0] W fun e w' => e = .returned (.int .i64 1) ∧ Grow W w') := Lib.hid (fun W _ => sameR_any none none 0 0 0 0 [] 0 0 W ZS.nil ZS.nil)
        have HF7 := Lib.hid (HF6.out.grow hg7)
        have HG7 : Hid (Grow w w7) := HG6.out.trans hg7
        clear hg7 HE6 HF6 HG6
        have p0 : ¬ (pl : Int) < 0 := by omega
        have p1 : (0 : Int) ≤ (pl : Int) := by omega
      all_goals
        obtain ⟨f0, f1⟩ := HF7.out.c2
        go_wp2_with fail
        clear f0 f1
        refine (HW.out _).mono ?_
        rintro e w8 ⟨rfl, hg8⟩
        have HSm8 := Lib.hid (fun W (hW : Grow w8 W) => HSm7.out W (hg8.trans hW))
        have HF8 := Lib.hid (HF7.out.grow hg8)
        have HG8 : Hid (Grow w w8) := HG7.out.trans hg8
        clear hg8 HF7 HG7 HSm7
        cases adds
        case' false =>
          obtain rfl := HE2.out (by first | rfl | trivial)
          have z2 := Z2.out
          go_wp2_with fail
          clear z2
          refine (HSm8.out _ (Grow.refl _)).mono ?_
          rintro e w9 ⟨rfl, hg9⟩
        case' true =>
          obtain rfl := HE3.out (by first | rfl | trivial)
          have z2 := Z2.out
          obtain ⟨f0, f1⟩ := HF8.out.c2
          go_wp2_with fail
          clear f0 f1 z2
          refine (HW.out _).mono ?_
          rintro e w8' ⟨rfl, hg8⟩
          have HSm8' := Lib.hid (fun W (hW : Grow w8' W) => HSm8.out W (hg8.trans hW))
          have HF8' := Lib.hid (HF8.out.grow hg8)
          have HG8' : Hid (Grow w w8') := HG8.out.trans hg8
          clear hg8 HF8 HG8 HSm8
          have HF8 := HF8'
          have HG8 := HG8'
          have z3 := Z3.out
          go_wp2_with fail
          clear z3
          refine (HSm8'.out _ (Grow.refl _)).mono ?_
          rintro e w9 ⟨rfl, hg9⟩
        all_goals
          have HF9 := Lib.hid (HF8.out.grow hg9)
          have HG9 : Hid (Grow w w9) := HG8.out.trans hg9
          clear hg9 HF8 HG8
          obtain ⟨f0, f1⟩ := HF9.out.c2
          go_wp2_with fail
          clear f0 f1
          refine (HZ.out _).mono ?_
          rintro e wa ⟨rfl, hga⟩
          have HGa : Hid (Grow w wa) := HG9.out.trans hga
          clear hga HG9
          go_wp2
          go_ret
          exact ⟨rfl, HGa.out⟩
end Go.Proofs.Ytkgjebkjpcpoaaa
