/-
  The walk of bezantlaw10.DynTells: at any entries, bytes and Tag it returns true, and nothing that was there has changed.
-/
import Derived.Test.YtlnadlhajjcaoaaUp10
import Derived.Test.YtlnadlhajjcaoaaDyPut
import Derived.Test.YtlnadlhajjcaoaaDySame
import Derived.Test.YtlnadlhajjcaoaaRefPutDyns
import Derived.Test.YtlnadlhajjcaoaaRefDyns
import Derived.Test.YtlnadlhajjcaoaaCode
import Derived.Test.YtlnadlhajjcaoaaConv
namespace Go.Proofs.Ytlnadlhajjcaoaa
open Go.RowKit

set_option maxRecDepth 100000 in
set_option maxHeartbeats 2000000 in
theorem dynTells_core (A : Option Addr) (n c : Nat) (L : List Dy) (wide big : Bool) (A2 : Option Addr) (n2 c2 : Nat) (l : List UInt8) (t : Nat) (w : World)
    (h : ZS w w.heap.size 2 A n c (L.map Dy.C)) (hok : ∀ s ∈ L, s.Ok) (h2 : RB w w.heap.size A2 n2 c2 l) :
    Calls Try.prog 3 #[.slice A n c, .agg #[.bool wide, .bool big], .slice A2 n2 c2, .int .u64 t] w fun e w' => e = .returned (.bool true) ∧ Below w.heap.size w w' := by
  have hn : n = L.length := by have := h.len; simpa using this
  have hn2 := h2.len
  have HS := Lib.hid h
  have HR2 := Lib.hid h2
  clear h h2
  by_cases hbig : 100 < n ∨ 5000 < n2
  · clear hn hn2 hok
    by_cases b1 : 100 < n
    · have d1 : decide (100 < (n : Int)) = true := decide_eq_true (by omega)
      clear hbig
      go_enter Try.func3, Try.ntmps3
      go_wp2_with (go_at_call 5; refine (up10_any _).mono ?_; rintro e w1 ⟨rfl, hb1⟩; have HB := Lib.hid hb1; clear hb1)
      go_ret
      exact ⟨rfl, (Grow.of_alloc _ _).trans HB.out⟩
    have d1 : decide (100 < (n : Int)) = false := decide_eq_false (by omega)
    have d2 : decide (5000 < (n2 : Int)) = true := decide_eq_true (by omega)
    clear hbig
    go_enter Try.func3, Try.ntmps3
    go_wp2_with (go_at_call 5; refine (up10_any _).mono ?_; rintro e w1 ⟨rfl, hb1⟩; have HB := Lib.hid hb1; clear hb1)
    go_ret
    exact ⟨rfl, (Grow.of_alloc _ _).trans HB.out⟩
  · have d1 : decide (100 < (n : Int)) = false := decide_eq_false (by omega)
    have d2 : decide (5000 < (n2 : Int)) = false := decide_eq_false (by omega)
    have hL : L.length ≤ 1000 := by omega
    have hl : l.length ≤ 5000 := by omega
    have HP := Lib.hid (fun W (h : ZS W W.heap.size 2 A n c (L.map Dy.C)) => dPut_any A n c L hok hL wide big W h)
    have HQ := Lib.hid (fun W (h : ZS W W.heap.size 2 A n c (L.map Dy.C)) => rPutD_any A n c L hok hL wide big W h)
    have HA := Lib.hid (fun W (h : RB W W.heap.size A2 n2 c2 l) => dAll_any A2 n2 c2 l wide big W h (by omega))
    have HB := Lib.hid (fun W (h : RB W W.heap.size A2 n2 c2 l) => rAllD_any A2 n2 c2 l wide big W h (by omega))
    have HFd := Lib.hid (fun W (h : ZS W W.heap.size 2 A n c (L.map Dy.C)) => dFind_any A n c L t W h)
    have HFr := Lib.hid (fun W (h : ZS W W.heap.size 2 A n c (L.map Dy.C)) => dFindRef_any A n c L t W h)
    unfold DPut at HP
    unfold RPutD at HQ
    unfold DAll at HA
    unfold RAllD at HB
    unfold DFind at HFd HFr
    have hpl : dyK l wide big * dySize wide ≤ 5000 := by have := dyK_le l wide big; omega
    generalize rowF (dynQ wide L) = rf at HP HQ
    generalize rowB big (dynQ wide L) = P at HP HQ
    generalize dyK l wide big * dySize wide = pl at HA HB hpl
    generalize dyIn l wide big = r at HA HB
    generalize dyK l wide big = m at HA HB
    generalize dyns l wide big = S at HA HB
    generalize dyF L t = y at HFd HFr
    generalize L.map Dy.C = M at HS HP HQ HFd HFr
    obtain ⟨y1, y2⟩ := y
    simp only [] at HFd HFr
    clear hn hn2 hbig hL hl hok
    go_enter Try.func3, Try.ntmps3
    go_wp2_with fail
    generalize hW : World.alloc _ _ = W0
    obtain ⟨bf, hg0⟩ := blk1 hW
    clear hW
    refine (up10_any _).mono ?_
    rintro e w1 ⟨rfl, hg1⟩
    have HF1 := Lib.hid (bf.grow hg1)
    have HG1 : Hid (Grow w w1) := hg0.trans hg1
    clear hg1 bf hg0
    obtain ⟨f0, f1⟩ := HF1.out.c2
    go_wp2_with fail
    clear f0 f1
    refine (HP.out _ (HS.out.grow HG1.out)).mono ?_
    rintro e w3 (⟨hrf, Ac, cc, rfl, hoc3, hg3⟩ | ⟨hrf, rfl, hg3⟩)
    case' inl =>
      subst hrf
      have HRC3 := Lib.hid hoc3.rb
      have HF3 := Lib.hid (HF1.out.grow hg3)
      have HG3 : Hid (Grow w w3) := HG1.out.trans hg3
      clear hg3 hoc3 HF1 HG1 HP
      obtain ⟨f0, f1⟩ := HF3.out.c2
      go_wp2_with fail
      clear f0 f1
      refine (HQ.out _ (HS.out.grow HG3.out)).mono ?_
      rintro e w4 (⟨-, Aw, cw, rfl, how4, hg4⟩ | ⟨hno, -, -⟩)
      rotate_left
      · cases hno
      have HF4 := Lib.hid (HF3.out.grow hg4)
      have HG4 : Hid (Grow w w4) := HG3.out.trans hg4
      have HRC4 : Hid (RB w4 w4.heap.size Ac P.length cc P) := HRC3.out.grow hg4
      have HRW4 := Lib.hid how4.rb
      clear how4 hg4 HF3 HG3 HRC3 HQ
      have hs1 := (HRC4.out.conv (Nat.le_refl _)) w4 (Grow.refl _)
      have hs2 := (HRW4.out.conv (Nat.le_refl _)) w4 (Grow.refl _)
      obtain ⟨f0, f1⟩ := HF4.out.c2
      go_wp2_with fail
      clear f0 f1 hs1 hs2 HRC4 HRW4
    case' inr =>
      subst hrf
      have HF3 := Lib.hid (HF1.out.grow hg3)
      have HG3 : Hid (Grow w w3) := HG1.out.trans hg3
      clear hg3 HF1 HG1 HP
      obtain ⟨f0, f1⟩ := HF3.out.c2
      go_wp2_with fail
      clear f0 f1
      refine (HQ.out _ (HS.out.grow HG3.out)).mono ?_
      rintro e w4 (⟨hno, -⟩ | ⟨-, rfl, hg4⟩)
      · cases hno
      have HF4 := Lib.hid (HF3.out.grow hg4)
      have HG4 : Hid (Grow w w4) := HG3.out.trans hg4
      clear hg4 HF3 HG3 HQ
      go_wp2_with fail
      refine (code_some 1 (by omega) (by omega) _).mono ?_
      rintro e wb ⟨rfl, rfl⟩
      obtain ⟨f0, f1⟩ := HF4.out.c2
      go_wp2_with fail
      clear f0 f1
    all_goals
      refine (HA.out _ (HR2.out.grow HG4.out)).mono ?_
      rintro e w5 (⟨hr, Ax, cx, rfl, hzx, hg5⟩ | ⟨hr, er, rfl, he, hg5⟩)
      case' inl =>
        have HZ5 := Lib.hid hzx
        have HF5 := Lib.hid (HF4.out.grow hg5)
        have HG5 : Hid (Grow w w5) := HG4.out.trans hg5
        clear hg5 hzx HF4 HG4 HA
        obtain ⟨f0, f1⟩ := HF5.out.c2
        go_wp2_with fail
        clear f0 f1
        refine (HB.out _ (HR2.out.grow HG5.out)).mono ?_
        rintro e w6 (⟨-, Ay, cy, rfl, hzy, hg6⟩ | ⟨hno, -⟩)
        rotate_left
        · rw [hr] at hno; cases hno
        have HSm : Hid (∀ W, Grow w6 W → Calls Try.prog 14 #[.slice Ax m cx, .slice Ay m cy] W fun e w' => e = .returned (.int .i64 1) ∧ Grow W w') := Lib.hid (fun W hW => sameD_any _ _ _ _ _ _ S _ _ _ ((HZ5.out.grow hg6).grow hW) (hzy.grow hW))
        have HF6 := Lib.hid (HF5.out.grow hg6)
        have HG6 : Hid (Grow w w6) := HG5.out.trans hg6
        clear hg6 hzy hr HZ5 HF5 HG5 HB
        go_wp2_with fail
        refine (spot_any .nilIface 0 0 _ (.inl ⟨rfl, rfl, rfl⟩) (by omega) (by omega)).mono ?_
        rintro e w7 ⟨rfl, hg7⟩
        have HSm7 := Lib.hid (fun W (hW : Grow w7 W) => HSm.out W (hg7.trans hW))
        have HF7 := Lib.hid (HF6.out.grow hg7)
        have HG7 : Hid (Grow w w7) := HG6.out.trans hg7
        clear hg7 HF6 HG6 HSm
      case' inr =>
        have HE5 := Lib.hid he
        have HF5 := Lib.hid (HF4.out.grow hg5)
        have HG5 : Hid (Grow w w5) := HG4.out.trans hg5
        clear hg5 he HF4 HG4 HA
        obtain ⟨f0, f1⟩ := HF5.out.c2
        go_wp2_with fail
        clear f0 f1
        refine (HB.out _ (HR2.out.grow HG5.out)).mono ?_
        rintro e w6 (⟨hno, -⟩ | ⟨-, rfl, hg6⟩)
        · rw [hr] at hno; cases hno
        have HE6 := Lib.hid (HE5.out.grow hg6)
        have HF6 := Lib.hid (HF5.out.grow hg6)
        have HG6 : Hid (Grow w w6) := HG5.out.trans hg6
        clear hg6 hr HE5 HF5 HG5 HB
        go_wp2_with fail
        refine (spot_any er 2 pl _ HE6.out (by omega) (by omega)).mono ?_
        rintro e w7 ⟨rfl, hg7⟩
        have HSm7 : Hid (∀ W, Grow w7 W → Calls Try.prog 14 #[.slice none 0 0, .slice none 0 0] W fun e w' => e = .returned (.int .i64 1) ∧ Grow W w') := Lib.hid (fun W _ => sameD_any none none 0 0 0 0 [] 0 0 W ZS.nil ZS.nil)
        have HF7 := Lib.hid (HF6.out.grow hg7)
        have HG7 : Hid (Grow w w7) := HG6.out.trans hg7
        clear hg7 HE6 HF6 HG6
        have p0 : ¬ (pl : Int) < 0 := by omega
        have p1 : (0 : Int) ≤ (pl : Int) := by omega
      all_goals
        go_wp2_with fail
        refine (HFd.out _ (HS.out.grow HG7.out)).mono ?_
        rintro e w8 ⟨rfl, hg8⟩
        have HSm8 := Lib.hid (fun W (hW : Grow w8 W) => HSm7.out W (hg8.trans hW))
        have HG8 : Hid (Grow w w8) := HG7.out.trans hg8
        clear hg8 HF7 HG7 HSm7 HFd
        go_wp2_with fail
        refine (HFr.out _ (HS.out.grow HG8.out)).mono ?_
        rintro e w9 ⟨rfl, hg9⟩
        have HSm9 := Lib.hid (fun W (hW : Grow w9 W) => HSm8.out W (hg9.trans hW))
        have HG9 : Hid (Grow w w9) := HG8.out.trans hg9
        clear hg9 HG8 HSm8 HFr
        go_wp2_with fail
        refine (HSm9.out _ (Grow.refl _)).mono ?_
        rintro e wa ⟨rfl, hga⟩
        have HGa : Hid (Grow w wa) := HG9.out.trans hga
        clear hga HG9 HSm9
        go_wp2
        go_ret
        exact ⟨rfl, HGa.out⟩
end Go.Proofs.Ytlnadlhajjcaoaa
