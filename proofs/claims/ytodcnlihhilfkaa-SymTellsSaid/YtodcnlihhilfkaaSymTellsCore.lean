/-
  The walk of bezantlaw08.SymTells: at any symbols, bytes and number it returns true, and nothing that was there has changed.
-/
import Derived.Test.YtodcnlihhilfkaaUp8
import Derived.Test.YtodcnlihhilfkaaRefPutSyms
import Derived.Test.YtodcnlihhilfkaaRefSyms
import Derived.Test.YtodcnlihhilfkaaCode
import Derived.Test.YtodcnlihhilfkaaConv
namespace Go.Proofs.Ytodcnlihhilfkaa
open Go.RowKit

set_option maxRecDepth 100000 in
set_option maxHeartbeats 2000000 in
theorem symTells_core (A : Option Addr) (n c : Nat) (L : List Sy) (wide big : Bool) (A2 : Option Addr) (n2 c2 : Nat) (l : List UInt8) (A3 : Option Addr) (n3 c3 : Nat) (x : List UInt8) (i : Int) (w : World)
    (h : ZS w w.heap.size 6 A n c (L.map Sy.C)) (hok : ∀ s ∈ L, s.Ok) (h2 : RB w w.heap.size A2 n2 c2 l) (h3 : RB w w.heap.size A3 n3 c3 x) :
    Calls Try.prog 3 #[.slice A n c, .agg #[.bool wide, .bool big], .slice A2 n2 c2, .slice A3 n3 c3, .int .i64 i] w fun e w' => e = .returned (.bool true) ∧ Below w.heap.size w w' := by
  have hn : n = L.length := by have := h.len; simpa using this
  have hn2 := h2.len
  have HS := Lib.hid h
  have HR2 := Lib.hid h2
  have HR3 := Lib.hid h3
  clear h h2 h3
  by_cases hbig : 100 < n ∨ 5000 < n2 ∨ 5000 < n3
  · clear hn hn2 hok
    by_cases b1 : 100 < n
    · have d1 : decide (100 < (n : Int)) = true := decide_eq_true (by omega)
      clear hbig
      go_enter Try.func3, Try.ntmps3
      go_wp2_with (go_at_call 5; refine (up8_any _).mono ?_; rintro e w1 ⟨rfl, hb1⟩; have HB := Lib.hid hb1; clear hb1)
      go_ret
      exact ⟨rfl, (Grow.of_alloc _ _).trans HB.out⟩
    have d1 : decide (100 < (n : Int)) = false := decide_eq_false (by omega)
    by_cases b2 : 5000 < n2
    · have d2 : decide (5000 < (n2 : Int)) = true := decide_eq_true (by omega)
      clear hbig
      go_enter Try.func3, Try.ntmps3
      go_wp2_with (go_at_call 5; refine (up8_any _).mono ?_; rintro e w1 ⟨rfl, hb1⟩; have HB := Lib.hid hb1; clear hb1)
      go_ret
      exact ⟨rfl, (Grow.of_alloc _ _).trans HB.out⟩
    have d2 : decide (5000 < (n2 : Int)) = false := decide_eq_false (by omega)
    have d3 : decide (5000 < (n3 : Int)) = true := decide_eq_true (by omega)
    clear hbig
    go_enter Try.func3, Try.ntmps3
    go_wp2_with (go_at_call 5; refine (up8_any _).mono ?_; rintro e w1 ⟨rfl, hb1⟩; have HB := Lib.hid hb1; clear hb1)
    go_ret
    exact ⟨rfl, (Grow.of_alloc _ _).trans HB.out⟩
  · have d1 : decide (100 < (n : Int)) = false := decide_eq_false (by omega)
    have d2 : decide (5000 < (n2 : Int)) = false := decide_eq_false (by omega)
    have d3 : decide (5000 < (n3 : Int)) = false := decide_eq_false (by omega)
    have hL : L.length ≤ 400 := by omega
    have hl : l.length ≤ 5000 := by omega
    have HP := Lib.hid (fun W (h : ZS W W.heap.size 6 A n c (L.map Sy.C)) => yPut_any A n c L hok hL wide big W h)
    have HQ := Lib.hid (fun W (h : ZS W W.heap.size 6 A n c (L.map Sy.C)) => rPutY_any A n c L hok hL wide big W h)
    have HA := Lib.hid (fun W (h : RB W W.heap.size A2 n2 c2 l) => yAll_any A2 n2 c2 l wide big W h (by omega))
    have HB := Lib.hid (fun W (h : RB W W.heap.size A2 n2 c2 l) => rAllY_any A2 n2 c2 l wide big W h (by omega))
    have HI := Lib.hid (fun W (h : ZS W W.heap.size 6 A n c (L.map Sy.C)) (h' : RB W W.heap.size A3 n3 c3 x) => idx_any A n c L A3 n3 c3 x wide big i W h h' hok (by omega))
    have HJ := Lib.hid (fun W (h : ZS W W.heap.size 6 A n c (L.map Sy.C)) (h' : RB W W.heap.size A3 n3 c3 x) => refIdx_any A n c L A3 n3 c3 x wide big i W h h' hok (by omega))
    unfold YPut at HP
    unfold RPutY at HQ
    unfold YAll at HA
    unfold RAllY at HB
    unfold IdxR at HI HJ
    have hpl : l.length - l.length % ySize wide ≤ 5000 := by omega
    generalize rowF (symQ wide L) = rf at HP HQ
    generalize rowB big (symQ wide L) = P at HP HQ
    generalize l.length - l.length % ySize wide = pl at HA HB hpl
    generalize l.length % ySize wide = r at HA HB
    generalize l.length / ySize wide = m at HA HB
    generalize syms l wide big = S at HA HB
    generalize idxV L x big i = iv at HI HJ
    generalize idxB L x i = ib at HI HJ
    generalize L.map Sy.C = M at HS HP HQ HI HJ
    clear hn hn2 hbig hL hl hok
    go_enter Try.func3, Try.ntmps3
    go_wp2_with fail
    generalize hW : World.alloc _ _ = W0
    obtain ⟨bf, hg0⟩ := blk1 hW
    clear hW
    refine (up8_any _).mono ?_
    rintro e w1 ⟨rfl, hg1⟩
    have HF1 := Lib.hid (bf.grow hg1)
    have HG1 : Hid (Grow w w1) := hg0.trans hg1
    clear hg1 bf hg0
    obtain ⟨f0, f1⟩ := HF1.out.c2
    go_wp2_with fail
    clear f0 f1
    refine (HP.out _ (HS.out.grow HG1.out)).mono ?_
    rintro e w3 (⟨hrf, Ac, cc, rfl, hoc3, hg3⟩ | ⟨hrf, rfl, hg3⟩)
    case' inl =>
      subst hrf
      have HRC3 := Lib.hid hoc3.rb
      have HF3 := Lib.hid (HF1.out.grow hg3)
      have HG3 : Hid (Grow w w3) := HG1.out.trans hg3
      clear hg3 hoc3 HF1 HG1 HP
      obtain ⟨f0, f1⟩ := HF3.out.c2
      go_wp2_with fail
      clear f0 f1
      refine (HQ.out _ (HS.out.grow HG3.out)).mono ?_
      rintro e w4 (⟨-, Aw, cw, rfl, how4, hg4⟩ | ⟨hno, -, -⟩)
      rotate_left
      · cases hno
      have HF4 := Lib.hid (HF3.out.grow hg4)
      have HG4 : Hid (Grow w w4) := HG3.out.trans hg4
      have HRC4 : Hid (RB w4 w4.heap.size Ac P.length cc P) := HRC3.out.grow hg4
      have HRW4 := Lib.hid how4.rb
      clear how4 hg4 HF3 HG3 HRC3 HQ
      have hs1 := (HRC4.out.conv (Nat.le_refl _)) w4 (Grow.refl _)
      have hs2 := (HRW4.out.conv (Nat.le_refl _)) w4 (Grow.refl _)
      obtain ⟨f0, f1⟩ := HF4.out.c2
      go_wp2_with fail
      clear f0 f1 hs1 hs2 HRC4 HRW4
    case' inr =>
      subst hrf
      have HF3 := Lib.hid (HF1.out.grow hg3)
      have HG3 : Hid (Grow w w3) := HG1.out.trans hg3
      clear hg3 HF1 HG1 HP
      obtain ⟨f0, f1⟩ := HF3.out.c2
      go_wp2_with fail
      clear f0 f1
      refine (HQ.out _ (HS.out.grow HG3.out)).mono ?_
      rintro e w4 (⟨hno, -⟩ | ⟨-, rfl, hg4⟩)
      · cases hno
      have HF4 := Lib.hid (HF3.out.grow hg4)
      have HG4 : Hid (Grow w w4) := HG3.out.trans hg4
      clear hg4 HF3 HG3 HQ
      go_wp2_with fail
      refine (code_some 1 (by omega) (by omega) _).mono ?_
      rintro e wb ⟨rfl, rfl⟩
      obtain ⟨f0, f1⟩ := HF4.out.c2
      go_wp2_with fail
      clear f0 f1
    all_goals
      refine (HA.out _ (HR2.out.grow HG4.out)).mono ?_
      rintro e w5 (⟨hr, Ax, cx, rfl, hzx, hg5⟩ | ⟨hr, er, rfl, he, hg5⟩)
      · have HZ5 := Lib.hid hzx
        have HF5 := Lib.hid (HF4.out.grow hg5)
        have HG5 : Hid (Grow w w5) := HG4.out.trans hg5
        clear hg5 hzx HF4 HG4 HA
        obtain ⟨f0, f1⟩ := HF5.out.c2
        go_wp2_with fail
        clear f0 f1
        refine (HB.out _ (HR2.out.grow HG5.out)).mono ?_
        rintro e w6 (⟨-, Ay, cy, rfl, hzy, hg6⟩ | ⟨hno, -⟩)
        rotate_left
        · exact absurd hr hno
        have HZ6 := Lib.hid (HZ5.out.grow hg6)
        have HY6 := Lib.hid hzy
        have HF6 := Lib.hid (HF5.out.grow hg6)
        have HG6 : Hid (Grow w w6) := HG5.out.trans hg6
        clear hg6 hzy hr HZ5 HF5 HG5 HB
        go_wp2_with fail
        refine (spot_any .nilIface 0 0 _ (.inl ⟨rfl, rfl, rfl⟩) (by omega) (by omega)).mono ?_
        rintro e w7 ⟨rfl, hg7⟩
        have HZ7 := Lib.hid (HZ6.out.grow hg7)
        have HY7 := Lib.hid (HY6.out.grow hg7)
        have HF7 := Lib.hid (HF6.out.grow hg7)
        have HG7 : Hid (Grow w w7) := HG6.out.trans hg7
        clear hg7 HZ6 HY6 HF6 HG6
        obtain ⟨f0, f1⟩ := HF7.out.c2
        go_wp2_with fail
        clear f0 f1
        refine (HI.out _ (HS.out.grow HG7.out) (HR3.out.grow HG7.out)).mono ?_
        rintro e w8 ⟨rfl, hg8⟩
        have HZ8 := Lib.hid (HZ7.out.grow hg8)
        have HY8 := Lib.hid (HY7.out.grow hg8)
        have HF8 := Lib.hid (HF7.out.grow hg8)
        have HG8 : Hid (Grow w w8) := HG7.out.trans hg8
        clear hg8 HZ7 HY7 HF7 HG7
        obtain ⟨f0, f1⟩ := HF8.out.c2
        go_wp2_with fail
        clear f0 f1
        refine (HJ.out _ (HS.out.grow HG8.out) (HR3.out.grow HG8.out)).mono ?_
        rintro e w9 ⟨rfl, hg9⟩
        have HZ9 := Lib.hid (HZ8.out.grow hg9)
        have HY9 := Lib.hid (HY8.out.grow hg9)
        have HG9 : Hid (Grow w w9) := HG8.out.trans hg9
        clear hg9 HZ8 HY8 HF8 HG8
        go_wp2_with fail
        refine (same_any _ _ _ _ _ _ S _ _ _ HZ9.out HY9.out).mono ?_
        rintro e wa ⟨rfl, hga⟩
        have HGa : Hid (Grow w wa) := HG9.out.trans hga
        clear hga HZ9 HY9 HG9
        go_wp2
        go_ret
        exact ⟨rfl, HGa.out⟩
      · have HE5 := Lib.hid he
        have HF5 := Lib.hid (HF4.out.grow hg5)
        have HG5 : Hid (Grow w w5) := HG4.out.trans hg5
        clear hg5 he HF4 HG4 HA
        obtain ⟨f0, f1⟩ := HF5.out.c2
        go_wp2_with fail
        clear f0 f1
        refine (HB.out _ (HR2.out.grow HG5.out)).mono ?_
        rintro e w6 (⟨hno, -⟩ | ⟨-, rfl, hg6⟩)
        · exact absurd hno hr
        have HE6 := Lib.hid (HE5.out.grow hg6)
        have HF6 := Lib.hid (HF5.out.grow hg6)
        have HG6 : Hid (Grow w w6) := HG5.out.trans hg6
        clear hg6 hr HE5 HF5 HG5 HB
        go_wp2_with fail
        refine (spot_any er 2 pl _ HE6.out (by omega) (by omega)).mono ?_
        rintro e w7 ⟨rfl, hg7⟩
        have HF7 := Lib.hid (HF6.out.grow hg7)
        have HG7 : Hid (Grow w w7) := HG6.out.trans hg7
        clear hg7 HE6 HF6 HG6
        obtain ⟨f0, f1⟩ := HF7.out.c2
        go_wp2_with fail
        clear f0 f1
        refine (HI.out _ (HS.out.grow HG7.out) (HR3.out.grow HG7.out)).mono ?_
        rintro e w8 ⟨rfl, hg8⟩
        have HF8 := Lib.hid (HF7.out.grow hg8)
        have HG8 : Hid (Grow w w8) := HG7.out.trans hg8
        clear hg8 HF7 HG7
        obtain ⟨f0, f1⟩ := HF8.out.c2
        go_wp2_with fail
        clear f0 f1
        refine (HJ.out _ (HS.out.grow HG8.out) (HR3.out.grow HG8.out)).mono ?_
        rintro e w9 ⟨rfl, hg9⟩
        have HG9 : Hid (Grow w w9) := HG8.out.trans hg9
        clear hg9 HF8 HG8
        go_wp2_with fail
        refine (same_any none none 0 0 0 0 [] 0 0 _ ZS.nil ZS.nil).mono ?_
        rintro e wa ⟨rfl, hga⟩
        have HGa : Hid (Grow w wa) := HG9.out.trans hga
        clear hga HG9
        have p0 : ¬ (pl : Int) < 0 := by omega
        have p1 : (0 : Int) ≤ (pl : Int) := by omega
        go_wp2
        go_ret
        exact ⟨rfl, HGa.out⟩
end Go.Proofs.Ytodcnlihhilfkaa
