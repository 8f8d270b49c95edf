/-
  The walk of bezantlaw08.SymBack: at any symbols and bytes it returns true, and nothing that was there has changed.
-/
import Derived.Test.YtodcnlihhilfkaaUp8
import Derived.Test.YtodcnlihhilfkaaSyPut
import Derived.Test.YtodcnlihhilfkaaConv
namespace Go.Proofs.Ytodcnlihhilfkaa
open Go.RowKit

/-- All, at what Put told. -/
theorem all_put (L : List Sy) (h400 : L.length ≤ 400) (wide big : Bool) (hf : rowF (symQ wide L) = true) (A : Option Addr) (c : Nat) (w : World) (h : RB w w.heap.size A (rowB big (symQ wide L)).length c (rowB big (symQ wide L))) :
    Calls Try.prog 9 #[.slice A (rowB big (symQ wide L)).length c, .agg #[.bool wide, .bool big]] w fun e w' =>
      ∃ A2 c2, e = .returned (.tuple #[.slice A2 L.length c2, .nilIface]) ∧ ZS w' w'.heap.size 6 A2 L.length c2 (L.map Sy.C) ∧ Grow w w' := by
  have hl : (rowB big (symQ wide L)).length ≤ 10000 := by
    rw [symL_len]
    have := Nat.mul_le_mul h400 (ySize_le wide)
    omega
  refine (yAll_any A _ c _ wide big w h hl).mono ?_
  rintro e w' (⟨-, A2, c2, rfl, hz, hg⟩ | ⟨hno, -⟩)
  · rw [syms_put L wide big hf, symL_len, Nat.mul_div_cancel _ (ySize_pos wide)] at hz
    rw [symL_len, Nat.mul_div_cancel _ (ySize_pos wide)]
    exact ⟨A2, c2, rfl, hz, hg⟩
  · exact absurd (symL_mod wide big L) hno
/-- Put, at what All told. -/
theorem put_all (l : List UInt8) (h5 : l.length ≤ 5000) (wide big : Bool) (hr : l.length % ySize wide = 0) (A : Option Addr) (c : Nat) (w : World) (h : ZS w w.heap.size 6 A (l.length / ySize wide) c ((syms l wide big).map Sy.C)) :
    Calls Try.prog 6 #[.slice A (l.length / ySize wide) c, .agg #[.bool wide, .bool big]] w fun e w' =>
      ∃ A2 c2, e = .returned (.tuple #[.slice A2 l.length c2, .nilIface]) ∧ RB w' w'.heap.size A2 l.length c2 l ∧ Grow w w' := by
  have hm : (syms l wide big).length ≤ 400 := by
    rw [syms, symsTo_len]
    have h16 : 16 ≤ ySize wide := by cases wide <;> decide
    have : l.length / ySize wide ≤ l.length / 16 := Nat.div_le_div_left h16 (by decide)
    omega
  have hb := syms_back l wide big hr
  refine (yPut_any A _ c (syms l wide big) (symsTo_ok l wide big _) hm wide big w h).mono ?_
  rintro e w' (⟨-, A2, c2, rfl, ho, hg⟩ | ⟨hno, -⟩)
  · rw [hb] at ho
    rw [hb]
    exact ⟨A2, c2, rfl, ho.rb, hg⟩
  · rw [syms, symsTo_fit] at hno
    cases hno

set_option maxRecDepth 100000 in
set_option maxHeartbeats 2000000 in
theorem symBack_core (A : Option Addr) (n c : Nat) (L : List Sy) (wide big : Bool) (A2 : Option Addr) (n2 c2 : Nat) (l : List UInt8) (w : World)
    (h : ZS w w.heap.size 6 A n c (L.map Sy.C)) (hok : ∀ s ∈ L, s.Ok) (h2 : RB w w.heap.size A2 n2 c2 l) :
    Calls Try.prog 4 #[.slice A n c, .agg #[.bool wide, .bool big], .slice A2 n2 c2] w fun e w' => e = .returned (.bool true) ∧ Below w.heap.size w w' := by
  obtain rfl : n = L.length := by have := h.len; simpa using this
  obtain rfl := h2.len
  have HS := Lib.hid h
  have HR2 := Lib.hid h2
  clear h h2
  by_cases hbig : 100 < L.length ∨ 5000 < l.length
  · clear hok
    by_cases b1 : 100 < L.length
    · have d1 : decide (100 < (L.length : Int)) = true := decide_eq_true (by omega)
      clear hbig
      go_enter Try.func4, Try.ntmps4
      go_wp2_with (go_at_call 5; refine (up8_any _).mono ?_; rintro e w1 ⟨rfl, hb1⟩; have HB := Lib.hid hb1; clear hb1)
      go_ret
      exact ⟨rfl, (Grow.of_alloc _ _).trans HB.out⟩
    have d1 : decide (100 < (L.length : Int)) = false := decide_eq_false (by omega)
    have d2 : decide (5000 < (l.length : Int)) = true := decide_eq_true (by omega)
    clear hbig
    go_enter Try.func4, Try.ntmps4
    go_wp2_with (go_at_call 5; refine (up8_any _).mono ?_; rintro e w1 ⟨rfl, hb1⟩; have HB := Lib.hid hb1; clear hb1)
    go_ret
    exact ⟨rfl, (Grow.of_alloc _ _).trans HB.out⟩
  · have d1 : decide (100 < (L.length : Int)) = false := decide_eq_false (by omega)
    have d2 : decide (5000 < (l.length : Int)) = false := decide_eq_false (by omega)
    have hL : L.length ≤ 400 := by omega
    have hl : l.length ≤ 5000 := by omega
    have HP := Lib.hid (fun W (h : ZS W W.heap.size 6 A L.length c (L.map Sy.C)) => yPut_any A L.length c L hok hL wide big W h)
    have HX := Lib.hid (fun (hf : rowF (symQ wide L) = true) Ac cc W h => all_put L hL wide big hf Ac cc W h)
    have HA := Lib.hid (fun W (h : RB W W.heap.size A2 l.length c2 l) => yAll_any A2 l.length c2 l wide big W h (by omega))
    have HD := Lib.hid (fun (hr : l.length % ySize wide = 0) Ax cx W h => put_all l hl wide big hr Ax cx W h)
    have HW : Hid (rowF (symQ wide L) = false → wide = false) := Lib.hid (fun hf => by
      cases wide
      · rfl
      · rw [fit_wide L hok] at hf; cases hf)
    have HSm : Hid (∀ (A A' : Option Addr) (c c' : Nat) (w : World), ZS w w.heap.size 6 A L.length c (L.map Sy.C) → ZS w w.heap.size 6 A' L.length c' (L.map Sy.C) → Calls Try.prog 14 #[.slice A L.length c, .slice A' L.length c'] w fun e w' => e = .returned (.int .i64 1) ∧ Grow w w') :=
      Lib.hid (fun A A' c c' w h h' => same_any A A' _ c _ c' L _ _ w h h')
    unfold YPut at HP
    unfold YAll at HA
    generalize rowF (symQ wide L) = rf at HP HX HW
    generalize rowB big (symQ wide L) = P at HP HX
    generalize l.length - l.length % ySize wide = pl at HA
    generalize l.length % ySize wide = r at HA HD
    generalize l.length / ySize wide = m at HA HD
    generalize syms l wide big = S at HA HD
    generalize L.map Sy.C = M at HS HP HX HSm
    generalize L.length = n at HS HP HX HSm d1 ⊢
    clear hbig hL hl hok
    go_enter Try.func4, Try.ntmps4
    go_wp2_with fail
    generalize hW : World.alloc _ _ = W0
    obtain ⟨bf, hg0⟩ := blk1 hW
    clear hW
    refine (up8_any _).mono ?_
    rintro e w1 ⟨rfl, hg1⟩
    have HF1 := Lib.hid (bf.grow hg1)
    have HG1 : Hid (Grow w w1) := hg0.trans hg1
    clear hg1 bf hg0
    obtain ⟨f0, f1⟩ := HF1.out.c2
    go_wp2_with fail
    clear f0 f1
    refine (HP.out _ (HS.out.grow HG1.out)).mono ?_
    rintro e w3 (⟨hrf, Ac, cc, rfl, hoc3, hg3⟩ | ⟨hrf, rfl, hg3⟩)
    case' inl =>
      subst hrf
      have HRC3 := Lib.hid hoc3.rb
      have HF3 := Lib.hid (HF1.out.grow hg3)
      have HG3 : Hid (Grow w w3) := HG1.out.trans hg3
      clear hg3 hoc3 HF1 HG1 HP
      obtain ⟨f0, f1⟩ := HF3.out.c2
      go_wp2_with fail
      clear f0 f1
      refine (HX.out (by first | rfl | trivial) _ _ _ HRC3.out).mono ?_
      rintro e w4 ⟨Ax, cx, rfl, hz4, hg4⟩
      have HZ4 := Lib.hid hz4
      have HF4 := Lib.hid (HF3.out.grow hg4)
      have HG4 : Hid (Grow w w4) := HG3.out.trans hg4
      clear hz4 hg4 HF3 HG3 HRC3 HX
      go_wp2_with fail
      refine (HSm.out _ _ _ _ _ HZ4.out (HS.out.grow HG4.out)).mono ?_
      rintro e w5 ⟨rfl, hg5⟩
      have HF5 := Lib.hid (HF4.out.grow hg5)
      have HG5 : Hid (Grow w w5) := HG4.out.trans hg5
      clear hg5 HZ4 HF4 HG4 HSm
      obtain ⟨f0, f1⟩ := HF5.out.c2
      go_wp2_with fail
      clear f0 f1
    case' inr =>
      subst hrf
      obtain rfl := HW.out rfl
      have HF5 := Lib.hid (HF1.out.grow hg3)
      have HG5 : Hid (Grow w w3) := HG1.out.trans hg3
      clear hg3 HF1 HG1 HP
      obtain ⟨f0, f1⟩ := HF5.out.c2
      go_wp2_with fail
      clear f0 f1
    all_goals
      refine (HA.out _ (HR2.out.grow HG5.out)).mono ?_
      rintro e w6 (⟨hr, Ax, cx, rfl, hzx, hg6⟩ | ⟨hr, er, rfl, he, hg6⟩)
      · have HR0 := Lib.hid hr
        have HZ6 := Lib.hid hzx
        have HF6 := Lib.hid (HF5.out.grow hg6)
        have HG6 : Hid (Grow w w6) := HG5.out.trans hg6
        clear hg6 hzx hr HF5 HG5 HA
        obtain ⟨f0, f1⟩ := HF6.out.c2
        go_wp2_with fail
        clear f0 f1
        refine (HD.out HR0.out _ _ _ HZ6.out).mono ?_
        rintro e w7 ⟨Ad, cd, rfl, hrd, hg7⟩
        have HG7 : Hid (Grow w w7) := HG6.out.trans hg7
        have hs1 := (hrd.conv (Nat.le_refl _)) w7 (Grow.refl _)
        have hs2 := ((HR2.out.grow HG7.out).conv (Nat.le_refl _)) w7 (Grow.refl _)
        clear hg7 hrd HZ6 HF6 HG6 HD
        go_wp2
        go_ret
        exact ⟨rfl, HG7.out⟩
      · rcases he with ⟨h0, -⟩ | ⟨-, b, rfl, -⟩
        · omega
        have HG6 : Hid (Grow w w6) := HG5.out.trans hg6
        clear hg6 hr
        go_wp2
        go_ret
        exact ⟨rfl, HG6.out⟩
end Go.Proofs.Ytodcnlihhilfkaa
