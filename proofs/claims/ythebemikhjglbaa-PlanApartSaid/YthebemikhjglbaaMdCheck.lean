/-
  The contract of model.Check: what is wrong with a model first.
-/
import Derived.Test.YthebemikhjglbaaMdFits
import Derived.Test.YthebemikhjglbaaMdSegs
import Derived.Test.YthebemikhjglbaaMdSecs
import Derived.Test.YthebemikhjglbaaMdNames
namespace Go.Proofs.Ythebemikhjglbaa
open Go.RowKit

set_option maxHeartbeats 1000000 in
theorem check_any (m : Md) (ok : m.Ok) (A1 A2 : Option Addr) (n1 c1 n2 c2 : Nat) (w : World) (g1 : ZR sgK w w.heap.size A1 n1 c1 m.segs) (g2 : ZR seK w w.heap.size A2 n2 c2 m.secs) :
    Calls Try.prog 14 #[.agg (mdC m (.slice A1 n1 c1) (.slice A2 n2 c2))] w fun e w' => e = .returned (eC m.chk) ∧ Grow w w' := by
  have HF := Lib.hid (fun (w' : World) (hg : Grow w w') h1 h2 => mFits_any m ok A1 A2 n1 c1 n2 c2 w' (g1.grow hg) (g2.grow hg) h1 h2)
  have HS := Lib.hid (fun (w' : World) (hg : Grow w w') h1 => mSegs_any m ok A1 A2 n1 c1 n2 c2 w' (g1.grow hg) h1)
  have HC := Lib.hid (fun (w' : World) (hg : Grow w w') => mSecs_any m ok A1 A2 n1 c1 n2 c2 w' (g1.grow hg) (g2.grow hg))
  have HN := Lib.hid (fun (w' : World) (hg : Grow w w') => mNames_any m ok A1 A2 n1 c1 n2 c2 w' (g2.grow hg))
  obtain ⟨x0, x1, x2, x3, x4, x5, x6, x7, x10, hC⟩ : ∃ x0 x1 x2 x3 x4 x5 x6 x7 x10 : Value, mdC m (.slice A1 n1 c1) (.slice A2 n2 c2) = #[x0, x1, x2, x3, x4, x5, x6, x7, .slice A1 n1 c1, .slice A2 n2 c2, x10] := ⟨_, _, _, _, _, _, _, _, _, rfl⟩
  rw [hC] at HF HS HC HN ⊢
  have E := Lib.hid (show m.chk = if (decide (16 < n1) || decide (64 < n2)) = true then 8 else if m.fits = false then 1 else if m.segsC ≠ 0 then m.segsC else if m.secsC ≠ 0 then m.secsC else m.namesC by unfold Md.chk Md.large; rw [g1.len, g2.len])
  generalize m.chk = C at E ⊢
  generalize m.fits = fi at E HF
  generalize m.segsC = cs at E HS
  generalize m.secsC = cc at E HC
  generalize m.namesC = cn at E HN
  clear hC g1 g2 ok
  by_cases h1 : 16 < n1
  · have E2 := Lib.hid (show C = 8 by rw [E.out]; simp [h1])
    have d1 : decide (16 < n1) = true := decide_eq_true h1
    have d1' : decide ((16 : Int) < (n1 : Int)) = true := decide_eq_true (by omega)
    clear h1
    go_enter Try.func14, Try.ntmps14
    go_wp2
    go_ret
    exact n_ret E2.out _ rfl (Grow.of_alloc _ _)
  have d1 : decide (16 < n1) = false := decide_eq_false h1
  have d1' : decide ((16 : Int) < (n1 : Int)) = false := decide_eq_false (by omega)
  by_cases h2 : 64 < n2
  · have E2 := Lib.hid (show C = 8 by rw [E.out]; simp [h2])
    have d2 : decide (64 < n2) = true := decide_eq_true h2
    have d2' : decide ((64 : Int) < (n2 : Int)) = true := decide_eq_true (by omega)
    clear h1 h2
    go_enter Try.func14, Try.ntmps14
    go_wp2
    go_ret
    exact n_ret E2.out _ rfl (Grow.of_alloc _ _)
  have d2 : decide (64 < n2) = false := decide_eq_false h2
  have d2' : decide ((64 : Int) < (n2 : Int)) = false := decide_eq_false (by omega)
  have HQ := Lib.hid (show n1 ≤ 16 ∧ n2 ≤ 64 from ⟨by omega, by omega⟩)
  rw [d1, d2, Bool.false_or, if_neg (by decide)] at E
  clear h1 h2
  go_enter Try.func14, Try.ntmps14
  go_wp2_with fail
  generalize hW : World.alloc _ _ = W0
  obtain ⟨b1, hg0⟩ := blk1 hW
  clear hW d1 d1' d2 d2'
  have HB0 := Lib.hid b1
  have HG0 := Lib.hid hg0
  clear b1 hg0
  refine (HF.out _ HG0.out HQ.out.1 HQ.out.2).mono ?_
  rintro e w1 ⟨rfl, hg1⟩
  have HB1 := Lib.hid (HB0.out.grow hg1)
  have HG1 : Hid (Grow w w1) := HG0.out.trans hg1
  clear hg1 HB0 HG0 HF
  cases fi with
  | false =>
    have E2 := Lib.hid (show C = 1 by rw [E.out, if_pos rfl])
    go_wp2
    go_ret
    exact n_ret E2.out _ rfl HG1.out
  | true =>
  rw [if_neg (by decide)] at E
  obtain ⟨v0, v1, v2, v3, v4, v5, v6, v7, v8, v9, v10⟩ := HB1.out.c11
  go_wp2_with fail
  clear v0 v1 v2 v3 v4 v5 v6 v7 v8 v9 v10
  refine (HS.out _ HG1.out HQ.out.1).mono ?_
  rintro e w2 ⟨rfl, hg2⟩
  have HB2 := Lib.hid (HB1.out.grow hg2)
  have HG2 : Hid (Grow w w2) := HG1.out.trans hg2
  clear hg2 HB1 HG1 HS
  by_cases h3 : cs ≠ 0
  · have E2 := Lib.hid (show C = cs by rw [E.out, if_pos h3])
    have HNE := Lib.hid h3
    rw [eC_some h3]
    clear h3
    go_wp2
    go_ret
    exact n_ret E2.out _ (eC_some HNE.out).symm HG2.out
  have h3 : cs = 0 := by omega
  rw [if_neg (by simpa using h3)] at E
  rw [h3, eC_zero]
  clear h3
  obtain ⟨v0, v1, v2, v3, v4, v5, v6, v7, v8, v9, v10⟩ := HB2.out.c11
  go_wp2_with fail
  clear v0 v1 v2 v3 v4 v5 v6 v7 v8 v9 v10
  refine (HC.out _ HG2.out).mono ?_
  rintro e w3 ⟨rfl, hg3⟩
  have HB3 := Lib.hid (HB2.out.grow hg3)
  have HG3 : Hid (Grow w w3) := HG2.out.trans hg3
  clear hg3 HB2 HG2 HC
  by_cases h4 : cc ≠ 0
  · have E2 := Lib.hid (show C = cc by rw [E.out, if_pos h4])
    have HNE := Lib.hid h4
    rw [eC_some h4]
    clear h4
    go_wp2
    go_ret
    exact n_ret E2.out _ (eC_some HNE.out).symm HG3.out
  have h4 : cc = 0 := by omega
  rw [if_neg (by simpa using h4)] at E
  rw [h4, eC_zero]
  clear h4
  obtain ⟨v0, v1, v2, v3, v4, v5, v6, v7, v8, v9, v10⟩ := HB3.out.c11
  go_wp2_with fail
  clear v0 v1 v2 v3 v4 v5 v6 v7 v8 v9 v10
  refine (HN.out _ HG3.out).mono ?_
  rintro e w4 ⟨rfl, hg4⟩
  have HG4 : Hid (Grow w w4) := HG3.out.trans hg4
  clear hg4
  generalize hev : eC cn = ev
  have HE := Lib.hid hev
  clear hev
  go_wp2
  go_ret
  exact n_ret E.out _ HE.out.symm HG4.out
end Go.Proofs.Ythebemikhjglbaa
