/-
  The contract of model.checkSeg: what is wrong first with a segment.
-/
import Derived.Test.YthebemikhjglbaaMdMay
import Derived.Test.YthebemikhjglbaaMdWraps
import Derived.Test.YthebemikhjglbaaMdOnes
namespace Go.Proofs.Ythebemikhjglbaa
open Go.RowKit

theorem e_ret {a b : Nat} {w w' : World} (h : b = a) (v : Value) (hv : v = eC a) (hg : Grow w w') : Ending.returned v = .returned (eC b) ∧ Grow w w' := ⟨by rw [h, hv], hg⟩

set_option maxHeartbeats 2000000 in
theorem mSeg_any (m : Md) (A1 A2 : Option Addr) (n1 c1 n2 c2 : Nat) (s : Sg) (ok : s.Ok) (A : Option Addr) (n c : Nat) (w : World) (g1 : ZR sgK w w.heap.size A1 n1 c1 m.segs) (g : RB w w.heap.size A n c s.pl.own) :
    Calls Try.prog 39 #[.agg (mdC m (.slice A1 n1 c1) (.slice A2 n2 c2)), .agg (sgC s (.slice A n c))] w fun e w' => e = .returned (eC (m.segC s)) ∧ Grow w w' := by
  have HO := Lib.hid (fun w => ones_any s.align w ok.align)
  have HM := Lib.hid (fun w' (hg : Grow w w') => mMay_any m A1 A2 n1 c1 n2 c2 s.pl A n c w' (g1.grow hg) (g.grow hg))
  have HW := Lib.hid (fun w => mWraps_any s ok (.slice A n c) m.wide m.big w)
  have HL := Lib.hid (ones_le s.align)
  have E := Lib.hid (show m.segC s = if 1 < ones s.align then 6 else if m.may s.pl = false then 1 else if s.typ ≠ 1 then 0 else if s.pl.inn ≠ -1 then 1 else if s.memsz < s.pl.size then 5 else if s.wraps m.wide = true then 12 else 0 from rfl)
  unfold mdC at HM ⊢
  unfold sgC at HW ⊢
  unfold plC at HM
  clear g1 g ok
  generalize m.segC s = C at E ⊢
  generalize ones s.align = on at HO HL E
  generalize m.may s.pl = my at HM E
  generalize s.wraps m.wide = wr at HW E
  generalize m.wide = x0 at HM HW ⊢
  generalize m.big = x1 at HM HW ⊢
  generalize m.osabi = x2 at HM ⊢
  generalize m.abi = x3 at HM ⊢
  generalize m.typ = x4 at HM ⊢
  generalize m.mach = x5 at HM ⊢
  generalize m.flags = x6 at HM ⊢
  generalize m.entry = x7 at HM ⊢
  generalize m.str = x10 at HM ⊢
  generalize s.pl.inn = pi at HM HW E ⊢
  generalize s.pl.off = po at HM HW ⊢
  generalize s.pl.size = ps at HM HW E ⊢
  generalize s.typ = ty at HW E ⊢
  generalize s.flags = z1 at HW ⊢
  generalize s.vaddr = z2 at HW ⊢
  generalize s.paddr = z3 at HW ⊢
  generalize s.memsz = z4 at HW E ⊢
  generalize s.align = z5 at HO HW ⊢
  go_enter Try.func39, Try.ntmps39
  go_wp2_with fail
  generalize hW : World.alloc _ _ = W0
  obtain ⟨b1, b2, hg0⟩ := blk2 hW
  clear hW
  have HB1 := Lib.hid b1
  have HB2 := Lib.hid b2
  have HG0 := Lib.hid hg0
  obtain ⟨y0, y1, y2, y3, y4, y5, y6, y7, y8, y9⟩ := b2.c10
  clear b1 b2 hg0
  go_wp2_with fail
  clear y0 y1 y2 y3 y4 y5 y6 y7 y8 y9
  refine (HO.out _).mono ?_
  rintro e w' ⟨rfl, rfl⟩
  by_cases h1 : 1 < on
  · have E2 := Lib.hid (show C = 6 by rw [E.out, if_pos h1])
    have d : decide (1 < on) = true := decide_eq_true h1
    have d' : decide ((1 : Int) < (on : Int)) = true := decide_eq_true (by omega)
    clear h1
    go_wp2
    go_ret
    exact e_ret E2.out _ rfl HG0.out
  rw [if_neg h1] at E
  have d : decide (1 < on) = false := decide_eq_false h1
  have d' : decide ((1 : Int) < (on : Int)) = false := decide_eq_false (by omega)
  clear h1
  obtain ⟨y0, y1, y2, y3, y4, y5, y6, y7, y8, y9⟩ := HB2.out.c10
  obtain ⟨v0, v1, v2, v3, v4, v5, v6, v7, v8, v9, v10⟩ := HB1.out.c11
  go_wp2_with fail
  clear y0 y1 y2 y3 y4 y5 y6 y7 y8 y9 v0 v1 v2 v3 v4 v5 v6 v7 v8 v9 v10 d d'
  refine (HM.out _ HG0.out).mono ?_
  rintro e w1 ⟨rfl, hg1⟩
  have HB3 := Lib.hid (HB1.out.grow hg1)
  have HB4 := Lib.hid (HB2.out.grow hg1)
  have HG1 : Hid (Grow w w1) := HG0.out.trans hg1
  clear hg1 HB1 HB2 HG0 HM
  cases my with
  | false =>
    have E2 := Lib.hid (show C = 1 by rw [E.out, if_pos rfl])
    go_wp2
    go_ret
    exact e_ret E2.out _ rfl HG1.out
  | true =>
  rw [if_neg (by decide)] at E
  obtain ⟨y0, y1, y2, y3, y4, y5, y6, y7, y8, y9⟩ := HB4.out.c10
  by_cases h2 : ty ≠ 1
  · have E2 := Lib.hid (show C = 0 by rw [E.out, if_pos h2])
    have d : ((ty : Int) != 1) = true := by simp; omega
    clear h2
    go_wp2
    go_ret
    exact e_ret E2.out _ rfl HG1.out
  rw [if_neg h2] at E
  have d : ((ty : Int) != 1) = false := by simp; omega
  by_cases h3 : pi ≠ -1
  · have E2 := Lib.hid (show C = 1 by rw [E.out, if_pos h3])
    have d3 : (pi != -1) = true := by simpa using h3
    clear h2 h3
    go_wp2
    go_ret
    exact e_ret E2.out _ rfl HG1.out
  rw [if_neg h3] at E
  have d3 : (pi != -1) = false := by simpa using h3
  by_cases h4 : z4 < ps
  · have E2 := Lib.hid (show C = 5 by rw [E.out, if_pos h4])
    have d4 : decide (z4 < ps) = true := decide_eq_true h4
    clear h2 h3 h4
    go_wp2
    go_ret
    exact e_ret E2.out _ rfl HG1.out
  rw [if_neg h4] at E
  have d4 : decide (z4 < ps) = false := decide_eq_false h4
  obtain ⟨v0, v1, v2, v3, v4, v5, v6, v7, v8, v9, v10⟩ := HB3.out.c11
  clear h2 h3 h4
  go_wp2_with fail
  clear y0 y1 y2 y3 y4 y5 y6 y7 y8 y9 v0 v1 v2 v3 v4 v5 v6 v7 v8 v9 v10 d d3 d4
  refine (HW.out _).mono ?_
  rintro e w2 ⟨rfl, hg2⟩
  have HG2 : Hid (Grow w w2) := HG1.out.trans hg2
  clear hg2
  cases wr with
  | false =>
    have E2 := Lib.hid (show C = 0 by rw [E.out, if_neg (by decide)])
    go_wp2
    go_ret
    exact e_ret E2.out _ rfl HG2.out
  | true =>
    have E2 := Lib.hid (show C = 12 by rw [E.out, if_pos rfl])
    go_wp2
    go_ret
    exact e_ret E2.out _ rfl HG2.out
end Go.Proofs.Ythebemikhjglbaa
