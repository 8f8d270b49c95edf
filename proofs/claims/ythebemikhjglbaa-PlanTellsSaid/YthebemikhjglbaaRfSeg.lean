/-
  The contract of the document's own segment: what is wrong with a segment whose numbers fit the class.
-/
import Derived.Test.YthebemikhjglbaaRfPlace
import Derived.Test.YthebemikhjglbaaRfPow
namespace Go.Proofs.Ythebemikhjglbaa
open Go.RowKit

theorem r_ret {a b : Nat} {w w' : World} (h : b = a) (v : Int) (hv : v = (a : Int)) (hg : Grow w w') : Ending.returned (.int .i64 v) = .returned (.int .i64 (b : Int)) ∧ Grow w w' := ⟨by rw [h, hv], hg⟩

set_option maxHeartbeats 2000000 in
theorem rSeg_any (m : Md) (A1 A2 : Option Addr) (n1 c1 n2 c2 : Nat) (s : Sg) (ok : s.Ok) (A : Option Addr) (n c : Nat) (w : World) (g1 : ZR sgK w w.heap.size A1 n1 c1 m.segs) (g : RB w w.heap.size A n c s.pl.own)
    (hf : m.wide = false → s.vaddr < 4294967296 ∧ s.memsz < 4294967296) :
    Calls Try.prog 31 #[.agg (mdC m (.slice A1 n1 c1) (.slice A2 n2 c2)), .agg (sgC s (.slice A n c))] w fun e w' => e = .returned (.int .i64 (m.segC s : Nat)) ∧ Grow w w' := by
  have HO := Lib.hid (fun w => rPower_any s.align w ok.align)
  have HM := Lib.hid (fun w' (hg : Grow w w') => rPlace_any m A1 A2 n1 c1 n2 c2 s.pl A n c w' (g1.grow hg) (g.grow hg))
  have E := Lib.hid (show m.segC s = if 1 < ones s.align then 6 else if m.may s.pl = false then 1 else if s.typ ≠ 1 then 0 else if s.pl.inn ≠ -1 then 1 else if s.memsz < s.pl.size then 5 else if s.wraps m.wide = true then 12 else 0 from rfl)
  have EW := Lib.hid (show s.wraps m.wide = (decide (0 < s.memsz) && !decide (s.vaddr + (s.memsz - 1) ≤ lastA m.wide)) from rfl)
  have HV := Lib.hid ok.vaddr
  have HZ := Lib.hid ok.memsz
  have HF := Lib.hid hf
  unfold mdC at HM ⊢
  unfold plC at HM
  unfold sgC
  clear g1 g ok hf
  generalize m.segC s = C at E ⊢
  generalize ones s.align = on at HO E
  generalize m.may s.pl = my at HM E
  generalize s.wraps m.wide = wr at EW E
  generalize m.wide = x0 at HM EW HF ⊢
  generalize m.big = x1 at HM ⊢
  generalize m.osabi = x2 at HM ⊢
  generalize m.abi = x3 at HM ⊢
  generalize m.typ = x4 at HM ⊢
  generalize m.mach = x5 at HM ⊢
  generalize m.flags = x6 at HM ⊢
  generalize m.entry = x7 at HM ⊢
  generalize m.str = x10 at HM ⊢
  generalize s.pl.inn = pi at HM E ⊢
  generalize s.pl.off = po at HM ⊢
  generalize s.pl.size = ps at HM E ⊢
  generalize s.typ = ty at E ⊢
  generalize s.flags = z1
  generalize s.vaddr = z2 at EW HV HF ⊢
  generalize s.paddr = z3
  generalize s.memsz = z4 at E EW HZ HF ⊢
  generalize s.align = z5 at HO ⊢
  go_enter Try.func31, Try.ntmps31
  go_wp2_with fail
  generalize hW : World.alloc _ _ = W0
  obtain ⟨b1, b2, hg0⟩ := blk2 hW
  clear hW
  have HB1 := Lib.hid b1
  have HB2 := Lib.hid b2
  have HG0 := Lib.hid hg0
  clear b1 b2 hg0
  refine (HO.out _).mono ?_
  rintro e w' ⟨rfl, rfl⟩
  by_cases h1 : 1 < on
  · have E2 := Lib.hid (show C = 6 by rw [E.out, if_pos h1])
    have d : decide (on ≤ 1) = false := decide_eq_false (by omega)
    rw [d]
    clear h1 d
    go_wp2
    go_ret
    exact r_ret E2.out _ rfl HG0.out
  rw [if_neg h1] at E
  have d : decide (on ≤ 1) = true := decide_eq_true (by omega)
  rw [d]
  clear h1 d
  obtain ⟨y0, y1, y2, y3, y4, y5, y6, y7, y8, y9⟩ := HB2.out.c10
  obtain ⟨v0, v1, v2, v3, v4, v5, v6, v7, v8, v9, v10⟩ := HB1.out.c11
  go_wp2_with fail
  clear y0 y1 y2 y3 y4 y5 y6 y7 y8 y9 v0 v1 v2 v3 v4 v5 v6 v7 v8 v9 v10
  refine (HM.out _ HG0.out).mono ?_
  rintro e w1 ⟨rfl, hg1⟩
  have HB3 := Lib.hid (HB1.out.grow hg1)
  have HB4 := Lib.hid (HB2.out.grow hg1)
  have HG1 : Hid (Grow w w1) := HG0.out.trans hg1
  clear hg1 HB1 HB2 HG0 HM
  cases my with
  | false =>
    have E2 := Lib.hid (show C = 1 by rw [E.out, if_pos rfl])
    go_wp2
    go_ret
    exact r_ret E2.out _ rfl HG1.out
  | true =>
  rw [if_neg (by decide)] at E
  obtain ⟨y0, y1, y2, y3, y4, y5, y6, y7, y8, y9⟩ := HB4.out.c10
  have v0 := HB3.out.at 0
  by_cases h2 : ty ≠ 1
  · have E2 := Lib.hid (show C = 0 by rw [E.out, if_pos h2])
    have d : ((ty : Int) != 1) = true := by simp; omega
    have d' : ((ty : Int) == 1) = false := by simp; omega
    clear h2
    go_wp2
    go_ret
    exact r_ret E2.out _ rfl HG1.out
  rw [if_neg h2] at E
  have d : ((ty : Int) != 1) = false := by simp; omega
  have d' : ((ty : Int) == 1) = true := by simp; omega
  by_cases h3 : pi ≠ -1
  · have E2 := Lib.hid (show C = 1 by rw [E.out, if_pos h3])
    have d3 : (pi != -1) = true := by simpa using h3
    clear h2 h3
    go_wp2
    go_ret
    exact r_ret E2.out _ rfl HG1.out
  rw [if_neg h3] at E
  have d3 : (pi != -1) = false := by simpa using h3
  by_cases h4 : z4 < ps
  · have E2 := Lib.hid (show C = 5 by rw [E.out, if_pos h4])
    have d4 : decide (z4 < ps) = true := decide_eq_true h4
    have d4' : decide ((z4 : Int) < (ps : Int)) = true := decide_eq_true (by omega)
    clear h2 h3 h4
    go_wp2
    go_ret
    exact r_ret E2.out _ rfl HG1.out
  rw [if_neg h4] at E
  have d4 : decide (z4 < ps) = false := decide_eq_false h4
  have d4' : decide ((z4 : Int) < (ps : Int)) = false := decide_eq_false (by omega)
  clear h2 h3 h4
  cases x0 with
  | true =>
    by_cases h5 : z2 = 0
    · have E2 : Hid (C = 0) := Lib.hid (by
        have hw : wr = false := by
          rw [EW.out]
          have := HZ.out
          simp [lastA, byWide]
          omega
        rw [E.out, hw]
        rfl)
      have d5 : ((z2 : Int) != 0) = false := by simp; omega
      clear h5
      go_wp2
      go_ret
      exact r_ret E2.out _ rfl HG1.out
    · have d5 : ((z2 : Int) != 0) = true := by simp; omega
      obtain ⟨q, hq⟩ : ∃ q : Nat, q = 18446744073709551616 - z2 := ⟨_, rfl⟩
      have i1 : IntKind.u64.wrap (18446744073709551615 - (z2 : Int)) = 18446744073709551615 - (z2 : Int) := by have := HV.out; rw [IntKind.wrap_u64]; omega
      have i2 : IntKind.u64.wrap (18446744073709551615 - (z2 : Int) + 1) = (q : Int) := by have := HV.out; rw [IntKind.wrap_u64]; omega
      by_cases h6 : q < z4
      · have d6 : decide ((q : Int) < (z4 : Int)) = true := decide_eq_true (by omega)
        have d6' : decide (q < z4) = true := decide_eq_true h6
        have E2 : Hid (C = 12) := Lib.hid (by
          have hw : wr = true := by
            rw [EW.out]
            simp [lastA, byWide]
            omega
          rw [E.out, hw]
          rfl)
        clear h5 h6 hq
        go_wp2
        go_ret
        exact r_ret E2.out _ rfl HG1.out
      · have d6 : decide ((q : Int) < (z4 : Int)) = false := decide_eq_false (by omega)
        have d6' : decide (q < z4) = false := decide_eq_false h6
        have E2 : Hid (C = 0) := Lib.hid (by
          have hw : wr = false := by
            rw [EW.out]
            have := HV.out
            simp [lastA, byWide]
            omega
          rw [E.out, hw]
          rfl)
        clear h5 h6 hq
        go_wp2
        go_ret
        exact r_ret E2.out _ rfl HG1.out
  | false =>
    have i1 : IntKind.u64.wrap ((z2 : Int) + (z4 : Int)) = ((z2 + z4 : Nat) : Int) := by have := HF.out rfl; rw [IntKind.wrap_u64]; omega
    obtain ⟨q, hq⟩ : ∃ q : Nat, z2 + z4 = q := ⟨_, rfl⟩
    rw [hq] at i1
    by_cases h6 : 4294967296 < q
    · have d6 : decide ((4294967296 : Int) < (q : Int)) = true := decide_eq_true (by omega)
      have d6' : decide (4294967296 < q) = true := decide_eq_true h6
      have E2 : Hid (C = 12) := Lib.hid (by
        have hw : wr = true := by
          have := HF.out rfl
          rw [EW.out]
          simp [lastA, byWide]
          omega
        rw [E.out, hw]
        rfl)
      clear h6 hq
      go_wp2
      go_ret
      exact r_ret E2.out _ rfl HG1.out
    · have d6 : decide ((4294967296 : Int) < (q : Int)) = false := decide_eq_false (by omega)
      have d6' : decide (4294967296 < q) = false := decide_eq_false h6
      have E2 : Hid (C = 0) := Lib.hid (by
        have hw : wr = false := by
          rw [EW.out]
          simp [lastA, byWide]
          omega
        rw [E.out, hw]
        rfl)
      clear h6 hq
      go_wp2
      go_ret
      exact r_ret E2.out _ rfl HG1.out
end Go.Proofs.Ythebemikhjglbaa
