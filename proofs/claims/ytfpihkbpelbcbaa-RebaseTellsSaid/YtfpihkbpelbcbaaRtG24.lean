/-
  Several texts in one: The contracts of the document's own power and next; The contract of the document's own segment; The contract of the document's own Name (layer 7); The contract of the document's own names; The contract of the document's own fit.
-/
import Derived.Test.YtfpihkbpelbcbaaRtG2
import Derived.Test.YtfpihkbpelbcbaaRtG1
import Derived.WalkKit
import Derived.Test.YtfpihkbpelbcbaaRtG17
import Derived.Test.YtfpihkbpelbcbaaRtG4
import Derived.Test.YtfpihkbpelbcbaaRtG18
import Derived.Test.YtfpihkbpelbcbaaRtG5
namespace Go.Proofs.Ytfpihkbpelbcbaa
open Go.Lib (hid)
open Go.RowKit
theorem ones_half {x : Nat} (h : x % 2 = 0) (hx : x < 18446744073709551616) : ones (x / 2) = ones x := by
 have e1 := onesF_add 1 63 x
 have e2 : ones x = onesF 1 x + onesF 63 (x / 2) := e1
 have e3 := onesF_add 63 1 (x / 2)
 have e4 : ones (x / 2) = onesF 63 (x / 2) + onesF 1 (x / 2 / 2 ^ 63) := e3
 rw [Nat.div_div_eq_div_mul] at e4
 have e5 : x / (2 * 2 ^ 63) = 0 := by
  rw [show (2 : Nat) * 2 ^ 63 = 18446744073709551616 by decide]
  omega
 rw [e5, onesF_zero] at e4
 have e6 : onesF 1 x = 0 := by simp [onesF, h]
 omega
theorem ones_end {x : Nat} (hx : x < 18446744073709551616) (h : ¬ (1 < x ∧ x % 2 = 0)) : (ones x ≤ 1 ↔ x ≤ 1) := by
 constructor
 ·intro h1
  rcases Nat.lt_or_ge 1 x with h2 | h2
  ·exact absurd ⟨h2, ones_even hx h1 h2⟩ h
  ·exact h2
 ·intro h1
  rw [ones_one x hx]
  rcases Nat.lt_or_ge 0 x with h2 | h2
  ·exact .inr ⟨0, by omega⟩
  ·exact .inl (by omega)
set_option maxHeartbeats 400000 in
theorem rPower_any (v : Nat) (w : World) (hv : v < 18446744073709551616) :
  Calls Try.prog 33 #[.int .u64 (v : Int)] w fun e w' => e = .returned (.bool (decide (ones v ≤ 1))) ∧ w = w' := by
 go_enter Try.func33, Try.ntmps33
 go_wp2_with fail
 go_loop [0] (fun i => ∃ x : Nat, i = .int .u64 (x : Int) ∧ x < 18446744073709551616 ∧ Hid (ones x = ones v)) (fun i => (intOf i).toNat)
 case atStart => exact ⟨v, rfl, hv, hid rfl⟩
 case round =>
  obtain ⟨x, rfl, hx, HX⟩ := hrel
  by_cases h1 : 1 < x
  ·have d1 : decide ((1 : Int) < (x : Int)) = true := decide_eq_true (by omega)
   have d1' : decide (1 < x) = true := decide_eq_true h1
   by_cases h2 : x % 2 = 0
   ·have HH : Hid (ones (x / 2) = ones v) := hid ((ones_half h2 hx).trans HX.out)
    have d2 : (Int.tmod (x : Int) 2 == 0) = true := by
     rw [show Int.tmod (x : Int) 2 = ((x % 2 : Nat) : Int) from rfl, h2]; rfl
    have d3 : Int.tdiv (x : Int) 2 = ((x / 2 : Nat) : Int) := rfl
    have d4 : ((x : Int) % 2 == 0) = true := by simp; omega
    have d5 : (x : Int) / 2 = ((x / 2 : Nat) : Int) := rfl
    have HQ := hid (show x / 2 < x ∧ x / 2 < 18446744073709551616 by omega)
    generalize x / 2 = y at d3 d5 HH HQ
    clear h2
    go_wp2
    go_round
    case rel => exact ⟨y, by go_num, HQ.out.2, HH⟩
    case measure => have := HQ.out.1; simp [intOf]; omega
   ·have E := hid (show decide (ones v ≤ 1) = decide (x ≤ 1) by rw [← HX.out]; exact decide_eq_decide.2 (ones_end hx (by omega)))
    have d2 : (Int.tmod (x : Int) 2 == 0) = false := by
     rw [show Int.tmod (x : Int) 2 = ((x % 2 : Nat) : Int) from rfl]
     simp
     omega
    have d4 : ((x : Int) % 2 == 0) = false := by simp; omega
    have d5 : decide ((x : Int) ≤ 1) = false := decide_eq_false (by omega)
    have d6 : decide (x ≤ 1) = false := decide_eq_false (by omega)
    rw [d6] at E
    clear h1 h2 hx
    go_wp2
    go_ret
    exact ⟨ret_bool E.out.symm, rfl⟩
  ·have E := hid (show decide (ones v ≤ 1) = decide (x ≤ 1) by rw [← HX.out]; exact decide_eq_decide.2 (ones_end hx (by omega)))
   have d1 : decide ((1 : Int) < (x : Int)) = false := decide_eq_false (by omega)
   have d1' : decide (1 < x) = false := decide_eq_false h1
   have d5 : decide ((x : Int) ≤ 1) = true := decide_eq_true (by omega)
   have d6 : decide (x ≤ 1) = true := decide_eq_true (by omega)
   rw [d6] at E
   clear h1 hx
   go_wp2
   go_ret
   exact ⟨ret_bool E.out.symm, rfl⟩
theorem r_ret {a b : Nat} {w w' : World} (h : b = a) (v : Int) (hv : v = (a : Int)) (hg : Grow w w') : Ending.returned (.int .i64 v) = .returned (.int .i64 (b : Int)) ∧ Grow w w' := ⟨by rw [h, hv], hg⟩
set_option maxHeartbeats 2000000 in
theorem rSeg_any (m : Md) (A1 A2 : Option Addr) (n1 c1 n2 c2 : Nat) (s : Sg) (ok : s.Ok) (A : Option Addr) (n c : Nat) (w : World) (g1 : ZR sgK w w.heap.size A1 n1 c1 m.segs) (g : RB w w.heap.size A n c s.pl.own)
  (hf : m.wide = false → s.vaddr < 4294967296 ∧ s.memsz < 4294967296) :
  Calls Try.prog 12 #[.agg (mdC m (.slice A1 n1 c1) (.slice A2 n2 c2)), .agg (sgC s (.slice A n c))] w fun e w' => e = .returned (.int .i64 (m.segC s : Nat)) ∧ Grow w w' := by
 have HO := hid (fun w => rPower_any s.align w ok.align)
 have HM := hid (fun w' (hg : Grow w w') => rPlace_any m A1 A2 n1 c1 n2 c2 s.pl A n c w' (g1.grow hg) (g.grow hg))
 have E := hid (show m.segC s = if 1 < ones s.align then 6 else if m.may s.pl = false then 1 else if s.typ ≠ 1 then 0 else if s.pl.inn ≠ -1 then 1 else if s.memsz < s.pl.size then 5 else if s.wraps m.wide = true then 12 else 0 from rfl)
 have EW := hid (show s.wraps m.wide = (decide (0 < s.memsz) && !decide (s.vaddr + (s.memsz - 1) ≤ lastA m.wide)) from rfl)
 have HV := hid ok.vaddr
 have HZ := hid ok.memsz
 have HF := hid hf
 unfold mdC at HM ⊢
 unfold plC at HM
 unfold sgC
 clear g1 g ok hf
 generalize m.segC s = C at E ⊢
 generalize ones s.align = on at HO E
 generalize m.may s.pl = my at HM E
 generalize s.wraps m.wide = wr at EW E
 generalize m.wide = x0 at HM EW HF ⊢
 generalize m.big = x1 at HM ⊢
 generalize m.osabi = x2 at HM ⊢
 generalize m.abi = x3 at HM ⊢
 generalize m.typ = x4 at HM ⊢
 generalize m.mach = x5 at HM ⊢
 generalize m.flags = x6 at HM ⊢
 generalize m.entry = x7 at HM ⊢
 generalize m.str = x10 at HM ⊢
 generalize s.pl.inn = pi at HM E ⊢
 generalize s.pl.off = po at HM ⊢
 generalize s.pl.size = ps at HM E ⊢
 generalize s.typ = ty at E ⊢
 generalize s.flags = z1
 generalize s.vaddr = z2 at EW HV HF ⊢
 generalize s.paddr = z3
 generalize s.memsz = z4 at E EW HZ HF ⊢
 generalize s.align = z5 at HO ⊢
 go_enter Try.func12, Try.ntmps12
 go_wp2_with fail
 generalize hW : World.alloc _ _ = W0
 obtain ⟨b1, b2, hg0⟩ := blk2 hW
 clear hW
 have HB1 := hid b1
 have HB2 := hid b2
 have HG0 := hid hg0
 clear b1 b2 hg0
 refine (HO.out _).mono ?_
 rintro e w' ⟨rfl, rfl⟩
 by_cases h1 : 1 < on
 ·have E2 := hid (show C = 6 by rw [E.out, if_pos h1])
  have d : decide (on ≤ 1) = false := decide_eq_false (by omega)
  rw [d]
  clear h1 d
  go_wp2
  go_ret
  exact r_ret E2.out _ rfl HG0.out
 rw [if_neg h1] at E
 have d : decide (on ≤ 1) = true := decide_eq_true (by omega)
 rw [d]
 clear h1 d
 obtain ⟨y0, y1, y2, y3, y4, y5, y6, y7, y8, y9⟩ := HB2.out.c10
 obtain ⟨v0, v1, v2, v3, v4, v5, v6, v7, v8, v9, v10⟩ := HB1.out.c11
 go_wp2_with fail
 clear y0 y1 y2 y3 y4 y5 y6 y7 y8 y9 v0 v1 v2 v3 v4 v5 v6 v7 v8 v9 v10
 refine (HM.out _ HG0.out).mono ?_
 rintro e w1 ⟨rfl, hg1⟩
 have HB3 := hid (HB1.out.grow hg1)
 have HB4 := hid (HB2.out.grow hg1)
 have HG1 : Hid (Grow w w1) := HG0.out.trans hg1
 clear hg1 HB1 HB2 HG0 HM
 cases my with
 | false =>
  have E2 := hid (show C = 1 by rw [E.out, if_pos rfl])
  go_wp2
  go_ret
  exact r_ret E2.out _ rfl HG1.out
 | true =>
 rw [if_neg (by decide)] at E
 obtain ⟨y0, y1, y2, y3, y4, y5, y6, y7, y8, y9⟩ := HB4.out.c10
 have v0 := HB3.out.at 0
 by_cases h2 : ty ≠ 1
 ·have E2 := hid (show C = 0 by rw [E.out, if_pos h2])
  have d : ((ty : Int) != 1) = true := by simp; omega
  have d' : ((ty : Int) == 1) = false := by simp; omega
  clear h2
  go_wp2
  go_ret
  exact r_ret E2.out _ rfl HG1.out
 rw [if_neg h2] at E
 have d : ((ty : Int) != 1) = false := by simp; omega
 have d' : ((ty : Int) == 1) = true := by simp; omega
 by_cases h3 : pi ≠ -1
 ·have E2 := hid (show C = 1 by rw [E.out, if_pos h3])
  have d3 : (pi != -1) = true := by simpa using h3
  clear h2 h3
  go_wp2
  go_ret
  exact r_ret E2.out _ rfl HG1.out
 rw [if_neg h3] at E
 have d3 : (pi != -1) = false := by simpa using h3
 by_cases h4 : z4 < ps
 ·have E2 := hid (show C = 5 by rw [E.out, if_pos h4])
  have d4 : decide (z4 < ps) = true := decide_eq_true h4
  have d4' : decide ((z4 : Int) < (ps : Int)) = true := decide_eq_true (by omega)
  clear h2 h3 h4
  go_wp2
  go_ret
  exact r_ret E2.out _ rfl HG1.out
 rw [if_neg h4] at E
 have d4 : decide (z4 < ps) = false := decide_eq_false h4
 have d4' : decide ((z4 : Int) < (ps : Int)) = false := decide_eq_false (by omega)
 clear h2 h3 h4
 cases x0 with
 | true =>
  by_cases h5 : z2 = 0
  ·have E2 : Hid (C = 0) := hid (by
    have hw : wr = false := by
     rw [EW.out]
     have := HZ.out
     simp [lastA, byWide]
     omega
    rw [E.out, hw]
    rfl)
   have d5 : ((z2 : Int) != 0) = false := by simp; omega
   clear h5
   go_wp2
   go_ret
   exact r_ret E2.out _ rfl HG1.out
  ·have d5 : ((z2 : Int) != 0) = true := by simp; omega
   obtain ⟨q, hq⟩ : ∃ q : Nat, q = 18446744073709551616 - z2 := ⟨_, rfl⟩
   have i1 : IntKind.u64.wrap (18446744073709551615 - (z2 : Int)) = 18446744073709551615 - (z2 : Int) := by have := HV.out; rw [IntKind.wrap_u64]; omega
   have i2 : IntKind.u64.wrap (18446744073709551615 - (z2 : Int) + 1) = (q : Int) := by have := HV.out; rw [IntKind.wrap_u64]; omega
   by_cases h6 : q < z4
   ·have d6 : decide ((q : Int) < (z4 : Int)) = true := decide_eq_true (by omega)
    have d6' : decide (q < z4) = true := decide_eq_true h6
    have E2 : Hid (C = 12) := hid (by
     have hw : wr = true := by
      rw [EW.out]
      simp [lastA, byWide]
      omega
     rw [E.out, hw]
     rfl)
    clear h5 h6 hq
    go_wp2
    go_ret
    exact r_ret E2.out _ rfl HG1.out
   ·have d6 : decide ((q : Int) < (z4 : Int)) = false := decide_eq_false (by omega)
    have d6' : decide (q < z4) = false := decide_eq_false h6
    have E2 : Hid (C = 0) := hid (by
     have hw : wr = false := by
      rw [EW.out]
      have := HV.out
      simp [lastA, byWide]
      omega
     rw [E.out, hw]
     rfl)
    clear h5 h6 hq
    go_wp2
    go_ret
    exact r_ret E2.out _ rfl HG1.out
 | false =>
  have i1 : IntKind.u64.wrap ((z2 : Int) + (z4 : Int)) = ((z2 + z4 : Nat) : Int) := by have := HF.out rfl; rw [IntKind.wrap_u64]; omega
  obtain ⟨q, hq⟩ : ∃ q : Nat, z2 + z4 = q := ⟨_, rfl⟩
  rw [hq] at i1
  by_cases h6 : 4294967296 < q
  ·have d6 : decide ((4294967296 : Int) < (q : Int)) = true := decide_eq_true (by omega)
   have d6' : decide (4294967296 < q) = true := decide_eq_true h6
   have E2 : Hid (C = 12) := hid (by
    have hw : wr = true := by
     have := HF.out rfl
     rw [EW.out]
     simp [lastA, byWide]
     omega
    rw [E.out, hw]
    rfl)
   clear h6 hq
   go_wp2
   go_ret
   exact r_ret E2.out _ rfl HG1.out
  ·have d6 : decide ((4294967296 : Int) < (q : Int)) = false := decide_eq_false (by omega)
   have d6' : decide (4294967296 < q) = false := decide_eq_false h6
   have E2 : Hid (C = 0) := hid (by
    have hw : wr = false := by
     rw [EW.out]
     simp [lastA, byWide]
     omega
    rw [E.out, hw]
    rfl)
   clear h6 hq
   go_wp2
   go_ret
   exact r_ret E2.out _ rfl HG1.out
theorem RB.piece {w : World} {B b off n c p m : Nat} {l : List UInt8} (h : RB w B (some ⟨b, off, none⟩) n c l) (hp : p + m ≤ n) : RB w B (some ⟨b, off + p, none⟩) m (c - p) ((l.drop p).take m) := by
 by_cases h0 : 0 < m
 ·exact h.sub hp h0
 ·have : m = 0 := by omega
  subst this
  have := h.max
  exact ⟨by simp, by omega, by omega, fun h => absurd h (by omega)⟩
theorem nameAt_hit {l : Bs} {off k : Nat} (hk : off ≤ k) (h0 : ∀ j, off ≤ j → j < k → l[j]? ≠ some 0) (h : l[k]? = some 0) : nameAt l off = some ((l.drop off).take (k - off)) := by
 refine cut0_at (fun j hj => ?_) ?_
 ·rw [List.getElem?_drop]; exact h0 _ (by omega) (by omega)
 ·rw [List.getElem?_drop, show off + (k - off) = k by omega]; exact h
theorem nameAt_miss {l : Bs} {off : Nat} (h0 : ∀ j, off ≤ j → j < l.length → l[j]? ≠ some 0) : nameAt l off = none := by
 refine cut0_none.2 fun b hb e => ?_
 subst e
 obtain ⟨j, hj⟩ := List.getElem?_of_mem hb
 rw [List.getElem?_drop] at hj
 exact h0 (off + j) (by omega) (List.getElem?_eq_some_iff.1 hj).1 hj
set_option maxHeartbeats 400000 in
theorem rName_any (A : Option Addr) (n c : Nat) (l : Bs) (off : Nat) (w : World) (h : RB w w.heap.size A n c l) (hof : off < 18446744073709551616) :
  Calls Try.prog 36 #[.slice A n c, .int .u64 off] w (GotN l off w) := by
 have HS := hid h
 have HL := hid h.len
 have hc := h.cap
 have hm := h.max
 unfold maxLen at hm
 clear h
 by_cases hfar : n ≤ off
 ·have E := hid (nameAt_far (l := l) (off := off) (by rw [← HL.out]; exact hfar))
  go_enter Try.func36, Try.ntmps36
  go_wp2
  go_ret2
  exact gotN_none E.out
 ·obtain ⟨b, o, rfl, hb, hcell⟩ := HS.out.pos (by omega)
  have HC := hid hcell
  clear hcell hb
  go_enter Try.func36, Try.ntmps36
  go_wp2
  go_loop [6] (fun i => ∃ k : Nat, off ≤ k ∧ k ≤ n ∧ i = .int .i64 k ∧ Hid (∀ j, off ≤ j → j < k → l[j]? ≠ some 0)) (fun i => n - (intOf i).toNat)
  case atStart => exact ⟨off, Nat.le_refl _, by omega, rfl, hid fun j h1 h2 => absurd h2 (by omega)⟩
  case round =>
   obtain ⟨k, hok, hk, rfl, HK⟩ := hrel
   by_cases hlt : k < n
   ·have hkl : k < l.length := by rw [← HL.out]; exact hlt
    have q := HC.out k hkl
    have HG := hid (List.getElem?_eq_getElem hkl)
    generalize l[k] = u at q HG
    by_cases hu : u = 0
    ·subst hu
     have hp := HS.out.piece (p := off) (m := k - off) (by omega)
     have hcv := hp.conv (Nat.le_refl _) w (Grow.refl _)
     have E := hid (nameAt_hit hok HK.out HG.out)
     have i2 : ¬ c = off := by omega
     have i3 : off ≤ k := by omega
     have i4 : k ≤ c := by omega
     rw [show (0 : UInt8).toNat = 0 from rfl] at q
     clear hkl HK HG hp
     go_wp2
     go_ret2
     exact gotN_some E.out
    ·have hz : ((u.toNat : Int) == 0) = false := by
      rw [beq_eq_false_iff_ne]
      intro e
      exact hu (by rw [← UInt8.toNat_inj]; simpa using e)
     have HU := hid hu
     clear hkl hu
     go_wp2
     go_round
     case rel =>
      refine ⟨k + 1, by omega, by omega, by go_num, hid fun j h1 h2 => ?_⟩
      by_cases e : j < k
      ·exact HK.out j h1 e
      ·have : j = k := by omega
       subst this
       rw [HG.out]
       intro e2
       injection e2 with e2
       exact HU.out e2
     case measure => simp [intOf]; omega
   ·have E := hid (nameAt_miss (l := l) (off := off) fun j h1 h2 => HK.out j h1 (by rw [← HL.out] at h2; omega))
    go_wp2
    go_ret2
    exact gotN_none E.out
set_option maxHeartbeats 4000000 in
theorem rNames_any (m : Md) (ok : m.Ok) (A1 A2 : Option Addr) (n1 c1 n2 c2 : Nat) (w : World) (g2 : ZR seK w w.heap.size A2 n2 c2 m.secs) :
  Calls Try.prog 15 #[.agg (mdC m (.slice A1 n1 c1) (.slice A2 n2 c2))] w fun e w' => e = .returned (.int .i64 (m.namesC : Nat)) ∧ Grow w w' := by
 obtain ⟨x0, x1, x2, x3, x4, x5, x6, x7, hC⟩ : ∃ x0 x1 x2 x3 x4 x5 x6 x7 : Value, mdC m (.slice A1 n1 c1) (.slice A2 n2 c2) = #[x0, x1, x2, x3, x4, x5, x6, x7, .slice A1 n1 c1, .slice A2 n2 c2, .int .i64 m.str] := ⟨_, _, _, _, _, _, _, _, rfl⟩
 rw [hC]
 have hcm := g2.max
 have hcc := g2.cap
 have HL := hid g2.len
 have HZ := hid g2
 have HOk := hid ok.secs
 have EN := hid (show m.namesC = if m.str < 0 then 10 else if (n2 : Int) < m.str then 10 else if m.named then 0 else 9 by rw [HL.out]; rfl)
 unfold maxLen at hcm
 by_cases hneg : m.str < 0
 ·have E := hid (show m.namesC = 10 by rw [EN.out, if_pos hneg])
  have d : decide (m.str < 0) = true := decide_eq_true hneg
  generalize m.namesC = C at E ⊢
  generalize m.str = S at d ⊢
  clear EN hneg hC g2 ok HZ HL HOk
  go_enter Try.func15, Try.ntmps15
  go_wp2
  go_ret
  exact r_ret E.out _ rfl (Grow.of_alloc _ _)
 rw [if_neg hneg] at EN
 have dn : decide (m.str < 0) = false := decide_eq_false hneg
 by_cases hbig : (n2 : Int) < m.str
 ·have E := hid (show m.namesC = 10 by rw [EN.out, if_pos hbig])
  have d : decide ((n2 : Int) < m.str) = true := decide_eq_true hbig
  generalize m.namesC = C at E ⊢
  generalize m.str = S at d dn ⊢
  clear EN hneg hC g2 ok HZ HL HOk hbig
  go_enter Try.func15, Try.ntmps15
  go_wp2
  go_ret
  exact r_ret E.out _ rfl (Grow.of_alloc _ _)
 rw [if_neg hbig] at EN
 by_cases hs : m.str = 0
 ·have E := hid (show m.named = m.secs.all fun s => decide (s.name = 0) by unfold Md.named; rw [if_pos hs])
  rw [E.out] at EN
  rw [hs]
  have d0 : decide ((n2 : Int) < 0) = false := decide_eq_false (by omega)
  generalize m.namesC = C at EN ⊢
  generalize m.secs = L at HL HZ HOk EN
  clear hC g2 ok hs hneg hbig E dn
  go_enter Try.func15, Try.ntmps15
  go_wp2_with fail
  generalize hW : World.alloc _ _ = W0
  obtain ⟨b1, hg0⟩ := blk1 hW
  clear hW d0
  have HB := hid b1
  have HG0 := hid hg0
  clear b1 hg0
  go_loopw [3] (fun i wr => ∃ q : Nat, q ≤ n2 ∧ i = .int .i64 q ∧ (∀ s ∈ L.take q, s.name = 0) ∧ Grow W0 wr) (fun i _ => n2 - (intOf i).toNat)
  case atStart => exact ⟨0, by omega, rfl, fun s h => absurd h (by simp), Grow.refl _⟩
  case round =>
   obtain ⟨q, hq, rfl, hz, hg⟩ := hrel
   have HZ0 := hid hz
   have HG := hid hg
   have HB1 := hid (HB.out.grow hg)
   have y9 := HB1.out.at 9
   have y10 := HB1.out.at 10
   clear hz hg
   by_cases hlt : q < n2
   ·have hkl : q < L.length := by rw [← HL.out]; exact hlt
    obtain ⟨b, off, rfl, hb⟩ := HZ.out.pos (by omega)
    obtain ⟨Ak, nk, ck, -, hcell, -⟩ := HZ.out.at hkl
    have t0 : wr.cell? ⟨b, off + q * 13, none⟩ = some (.int .u32 (L[q].name : Nat)) := (Below.cell (HG0.out.trans HG.out) hb).trans (hcell 0 _ rfl)
    have HT := hid (takeS L q hkl)
    have HMem := hid (List.getElem_mem hkl)
    generalize L[q] = s at t0 HT HMem
    clear hcell hb hkl
    by_cases hn : s.name = 0
    ·have d : ((s.name : Int) != 0) = false := by simp [hn]
     have HZ1 : Hid (∀ s ∈ L.take (q + 1), s.name = 0) := hid fun a ha => by
      rw [HT.out] at ha
      rcases List.mem_append.1 ha with h | h
      ·exact HZ0.out a h
      ·obtain rfl : a = s := by simpa using h
       exact hn
     clear hn
     go_wp2
     go_roundw
     case rel => exact ⟨q + 1, by omega, by go_num, HZ1.out, HG.out⟩
     case measure => simp [intOf]; omega
    ·have d : ((s.name : Int) != 0) = true := by simp; omega
     have E := hid (show C = 9 by
      rw [EN.out, if_neg]
      intro h
      exact hn (by simpa using List.all_eq_true.1 h s HMem.out))
     clear hn
     go_wp2
     go_ret
     exact r_ret E.out _ rfl (HG0.out.trans HG.out)
   ·have hqn : q = n2 := by omega
    have E := hid (show C = 0 by
     rw [EN.out, if_pos]
     have h := HZ0.out
     rw [List.take_of_length_le (by have := HL.out; omega)] at h
     exact List.all_eq_true.2 fun s hs => by simp [h s hs])
    clear hqn
    go_wp2
    go_ret
    exact r_ret E.out _ rfl (HG0.out.trans HG.out)
 ·obtain ⟨k, hk⟩ : ∃ k : Nat, m.str = (k : Int) + 1 := ⟨(m.str - 1).toNat, by omega⟩
  have hkl : k < m.secs.length := by have := g2.len; omega
  have hkn : k < n2 := by omega
  have E0 := hid (show m.named = (decide (m.tab.typ = 3) && decide (m.tab.pl.inn = -1) && m.secs.all fun s => (nameAt m.tab.pl.own s.name).isSome) by unfold Md.named; rw [if_neg hs])
  rw [m.tab_at k hk hkl] at E0
  obtain ⟨b, off, rfl, hb⟩ := g2.pos (by omega)
  obtain ⟨At, nt, ct, -, hcell, gt⟩ := g2.at hkl
  have hcellT : ∀ i v, (seC m.secs[k] (.slice At nt ct))[i]? = some v → w.cell? ⟨b, off + k * 13 + i, none⟩ = some v := hcell
  have HGT : Hid (RB w w.heap.size At nt ct m.secs[k].pl.own) := hid gt
  have HBb := hid hb
  rw [hk]
  unfold seC at hcellT
  generalize m.secs[k] = t at E0 hcellT HGT
  have HT0 := hid hcellT
  have d0 : decide ((k : Int) + 1 < 0) = false := decide_eq_false (by omega)
  have d1 : decide ((n2 : Int) < (k : Int) + 1) = false := decide_eq_false (by omega)
  generalize m.secs = L at HL HZ HOk E0
  clear hC g2 ok hs hneg hbig dn hcell hcellT gt hkl hk hb
  have e1 : ((k : Int) + 1 == 0) = false := by simp; omega
  have e2 : IntKind.i64.wrap ((k : Int) + 1 - 1) = (k : Int) := by rw [IntKind.wrap_i64]; omega
  generalize m.named = R at E0 EN
  generalize m.namesC = C at EN ⊢
  go_enter Try.func15, Try.ntmps15
  go_wp2_with fail
  generalize hW : World.alloc _ _ = W0
  obtain ⟨b1, hg0⟩ := blk1 hW
  clear hW d0 d1
  have HB := hid b1
  have HG0 := hid hg0
  clear b1 hg0
  go_loopw [3] (fun i wr => ∃ q : Nat, q ≤ n2 ∧ i = .int .i64 q ∧ Grow W0 wr) (fun i _ => n2 - (intOf i).toNat)
  case atStart => exact ⟨0, by omega, rfl, Grow.refl _⟩
  case round =>
   obtain ⟨q, hq, rfl, hg⟩ := hrel
   have HG := hid hg
   have HB1 := hid (HB.out.grow hg)
   have y9 := HB1.out.at 9
   have y10 := HB1.out.at 10
   clear hg
   by_cases hlt : q < n2
   ·go_wp2
    go_roundw
    case rel => exact ⟨q + 1, by omega, by go_num, HG.out⟩
    case measure => simp [intOf]; omega
   ·have HcW : Hid (∀ i v, (seC t (.slice At nt ct))[i]? = some v → wr.cell? ⟨b, off + k * 13 + i, none⟩ = some v) := hid fun i v hv => (Below.cell (HG0.out.trans HG.out) HBb.out).trans (HT0.out i v hv)
    have hcW := HcW.out
    unfold seC at hcW
    have t0 : wr.cell? ⟨b, off + k * 13, none⟩ = _ := hcW 0 _ rfl
    have t1 := hcW 1 _ rfl
    have t2 := hcW 2 _ rfl
    have t3 := hcW 3 _ rfl
    have t4 := hcW 4 _ rfl
    have t5 := hcW 5 _ rfl
    have t6 := hcW 6 _ rfl
    have t7 := hcW 7 _ rfl
    have t8 := hcW 8 _ rfl
    have t9 := hcW 9 _ rfl
    have t10 := hcW 10 _ rfl
    have t11 := hcW 11 _ rfl
    have t12 := hcW 12 _ rfl
    clear hcW HcW HT0
    generalize t.pl.own = own at E0 HGT
    generalize t.typ = ty at E0 t1
    generalize t.pl.inn = pi at E0 t9
    by_cases h3 : ty ≠ 3
    ·have E := hid (show C = 9 by rw [EN.out, E0.out]; simp [h3])
     have d3 : ((ty : Int) != 3) = true := by simp; omega
     clear h3
     go_wp2
     go_ret
     exact r_ret E.out _ rfl ((HG0.out.trans HG.out).trans (Grow.of_alloc _ _))
    have h3 : ty = 3 := by omega
    by_cases hi : pi ≠ -1
    ·have E := hid (show C = 9 by rw [EN.out, E0.out]; simp [hi])
     have d3 : ((ty : Int) != 3) = false := by simp [h3]
     have di : (pi != -1) = true := by simpa using hi
     clear h3 hi
     go_wp2
     go_ret
     exact r_ret E.out _ rfl ((HG0.out.trans HG.out).trans (Grow.of_alloc _ _))
    have hi : pi = -1 := by omega
    have E := hid (show R = L.all fun s => (nameAt own s.name).isSome by rw [E0.out]; simp [h3, hi])
    have d3 : ((ty : Int) != 3) = false := by simp [h3]
    have di : (pi != -1) = false := by simp [hi]
    clear h3 hi E0
    go_wp2_with fail
    generalize hW : World.alloc _ _ = W1
    obtain ⟨b5, hg5⟩ := blk1 hW
    clear hW t0 t1 t2 t3 t4 t5 t6 t7 t8 t9 t10 t11 t12 d3 di e1 e2 y9 y10
    have HB5 := hid b5
    have HG5 : Hid (Grow w W1) := (HG0.out.trans HG.out).trans hg5
    have HGT1 := hid (HGT.out.grow HG5.out)
    have HB6 := hid (HB1.out.grow hg5)
    clear b5 hg5 HB1 HB HG
    generalize wr = wz at HB5 HB6
    go_loopw [5] (fun i wr => ∃ q : Nat, q ≤ n2 ∧ i = .int .i64 q ∧ (∀ s ∈ L.take q, (nameAt own s.name).isSome = true) ∧ Grow W1 wr) (fun i _ => n2 - (intOf i).toNat)
    case atStart => exact ⟨0, by omega, rfl, fun s h => absurd h (by simp), Grow.refl _⟩
    case round =>
     obtain ⟨p, hp, rfl, hz, hg⟩ := hrel
     have HZ0 := hid hz
     have HG := hid hg
     clear hz hg
     by_cases hlt : p < n2
     ·have hkl : p < L.length := by rw [← HL.out]; exact hlt
      obtain ⟨Ak, nk, ck, -, hcell, -⟩ := HZ.out.at hkl
      have HT := hid (takeS L p hkl)
      have hnm := (HOk.out _ (List.getElem_mem hkl)).name
      have HMem := hid (List.getElem_mem hkl)
      have hc0 : w.cell? ⟨b, off + p * 13, none⟩ = some (.int .u32 (L[p].name : Nat)) := hcell 0 _ rfl
      generalize L[p] = s at hc0 HT hnm HMem
      have HC0 := hid hc0
      clear hcell hc0 hkl
      have z : IntKind.u64.wrap (s.name : Int) = (s.name : Int) := by rw [IntKind.wrap_u64]; omega
      have y9 := (HB6.out.grow HG.out).at 9
      go_wp2_with fail
      refine wp_region_chain [(0, true), (1, true), (2, true), (3, true), (4, true), (5, true), (6, true), (7, true), (8, true), (9, true), (10, false), (11, true), (12, true), (13, true), (14, true), (15, true)] (by kernel_rfl) (by kernel_rfl) (by kernel_rfl) ?_
      have HD : Hid (Grow W1 wr.drew) := HG.out.trans (Grow.of_drew _)
      have q12 : ∀ W, Grow wr.drew W → W.cell? ⟨wz.heap.size, 12, none⟩ = some (.slice At nt ct) := fun W hW => (HB5.out.grow (HD.out.trans hW)).at 12
      have q9 : ∀ W, Grow wr.drew W → W.cell? ⟨w.heap.size, 9, none⟩ = some (.slice (some ⟨b, off, none⟩) n2 c2) := fun W hW => (HB6.out.grow (HD.out.trans hW)).at 9
      have t0 : ∀ W, Grow wr.drew W → W.cell? ⟨b, off + p * 13, none⟩ = some (.int .u32 (s.name : Nat)) := fun W hW => (Below.cell (HG5.out.trans (HD.out.trans hW)) HBb.out).trans HC0.out
      clear y9 HG
      generalize wr.drew = w2 at HD q12 q9 t0 ⊢
      repeat ((first | (refine chain_take rfl (by rfl) ?_ (fun W hG => ?_) ?_; rotate_left; (go_simp; rfl)) | refine chain_skip rfl (by rfl) ?_); simp only [Act.put, List.setIfInBounds_toArray, List.set_cons_zero, List.set_cons_succ])
      clear q12 q9 t0
      refine chain_only rfl (by rfl) (fun K hK => ?_)
      go_simp
      refine (rName_any At nt ct own s.name w2 (HGT1.out.grow HD.out) (by omega)).mono ?_
      unfold GotN
      rintro e w' ⟨rfl, rfl⟩
      refine hK _ _ (Grow.refl _) ?_
      clear hK K
      generalize bstr ((nameAt own s.name).getD []) = str
      obtain ⟨v, hv⟩ : ∃ v, (nameAt own s.name).isSome = v := ⟨_, rfl⟩
      rw [hv]
      repeat ((first | (refine chain_take rfl (by rfl) ?_ (fun W hG => ?_) ?_; rotate_left; (go_simp; rfl)) | refine chain_skip rfl (by rfl) ?_); simp only [Act.put, List.setIfInBounds_toArray, List.set_cons_zero, List.set_cons_succ])
      refine chain_done ?_
      cases v with
      | true =>
       have HZ1 : Hid (∀ s ∈ L.take (p + 1), (nameAt own s.name).isSome = true) := hid fun a ha => by
        rw [HT.out] at ha
        rcases List.mem_append.1 ha with h | h
        ·exact HZ0.out a h
        ·obtain rfl : a = s := by simpa using h
         exact hv
       clear hv
       go_wp2
       go_roundw
       case rel => exact ⟨p + 1, by omega, by go_num, HZ1.out, HD.out⟩
       case measure => simp [intOf]; omega
      | false =>
       have E9 := hid (show C = 9 by
        rw [EN.out, E.out, if_neg]
        intro h
        have := List.all_eq_true.1 h s HMem.out
        rw [hv] at this
        cases this)
       clear hv
       go_wp2
       go_ret
       exact r_ret E9.out _ rfl (HG5.out.trans HD.out)
     ·have E9 := hid (show C = 0 by
       rw [EN.out, E.out, if_pos]
       have h := HZ0.out
       rw [List.take_of_length_le (by have := HL.out; omega)] at h
       exact List.all_eq_true.2 h)
      have y9 := (HB6.out.grow HG.out).at 9
      go_wp2
      go_ret
      exact r_ret E9.out _ rfl (HG5.out.trans HG.out)
set_option maxHeartbeats 1000000 in
theorem rFit_any (wide big : Bool) (A : Option Addr) (n c : Nat) (l : List Nat) (w : World) (h : NS w w.heap.size .u64 A n c l) (hl : ∀ v ∈ l, v < 18446744073709551616) :
  Calls Try.prog 11 #[.agg #[.bool wide, .bool big], .slice A n c] w fun e w' => e = .returned (.bool (l.all (fitW wide))) ∧ Grow w w' := by
 have HS := hid h
 have HL := hid h.len
 have hcc := h.cap
 have hcm := h.max
 unfold maxLen at hcm
 have HM := hid hl
 have HW := hid (fun w => rfWord_any wide big w)
 clear h hl
 go_enter Try.func11, Try.ntmps11
 go_wp2_with fail
 generalize hW : World.alloc _ _ = W0
 obtain ⟨b1, hg0⟩ := blk1 hW
 clear hW
 have HF := hid b1
 have HG0 := hid hg0
 clear b1 hg0
 go_loopw [5] (fun i wr => ∃ k : Nat, k ≤ n ∧ i = .int .i64 k ∧ Hid (∀ v ∈ l.take k, fitW wide v = true) ∧ Grow W0 wr) (fun i _ => n - (intOf i).toNat)
 case atStart => exact ⟨0, by omega, rfl, hid (fun v h => absurd h (by simp)), Grow.refl _⟩
 case round =>
  obtain ⟨k, hk, rfl, HA, hg⟩ := hrel
  have HG := hid hg
  clear hg
  by_cases hlt : k < n
  ·have hkl : k < l.length := by rw [← HL.out]; exact hlt
   obtain ⟨b, off, rfl, hb, hcell⟩ := HS.out.pos (by omega)
   have HC := hid (hcell k hkl)
   have HBb := hid hb
   have HT := hid (takeS l k hkl)
   have HE := hid (fits_wide wide l[k])
   have HR := hid (fun w => refFits_any (l[k] : Int) (byWide wide 4 8 : Nat) w (by omega) (by have := HM.out _ (List.getElem_mem hkl); omega))
   have HMem := hid (List.getElem_mem hkl)
   generalize l[k] = v at HC HT HE HR HMem
   rw [HE.out] at HR
   clear hcell hb hkl
   go_wp2_with fail
   refine wp_region_chain [(0, true), (1, true), (2, true), (3, true), (4, true), (5, false), (6, false), (7, true)] (by kernel_rfl) (by kernel_rfl) (by kernel_rfl) ?_
   have HD : Hid (Grow W0 wr.drew) := HG.out.trans (Grow.of_drew _)
   have q : ∀ W, Grow wr.drew W → W.cell? ⟨b, off + k, none⟩ = some (.int .u64 (v : Int)) := fun W hW => (Below.cell (HG0.out.trans (HD.out.trans hW)) HBb.out).trans HC.out
   have u0 : ∀ W, Grow wr.drew W → W.cell? ⟨w.heap.size, 0, none⟩ = some (.bool wide) := fun W hW => (HF.out.grow (HD.out.trans hW)).at 0
   have u1 : ∀ W, Grow wr.drew W → W.cell? ⟨w.heap.size, 1, none⟩ = some (.bool big) := fun W hW => (HF.out.grow (HD.out.trans hW)).at 1
   clear HG
   generalize wr.drew = w2 at HD q u0 u1 ⊢
   repeat ((first | (refine chain_take rfl (by rfl) ?_ (fun W hG => ?_) ?_; rotate_left; (go_simp; rfl)) | refine chain_skip rfl (by rfl) ?_); simp only [Act.put, List.setIfInBounds_toArray, List.set_cons_zero, List.set_cons_succ])
   refine chain_only rfl (by rfl) (fun K hK => ?_)
   go_simp
   refine (HW.out _).mono ?_
   rintro e w3 ⟨rfl, hg3⟩
   refine hK _ _ hg3 ?_
   have HG3 : Hid (Grow W0 w3) := HD.out.trans hg3
   clear hK K hg3 q u0 u1 HD
   refine chain_only rfl (by rfl) (fun K hK => ?_)
   go_simp
   refine (HR.out _).mono ?_
   rintro e w4 ⟨rfl, rfl⟩
   refine hK _ _ (Grow.refl _) ?_
   clear hK K HR HE
   repeat ((first | (refine chain_take rfl (by rfl) ?_ (fun W hG => ?_) ?_; rotate_left; (go_simp; rfl)) | refine chain_skip rfl (by rfl) ?_); simp only [Act.put, List.setIfInBounds_toArray, List.set_cons_zero, List.set_cons_succ])
   refine chain_done ?_
   cases hf : fitW wide v with
   | false =>
    have E2 : Hid (l.all (fitW wide) = false) := hid (by
     rw [Bool.eq_false_iff]
     intro h
     have := List.all_eq_true.1 h v HMem.out
     rw [hf] at this
     cases this)
    clear hf
    go_wp2
    go_ret
    exact ⟨ret_bool E2.out.symm, HG0.out.trans HG3.out⟩
   | true =>
    have HA1 : Hid (∀ v ∈ l.take (k + 1), fitW wide v = true) := hid fun a ha => by
     rw [HT.out] at ha
     rcases List.mem_append.1 ha with h | h
     ·exact HA.out a h
     ·obtain rfl : a = v := by simpa using h
      exact hf
    clear hf
    go_wp2
    go_roundw
    case rel => exact ⟨k + 1, by omega, by go_num, HA1, HG3.out⟩
    case measure => simp [intOf]; omega
  ·have E2 : Hid (l.all (fitW wide) = true) := hid (by
    have e : l.take k = l := by rw [List.take_of_length_le (by have := HL.out; omega)]
    have := HA.out
    rw [e] at this
    exact List.all_eq_true.2 this)
   go_wp2
   go_ret
   exact ⟨ret_bool E2.out.symm, HG0.out.trans HG.out⟩
end Go.Proofs.Ytfpihkbpelbcbaa
