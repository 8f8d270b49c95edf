/-
  Several texts in one: The contracts of rebase; The contract of rebase; The contract of rebase; The contracts of dyn.
-/
import Derived.Test.YtfpihkbpelbcbaaRtG9
import Derived.Test.YtfpihkbpelbcbaaRtG4
import Derived.Test.YtfpihkbpelbcbaaRows
import Derived.Test.YtfpihkbpelbcbaaRtG1
import Derived.Test.YtfpihkbpelbcbaaRtG3
import Derived.Test.YtfpihkbpelbcbaaRtG5
import Derived.WalkKit
import Derived.Laws.ResultCell
import Derived.Lib.Hide
namespace Go.Proofs.Ytfpihkbpelbcbaa
open Go.Lib (hid)
open Go.RowKit
set_option maxRecDepth 100000
set_option linter.unusedVariables false
set_option maxHeartbeats 1000000 in
theorem rbAl_any (m : Md) (A : Option Addr) (n c : Nat) (w : World) (h : ZR sgK w w.heap.size A n c m.segs) :
  Calls Try.prog 37 #[.slice A n c] w fun e w' => e = .returned (.int .u64 (m.alMax : Nat)) ∧ Grow w w' := by
 have HS := hid h
 have HL := hid h.len
 have HE := hid (alTo_all m h.len)
 have HX := hid (alTo_succ m.segs)
 have H0 : Hid (alTo m.segs 0 = 1) := hid rfl
 have hcc := h.cap
 have hcm := h.max
 unfold maxLen at hcm
 clear h
 generalize m.alMax = M at *
 generalize m.segs = l at *
 go_enter Try.func37, Try.ntmps37
 go_wp2_with fail
 go_loopw [3, 8] (fun x i wr => ∃ k : Nat, k ≤ n ∧ i = .int .i64 k ∧ x = .int .u64 (alTo l k : Nat) ∧ Grow w wr) (fun _ i _ => n - (intOf i).toNat)
 case atStart => exact ⟨0, Nat.zero_le _, rfl, by rw [H0.out]; rfl, Grow.refl _⟩
 case round =>
  obtain ⟨k, hk, rfl, rfl, hg⟩ := hrel
  have HG := hid hg
  clear hg
  by_cases hlt : k < n
  ·obtain ⟨b, off, rfl, hb⟩ := HS.out.pos (by omega)
   have hkl : k < l.length := by rw [← HL.out]; exact hlt
   obtain ⟨R, hR, hrow⟩ := (HS.out.belowAt HG.out (Nat.le_refl _)).row
   obtain ⟨hkR, A1, n1, c1, e1, -⟩ := hrow k hkl
   have HRr := hid hR
   have HkR := hid hkR
   have HE1 : Hid (∀ hk : k < R.length, R[k] = sgC l[k] (.slice A1 n1 c1)) := hid fun _ => e1
   have HXk := hid (HX.out k hkl)
   clear hR hkR e1 hrow hb
   generalize alTo l k = a at *
   have HRr : Hid (ZS wr w.heap.size 10 (some ⟨b, off, none⟩) n c R) := HRr
   unfold sgC at HE1
   generalize l[k] = s at HE1 HXk
   generalize s.typ = x0 at *
   generalize s.flags = x1 at *
   generalize s.vaddr = x2 at *
   generalize s.paddr = x3 at *
   generalize s.memsz = x4 at *
   generalize s.align = x5 at *
   generalize s.pl.inn = x6 at *
   generalize s.pl.off = x7 at *
   generalize s.pl.size = x8 at *
   have HM : Hid (∀ y : Nat, y = max a x5 → (if a < x5 then (x5 : Int) else (a : Int)) = (y : Int)) := hid (fun y hy => by split <;> omega)
   have w0 : (0 : Int) ≤ (k : Int) := by omega
   have w1 : (k : Int) < (n : Int) := by omega
   go_wp2_with (refine wpList_load_zs HRr.out HkR.out rfl 48 (.tmp 10) rfl rfl _ Try.underlying48 rfl (by kernel_rfl) _ (HE1.out _) ?_)
   go_roundw
   case rel => exact ⟨k + 1, by omega, by go_num, by rw [HM.out _ HXk.out], HG.out.trans (Grow.of_alloc _ _)⟩
   case measure => simp [intOf]; omega
  ·have e : k = n := by omega
   subst e
   go_wp2
   go_ret
   exact ⟨by rw [HE.out]; rfl, HG.out⟩
set_option maxHeartbeats 1000000 in
theorem rbIsAm_any (m : Md) (ok : m.Ok) (A1 : Option Addr) (n1 c1 : Nat) (S2 : Value) (a : Nat) (w : World) (g1 : ZR sgK w w.heap.size A1 n1 c1 m.segs) (ha : a < 18446744073709551616) :
  Calls Try.prog 73 #[.agg (mdC m (.slice A1 n1 c1) S2), .int .u64 (a : Int)] w fun e w' => e = .returned (.bool (m.segs.any fun s => s.inMem a)) ∧ Grow w w' := by
 have HH := hid (fun g W (hW : Grow w W) h1 b1 => hasAm1 A1 n1 c1 m.segs ok.segs a g W (g1.grow hW) ha h1 b1)
 obtain ⟨x0, x1, x2, x3, x4, x5, x6, x7, x10, hC⟩ : ∃ x0 x1 x2 x3 x4 x5 x6 x7 x10 : Value, mdC m (.slice A1 n1 c1) S2 = #[x0, x1, x2, x3, x4, x5, x6, x7, .slice A1 n1 c1, S2, x10] := ⟨_, _, _, _, _, _, _, _, _, rfl⟩
 rw [hC]
 clear hC g1 ok
 generalize (m.segs.any fun s => s.inMem a) = R at *
 go_enter Try.func73, Try.ntmps73
 go_wp2_with fail
 generalize hW : World.alloc _ _ = W0
 obtain ⟨b1, b2, hg0⟩ := blk2 hW
 clear hW
 have HCl := hid (HH.out (w.heap.size + 1) W0 hg0 (b2.at 0) b2.lt)
 have HG0 := hid hg0
 have v8 : W0.cell? ⟨w.heap.size, 8, none⟩ = some (.slice A1 n1 c1) := b1.at 8
 clear b1 b2 hg0 HH
 generalize w.heap.size + 1 = gx at HCl ⊢
 go_wp2_with fail
 refine HCl.out.mono ?_
 rintro e w1 ⟨rfl, hg⟩
 have HG1 : Hid (Grow w w1) := hid (HG0.out.trans hg)
 clear hg v8
 go_wp2
 go_ret
 exact ⟨rfl, HG1.out⟩
set_option maxHeartbeats 2000000 in
theorem rbWraps_any (m : Md) (ok : m.Ok) (A1 : Option Addr) (n1 c1 : Nat) (A2 : Option Addr) (n2 c2 : Nat) (d : Nat) (w : World) (g1 : ZR sgK w w.heap.size A1 n1 c1 m.segs) (g2 : ZR seK w w.heap.size A2 n2 c2 m.secs) (hd : d < 18446744073709551616) :
  Calls Try.prog 38 #[.agg (mdC m (.slice A1 n1 c1) (.slice A2 n2 c2)), .int .u64 (d : Int)] w fun e w' => e = .returned (.bool (m.wrBad d)) ∧ Grow w w' := by
 have HH1 := hid (fun ga gb W (hW : Grow w W) h1 h2 b1 b2 => hasWr1 A1 n1 c1 m.segs ok.segs m.wide d ga gb W (g1.grow hW) hd h1 h2 b1 b2)
 have HH2 := hid (fun ga gb W (hW : Grow w W) h1 h2 b1 b2 => hasWr2 A2 n2 c2 m.secs ok.secs m.wide d ga gb W (g2.grow hW) hd h1 h2 b1 b2)
 have HLs := hid (fun W => rbLast_any m.wide m.big W)
 have he := ok.entry
 have hL := lastA_le m.wide
 have E := hid (show m.wrBad d = ((!decide (m.entry = 0) && !decide (m.entry + d ≤ lastA m.wide)) || (m.segs.any (fun s => s.over m.wide d) || m.secs.any (fun s => s.over m.wide d))) from rfl)
 obtain ⟨x2, x3, x4, x5, x6, x10, hC⟩ : ∃ x2 x3 x4 x5 x6 x10 : Value, mdC m (.slice A1 n1 c1) (.slice A2 n2 c2) = #[.bool m.wide, .bool m.big, x2, x3, x4, x5, x6, .int .u64 (m.entry : Nat), .slice A1 n1 c1, .slice A2 n2 c2, x10] := ⟨_, _, _, _, _, _, rfl⟩
 rw [hC]
 clear hC g1 g2 ok
 generalize (m.segs.any fun s => s.over m.wide d) = R1 at *
 generalize (m.secs.any fun s => s.over m.wide d) = R2 at *
 generalize m.wrBad d = R at *
 generalize m.wide = wi at *
 generalize m.big = bi at *
 generalize m.entry = en at *
 generalize lastA wi = L at *
 go_enter Try.func38, Try.ntmps38
 go_wp2_with fail
 generalize hW : World.alloc _ _ = W0
 obtain ⟨b1, b2, hg0⟩ := blk2 hW
 clear hW
 obtain ⟨gm, hgm⟩ : ∃ g, g = w.heap.size := ⟨_, rfl⟩
 rw [← hgm] at b1 b2 ⊢
 have v0 := b1.at 0
 have v1 := b1.at 1
 simp at v0 v1
 refine (HLs.out _).mono ?_
 rintro e w1 ⟨rfl, hg1⟩
 have HB1 := hid (b1.grow hg1)
 have HB2 := hid (b2.grow hg1)
 have HG1 : Hid (Grow w w1) := hid (hg0.trans hg1)
 clear b1 b2 hg0 hg1 v0 v1 HLs hgm
 generalize gm + 1 = gd at *
 have f7 : ∀ o, (w1.alloc o).cell? ⟨gm, 7, none⟩ = some (.int .u64 (en : Int)) := fun o => (HB1.out.alloc o).at 7
 have f8 : ∀ o, (w1.alloc o).cell? ⟨gm, 8, none⟩ = some (.slice A1 n1 c1) := fun o => (HB1.out.alloc o).at 8
 have fd : ∀ o, (w1.alloc o).cell? ⟨gd, 0, none⟩ = some (.int .u64 (d : Int)) := fun o => (HB2.out.alloc o).at 0
 have HK : Hid (∀ (T : Bool), T = (!decide (en = 0) && !decide (en + d ≤ L)) → (T = true → R = true) ∧ (T = false → R = (R1 || R2))) := hid (fun T hT => ⟨fun h => by rw [E.out, ← hT, h]; rfl, fun h => by rw [E.out, ← hT, h]; rfl⟩)
 have fin : Hid (∀ (T : Bool), T = false → R = (R1 || R2) → True) := hid fun _ _ _ => trivial
 by_cases h0 : en = 0
 ·subst h0
  obtain ⟨-, hr⟩ := HK.out false (by simp)
  have HR := hid (hr rfl); clear hr
  clear HK E fin
  go_wp2_with fail
  generalize hW : World.alloc _ _ = W2
  obtain ⟨b3, hg2⟩ := blk1 hW
  clear hW f7 f8 fd
  have HB4 := hid (HB1.out.grow hg2)
  have HD4 := hid (HB2.out.grow hg2)
  have HL4 := hid b3
  have HG2 : Hid (Grow w W2) := hid (HG1.out.trans hg2)
  clear b3 hg2
  refine (HH1.out gd w1.heap.size W2 HG2.out (HD4.out.at 0) (HL4.out.at 0) HD4.out.lt HL4.out.lt).mono ?_
  rintro e w3 ⟨rfl, hg3⟩
  have HG3 : Hid (Grow w w3) := hid (HG2.out.trans hg3)
  have f9 : w3.cell? ⟨gm, 9, none⟩ = some (.slice A2 n2 c2) := (HB4.out.grow hg3).at 9
  have HD5 := hid (HD4.out.grow hg3)
  have HL5 := hid (HL4.out.grow hg3)
  clear hg3 HB4 HD4 HL4 HG2
  cases R1 with
  | true =>
   clear f9
   go_wp2
   go_ret
   exact ⟨by rw [HR.out]; rfl, HG3.out⟩
  | false =>
   go_wp2_with fail
   refine (HH2.out gd w1.heap.size w3 HG3.out (HD5.out.at 0) (HL5.out.at 0) HD5.out.lt HL5.out.lt).mono ?_
   rintro e w4 ⟨rfl, hg4⟩
   have HG4 : Hid (Grow w w4) := hid (HG3.out.trans hg4)
   clear hg4 f9 HD5 HL5 HG3
   go_wp2
   go_ret
   exact ⟨by rw [HR.out]; rfl, HG4.out⟩
 ·have e0 : ((en : Int) != 0) = true := by simp; omega
  by_cases h1 : en + d ≤ L
  ·obtain ⟨-, hr⟩ := HK.out false (by simp [h1])
   have HR := hid (hr rfl); clear hr
   have E1 : Hid (wthn (en : Int) (d : Int) (L : Int) = true) := hid (decide_eq_true (by omega))
   clear HK E fin h1 h0
   go_wp2_with fail
   refine (within_any (en : Int) (d : Int) (L : Int) _ (by omega) (by omega) (by omega)).mono ?_
   rintro e w' ⟨rfl, rfl⟩
   rw [E1.out]
   go_wp2_with fail
   generalize hW : World.alloc _ _ = W2
   obtain ⟨b3, hg2⟩ := blk1 hW
   clear hW f7 f8 fd
   have HB4 := hid (HB1.out.grow hg2)
   have HD4 := hid (HB2.out.grow hg2)
   have HL4 := hid b3
   have HG2 : Hid (Grow w W2) := hid (HG1.out.trans hg2)
   clear b3 hg2
   refine (HH1.out gd w1.heap.size W2 HG2.out (HD4.out.at 0) (HL4.out.at 0) HD4.out.lt HL4.out.lt).mono ?_
   rintro e w3 ⟨rfl, hg3⟩
   have HG3 : Hid (Grow w w3) := hid (HG2.out.trans hg3)
   have f9 : w3.cell? ⟨gm, 9, none⟩ = some (.slice A2 n2 c2) := (HB4.out.grow hg3).at 9
   have HD5 := hid (HD4.out.grow hg3)
   have HL5 := hid (HL4.out.grow hg3)
   clear hg3 HB4 HD4 HL4 HG2
   cases R1 with
   | true =>
    clear f9
    go_wp2
    go_ret
    exact ⟨by rw [HR.out]; rfl, HG3.out⟩
   | false =>
    go_wp2_with fail
    refine (HH2.out gd w1.heap.size w3 HG3.out (HD5.out.at 0) (HL5.out.at 0) HD5.out.lt HL5.out.lt).mono ?_
    rintro e w4 ⟨rfl, hg4⟩
    have HG4 : Hid (Grow w w4) := hid (HG3.out.trans hg4)
    clear hg4 f9 HD5 HL5 HG3
    go_wp2
    go_ret
    exact ⟨by rw [HR.out]; rfl, HG4.out⟩
  ·obtain ⟨hr, -⟩ := HK.out true (by simp [h1, h0])
   have HR := hid (hr rfl); clear hr
   have E1 : Hid (wthn (en : Int) (d : Int) (L : Int) = false) := hid (decide_eq_false (by omega))
   clear HK E fin h1 h0
   go_wp2_with fail
   refine (within_any (en : Int) (d : Int) (L : Int) _ (by omega) (by omega) (by omega)).mono ?_
   rintro e w' ⟨rfl, rfl⟩
   rw [E1.out]
   go_wp2
   go_ret
   exact ⟨by rw [HR.out]; rfl, HG1.out.trans (Grow.of_alloc _ _)⟩
set_option maxHeartbeats 2000000 in
theorem rbCheck_any (m : Md) (ok : m.Ok) (hck : m.chk = 0) (A1 : Option Addr) (n1 c1 : Nat) (A2 : Option Addr) (n2 c2 : Nat) (d : Nat) (w : World) (g1 : ZR sgK w w.heap.size A1 n1 c1 m.segs) (g2 : ZR seK w w.heap.size A2 n2 c2 m.secs) (hd : d < 18446744073709551616) :
  Calls Try.prog 16 #[.agg (mdC m (.slice A1 n1 c1) (.slice A2 n2 c2)), .int .u64 (d : Int)] w fun e w' => e = .returned (eC (m.rbC d)) ∧ Grow w w' := by
 have HAl := hid (fun W (hW : Grow w W) => rbAl_any m A1 n1 c1 W (g1.grow hW))
 have HWr := hid (fun W (hW : Grow w W) => rbWraps_any m ok A1 n1 c1 A2 n2 c2 d W (g1.grow hW) (g2.grow hW) hd)
 have E := hid (show m.rbC d = if m.typ = 3 then (if (!decide (d % m.alMax = 0)) then 6 else if m.wrBad d then 12 else 0) else 11 by unfold Md.rbC; rw [alBad_max ok hck])
 have ht := ok.typ
 have hp := alMax_pos m
 have hl := alMax_lt ok
 obtain ⟨x0, x1, x2, x3, x5, x6, x7, x10, hC⟩ : ∃ x0 x1 x2 x3 x5 x6 x7 x10 : Value, mdC m (.slice A1 n1 c1) (.slice A2 n2 c2) = #[x0, x1, x2, x3, .int .u16 (m.typ : Nat), x5, x6, x7, .slice A1 n1 c1, .slice A2 n2 c2, x10] := ⟨_, _, _, _, _, _, _, _, rfl⟩
 rw [hC] at HWr ⊢
 clear hC g1 g2 ok hck
 generalize m.rbC d = R at *
 generalize m.typ = ty at *
 generalize m.alMax = al at *
 generalize m.wrBad d = wb at *
 by_cases h3 : ty = 3
 ·subst h3
  have z0 : ((al : Int) == 0) = false := by simp; omega
  have z1 : ¬ (al : Int) = -1 := by omega
  have z2 : ¬ al = 0 := by omega
  have z3 : ((d : Int)).tmod (al : Int) = ((d % al : Nat) : Int) := (Int.ofNat_tmod _ _).symm
  obtain ⟨r, hr⟩ : ∃ r, r = d % al := ⟨_, rfl⟩
  rw [← hr] at z3 E
  have HZ := hid z3
  clear hr hp ht
  by_cases hr0 : r = 0
  ·subst hr0
   go_enter Try.func16, Try.ntmps16
   go_wp2_with fail
   generalize hW : World.alloc _ _ = W0
   obtain ⟨b1, hg0⟩ := blk1 hW
   clear hW
   have v4 := b1.at 4
   have v8 := b1.at 8
   simp at v4 v8
   go_wp2_with fail
   refine (HAl.out _ hg0).mono ?_
   rintro e w1 ⟨rfl, hg1⟩
   have HB1 := hid (b1.grow hg1)
   have HG1 : Hid (Grow w w1) := hid (hg0.trans hg1)
   have z3 := HZ.out
   clear b1 hg0 hg1 v4 v8 HAl
   obtain ⟨v0, v1, v2, v3, v4, v5, v6, v7, v8, v9, v10⟩ := HB1.out.c11
   go_wp2_with fail
   clear v0 v1 v2 v3 v4 v5 v6 v7 v8 v9 v10 HB1
   refine (HWr.out _ HG1.out).mono ?_
   rintro e w2 ⟨rfl, hg2⟩
   have HG2 : Hid (Grow w w2) := hid (HG1.out.trans hg2)
   clear hg2 z3
   cases wb with
   | true =>
    have hR : R = 12 := by rw [E.out]; rfl
    subst hR
    go_wp2
    go_ret
    exact ⟨rfl, HG2.out⟩
   | false =>
    have hR : R = 0 := by rw [E.out]; rfl
    subst hR
    go_wp2
    go_ret
    exact ⟨rfl, HG2.out⟩
  ·have hR : R = 6 := by rw [E.out]; simp [hr0]
   subst hR
   have e6 : ((r : Int) != 0) = true := by simp; omega
   clear hr0
   go_enter Try.func16, Try.ntmps16
   go_wp2_with fail
   generalize hW : World.alloc _ _ = W0
   obtain ⟨b1, hg0⟩ := blk1 hW
   clear hW
   have v4 := b1.at 4
   have v8 := b1.at 8
   simp at v4 v8
   go_wp2_with fail
   refine (HAl.out _ hg0).mono ?_
   rintro e w1 ⟨rfl, hg1⟩
   have HG1 : Hid (Grow w w1) := hid (hg0.trans hg1)
   have z3 := HZ.out
   clear b1 hg0 hg1 v4 v8 HAl
   go_wp2
   go_ret
   exact ⟨rfl, HG1.out⟩
 ·have hR : R = 11 := by rw [E.out]; simp [h3]
  subst hR
  have e3 : ((ty : Int) != 3) = true := by simp; omega
  clear h3
  go_enter Try.func16, Try.ntmps16
  go_wp2
  go_ret
  exact ⟨rfl, Grow.of_alloc _ _⟩
set_option maxRecDepth 100000
set_option linter.unusedVariables false
def fndE (x : Option (Nat × Nat)) : Ending := match x with
 | some y => .returned (.tuple #[.int .i64 (y.1 : Nat), .int .u64 (y.2 : Nat), .bool true])
 | none => .returned (.tuple #[.int .i64 0, .int .u64 0, .bool false])
theorem among_hit (m : Md) (a n k : Nat) (hk : k < m.segs.length) (hf : k ≤ m.fnd a n) (h : m.segs[k].has a n = true) : m.among a n = some (k, a - m.segs[k].vaddr) := by
 have e : m.fnd a n = k := (fi_step hf).1 hk h
 unfold Md.among
 rw [e, if_pos hk, getD_at hk]
theorem among_on (m : Md) (a n k : Nat) (hk : k < m.segs.length) (hf : k ≤ m.fnd a n) (h : m.segs[k].has a n = false) : k + 1 ≤ m.fnd a n := (fi_step hf).2.1 hk h
theorem among_end (m : Md) (a n k : Nat) (hk : m.segs.length ≤ k) (hf : k ≤ m.fnd a n) : m.among a n = none := by
 have e : m.fnd a n = m.segs.length := (fi_step hf).2.2 hk
 unfold Md.among
 rw [e, if_neg (Nat.lt_irrefl _)]
set_option maxHeartbeats 2000000 in
theorem rbFind_any (m : Md) (ok : m.Ok) (A1 : Option Addr) (n1 c1 : Nat) (S2 : Value) (a n : Nat) (w : World) (g1 : ZR sgK w w.heap.size A1 n1 c1 m.segs) (ha : a < 18446744073709551616) (hn : n < 18446744073709551616) :
  Calls Try.prog 67 #[.agg (mdC m (.slice A1 n1 c1) S2), .int .u64 (a : Int), .int .u64 (n : Int)] w fun e w' => e = fndE (m.among a n) ∧ Grow w w' := by
 have HS := hid g1
 have HL := hid g1.len
 have HH := hid (among_hit m a n)
 have HO := hid (among_on m a n)
 have HE := hid (among_end m a n)
 have HOk := hid (fun k (hk : k < m.segs.length) => ok.segs _ (List.getElem_mem hk))
 have hcc := g1.cap
 have hcm := g1.max
 unfold maxLen at hcm
 obtain ⟨x0, x1, x2, x3, x4, x5, x6, x7, x10, hC⟩ : ∃ x0 x1 x2 x3 x4 x5 x6 x7 x10 : Value, mdC m (.slice A1 n1 c1) S2 = #[x0, x1, x2, x3, x4, x5, x6, x7, .slice A1 n1 c1, S2, x10] := ⟨_, _, _, _, _, _, _, _, _, rfl⟩
 rw [hC]
 clear hC g1 ok
 have hF0 : 0 ≤ m.fnd a n := Nat.zero_le _
 generalize m.among a n = R at *
 generalize m.fnd a n = F at *
 generalize m.segs = l at *
 go_enter Try.func67, Try.ntmps67
 go_wp2_with fail
 generalize hW : World.alloc _ _ = W0
 obtain ⟨b1, hg0⟩ := blk1 hW
 clear hW
 have v8 := b1.at 8
 simp at v8
 have HG0 := hid hg0
 clear b1 hg0
 go_wp2_with fail
 clear v8
 go_loopw [14] (fun i wr => ∃ k : Nat, k ≤ n1 ∧ i = .int .i64 k ∧ k ≤ F ∧ Grow w wr) (fun i _ => n1 - (intOf i).toNat)
 case atStart => exact ⟨0, Nat.zero_le _, rfl, Nat.zero_le _, HG0.out⟩
 case round =>
  obtain ⟨k, hk, rfl, hkF, hg⟩ := hrel
  have HG := hid hg
  have HKF := hid hkF
  clear hg hkF HG0 hF0
  by_cases hlt : k < n1
  ·obtain ⟨b, off, rfl, hb⟩ := HS.out.pos (by omega)
   have hkl : k < l.length := by rw [← HL.out]; exact hlt
   obtain ⟨RR, hR, hrow⟩ := (HS.out.belowAt HG.out (Nat.le_refl _)).row
   obtain ⟨hkR, A1, nk, ck, e1, hby⟩ := hrow k hkl
   have HRr : Hid (ZS wr w.heap.size 10 (some ⟨b, off, none⟩) n1 c1 RR) := hid hR
   have HkR := hid hkR
   have HE1 : Hid (∀ hk : k < RR.length, RR[k] = sgC l[k] (.slice A1 nk ck)) := hid fun _ => e1
   have hnk : nk = l[k].pl.own.length := hby.len
   have hnm := Nat.le_trans hby.cap hby.max
   unfold maxLen at hnm
   have hv := (HOk.out k hkl).vaddr
   have HHk := hid (HH.out k hkl HKF.out)
   have HOk' := hid (HO.out k hkl HKF.out)
   have HD := hid (show l[k].has a n = (decide (l[k].typ = 1) && (decide (l[k].vaddr ≤ a) && decide (a - l[k].vaddr + n ≤ nk))) by rw [hnk]; rfl)
   clear hR hkR e1 hrow hb hby hnk HH HO HE HOk
   generalize l[k].has a n = hs at *
   unfold sgC at HE1
   generalize l[k] = s at *
   generalize s.typ = y0 at *
   generalize s.flags = y1 at *
   generalize s.vaddr = y2 at *
   generalize s.paddr = y3 at *
   generalize s.memsz = y4 at *
   generalize s.align = y5 at *
   generalize s.pl.inn = y6 at *
   generalize s.pl.off = y7 at *
   generalize s.pl.size = y8 at *
   have w0 : (0 : Int) ≤ (k : Int) := by omega
   have w1 : (k : Int) < (n1 : Int) := by omega
   have z0 : IntKind.u64.wrap (nk : Int) = (nk : Int) := by rw [IntKind.wrap_u64]; omega
   have HG3 : Hid (∀ o, Grow w (wr.alloc o)) := hid fun o => HG.out.trans (Grow.of_alloc _ _)
   cases hs with
   | true =>
    have HRv := hid (HHk.out rfl)
    have hd := HD.out
    simp only [Bool.true_eq, Bool.and_eq_true, decide_eq_true_eq] at hd
    obtain ⟨h1, h2, h3⟩ := hd
    have e0 : ((y0 : Int) == 1) = true := by simp; omega
    have e2 : decide ((y2 : Int) ≤ (a : Int)) = true := decide_eq_true (by omega)
    have e3 : decide (y2 ≤ a) = true := decide_eq_true h2
    have z1 : IntKind.u64.wrap ((a : Int) - (y2 : Int)) = ((a - y2 : Nat) : Int) := by rw [IntKind.wrap_u64]; omega
    have E1 : Hid (wthn ((a - y2 : Nat) : Int) (n : Int) (nk : Int) = true) := hid (decide_eq_true (by omega))
    clear h1 h2 h3 HD HHk HOk' hv
    generalize a - y2 = ay at *
    go_wp2_with (refine wpList_load_zs HRr.out HkR.out rfl 48 (.tmp 17) rfl rfl _ Try.underlying48 rfl (by kernel_rfl) _ (HE1.out _) ?_)
    refine (within_any (ay : Int) (n : Int) (nk : Int) _ (by omega) (by omega) (by omega)).mono ?_
    rintro e w' ⟨rfl, rfl⟩
    rw [E1.out]
    go_wp2_with fail
    generalize hW : World.alloc _ _ = W5
    obtain ⟨b5, hg5⟩ := blk1 hW
    clear hW
    have HG5 : Hid (Grow w W5.drew) := hid ((HG.out.trans hg5).trans (Grow.of_drew _))
    have HB5 := hid b5.drew
    clear b5 hg5
    refine wp_region_chain [(0, true), (1, true), (2, true), (3, true), (4, true), (5, true), (6, true), (7, true)] (by kernel_rfl) (by kernel_rfl) (by kernel_rfl) ?_
    generalize W5.drew = V0 at *
    have q2 : ∀ W, Grow V0 W → W.cell? ⟨wr.heap.size, 2, none⟩ = some (.int .u64 (y2 : Int)) := fun W hW => (HB5.out.grow hW).at 2
    repeat (refine chain_take rfl (by rfl) ?_ (fun W hG => ?_) ?_; rotate_left; (go_simp; rfl); simp only [Act.put, List.setIfInBounds_toArray, List.set_cons_zero, List.set_cons_succ])
    refine chain_done ?_
    go_wp2
    go_ret3
    exact ⟨by rw [HRv.out]; rfl, HG5.out⟩
   | false =>
    have hK1 := hid (HOk'.out rfl)
    have hd := HD.out
    clear HD HHk HOk'
    by_cases h1 : y0 = 1
    ·have e0 : ((y0 : Int) == 1) = true := by simp; omega
     by_cases h2 : y2 ≤ a
     ·have h3 : ¬ (a - y2 + n ≤ nk) := by
       intro h3
       simp [h1, h2, h3] at hd
      have e2 : decide ((y2 : Int) ≤ (a : Int)) = true := decide_eq_true (by omega)
      have e3 : decide (y2 ≤ a) = true := decide_eq_true h2
      have z1 : IntKind.u64.wrap ((a : Int) - (y2 : Int)) = ((a - y2 : Nat) : Int) := by rw [IntKind.wrap_u64]; omega
      have E1 : Hid (wthn ((a - y2 : Nat) : Int) (n : Int) (nk : Int) = false) := hid (decide_eq_false (by omega))
      clear h1 h2 h3 hd hv
      generalize a - y2 = ay at *
      go_wp2_with (refine wpList_load_zs HRr.out HkR.out rfl 48 (.tmp 17) rfl rfl _ Try.underlying48 rfl (by kernel_rfl) _ (HE1.out _) ?_)
      refine (within_any (ay : Int) (n : Int) (nk : Int) _ (by omega) (by omega) (by omega)).mono ?_
      rintro e w' ⟨rfl, rfl⟩
      rw [E1.out]
      go_wp2
      go_roundw
      case rel => exact ⟨k + 1, by omega, by go_num, hK1.out, HG3.out _⟩
      case measure => simp [intOf]; omega
     ·have e2 : decide ((y2 : Int) ≤ (a : Int)) = false := decide_eq_false (by omega)
      have e3 : decide (y2 ≤ a) = false := decide_eq_false h2
      clear h1 h2 hd hv
      go_wp2_with (refine wpList_load_zs HRr.out HkR.out rfl 48 (.tmp 17) rfl rfl _ Try.underlying48 rfl (by kernel_rfl) _ (HE1.out _) ?_)
      go_roundw
      case rel => exact ⟨k + 1, by omega, by go_num, hK1.out, HG3.out _⟩
      case measure => simp [intOf]; omega
    ·have e0 : ((y0 : Int) == 1) = false := by simp; omega
     clear h1 hd hv
     go_wp2_with (refine wpList_load_zs HRr.out HkR.out rfl 48 (.tmp 17) rfl rfl _ Try.underlying48 rfl (by kernel_rfl) _ (HE1.out _) ?_)
     go_roundw
     case rel => exact ⟨k + 1, by omega, by go_num, hK1.out, HG3.out _⟩
     case measure => simp [intOf]; omega
  ·have hR := HE.out k (by rw [← HL.out]; omega) HKF.out
   subst hR
   go_wp2
   go_ret3
   exact ⟨rfl, HG.out⟩
set_option maxRecDepth 100000
set_option linter.unusedVariables false
structure MW (B : Nat) (W : World) (m : Md) (A1 : Option Addr) (n1 c1 : Nat) (A2 : Option Addr) (n2 c2 : Nat) (S1 S2 : Nat → Sl) : Prop where
 s1 : GH sgK W B 48 A1 n1 c1 m.segs S1 n1
 s2 : GH seK W B 50 A2 n2 c2 m.secs S2 n2
 p1 : Sep S1 n1
 p3 : ∀ i g, i < n1 → own (S1 i).1 = some g → Off S2 n2 g
 hB : B ≤ W.heap.size
section
variable {B : Nat} {W W' : World} {m : Md} {A1 : Option Addr} {n1 c1 : Nat} {A2 : Option Addr} {n2 c2 : Nat} {S1 S2 : Nat → Sl}
theorem MW.grow (h : MW B W m A1 n1 c1 A2 n2 c2 S1 S2) (hg : Grow W W') : MW B W' m A1 n1 c1 A2 n2 c2 S1 S2 := ⟨h.s1.keep hg h.hB, h.s2.keep hg h.hB, h.p1, h.p3, Nat.le_trans h.hB hg.size⟩
theorem MW.zr1 (h : MW B W m A1 n1 c1 A2 n2 c2 S1 S2) : ZR sgK W W.heap.size A1 n1 c1 m.segs := h.s1.zr h.hB
theorem MW.zr2 (h : MW B W m A1 n1 c1 A2 n2 c2 S1 S2) : ZR seK W W.heap.size A2 n2 c2 m.secs := h.s2.zr h.hB
def Md.setB (m : Md) (i : Nat) (b : List UInt8) : Md := { m with segs := m.segs.set i (segB (m.segs.getD i sg0) b) }
theorem MW.turn (h : MW B W m A1 n1 c1 A2 n2 c2 S1 S2) {i g : Nat} (hi : i < m.segs.length) (hS : (S1 i).1 = some ⟨g, 0, none⟩) (hBg : B ≤ g) (hg : W.grownBy W' (some g)) {b : List UInt8} (ho : OB W' B 5 (S1 i).1 (S1 i).2.1 (S1 i).2.2 b) :
  MW B W' (m.setB i b) A1 n1 c1 A2 n2 c2 S1 S2 ∧ Turn B W W' := by
 have hin : i < n1 := by rw [h.s1.len]; exact hi
 have hob := h.s1.own i hi hin
 rw [hS] at hob
 have hbk := hob.blk
 have hown : own (S1 i).1 = some g := by rw [hS]; rfl
 have e1 : m.segs.getD i sg0 = m.segs[i] := getD_at hi
 have hT : Turn B W W' := Turn.of_bytes hg hBg hbk
 refine ⟨⟨?_, ?_, h.p1, h.p3, Nat.le_trans h.hB hg.size⟩, hT⟩
 ·unfold Md.setB
  rw [e1]
  exact h.s1.bytes (g := g) h.p1 (by decide) hBg h.hB hi hin hg hS (fun _ => rfl) ho
 ·refine h.s2.past hg (fun he => ?_) (h.p3 i g hin hown) hBg h.hB
  obtain ⟨cs, hcs⟩ := hbk
  rcases h.s2.row.1.2 with ⟨hv, _⟩ | ⟨g', cap, cur, hv, _, hh, _⟩
  ·injection hv with e1 _ _; subst e1; cases he
  ·injection hv with e1 _ _
   subst e1
   have e3 : g' = g := Option.some.inj he
   subst e3
   rw [hcs] at hh
   injection hh with hh
   injection hh with _ hh
   exact absurd hh (by decide)
end
theorem gotV_in {l : List UInt8} {p wd : Nat} {big : Bool} (hw : wid (wd : Int) = true) (h : p + wd ≤ l.length) : gotV l (p : Int) (wd : Int) big = getB ((l.drop p).take wd) big := by
 have hb : gotB l (p : Int) (wd : Int) = true := by
  unfold gotB wthn
  rw [hw, Bool.true_and, decide_eq_true_iff]
  omega
 unfold gotV
 rw [if_pos hb]
 rfl
def Md.wordV (m : Md) (i p : Nat) : Nat := getB (((m.segs.getD i sg0).pl.own.drop p).take (wdN m.wide)) m.big
def Md.wordM (m : Md) (a d : Nat) : Md := match m.among a (wdN m.wide) with
 | none => m
 | some x => m.setB x.1 (putIn (m.segs.getD x.1 sg0).pl.own x.2 (putB ((m.wordV x.1 x.2 + d) % 18446744073709551616) (wdN m.wide) m.big))
theorem wordM_none {m : Md} {a d : Nat} (h : m.among a (wdN m.wide) = none) : m.wordM a d = m := by unfold Md.wordM; rw [h]
theorem wordM_some {m : Md} {a d i p : Nat} (h : m.among a (wdN m.wide) = some (i, p)) : m.wordM a d = m.setB i (putIn (m.segs.getD i sg0).pl.own p (putB ((m.wordV i p + d) % 18446744073709551616) (wdN m.wide) m.big)) := by unfold Md.wordM; rw [h]
set_option maxHeartbeats 4000000 in
theorem rbWord_any (m : Md) (ok : m.Ok) (B : Nat) (A1 : Option Addr) (n1 c1 : Nat) (A2 : Option Addr) (n2 c2 : Nat) (S1 S2 : Nat → Sl) (a d : Nat) (w : World) (h : MW B w m A1 n1 c1 A2 n2 c2 S1 S2) (ha : a < 18446744073709551616) (hd : d < 18446744073709551616) :
  Calls Try.prog 46 #[.agg (mdC m (.slice A1 n1 c1) (.slice A2 n2 c2)), .int .u64 (a : Int), .int .u64 (d : Int)] w fun e w' => e = .returned (.tuple #[]) ∧ MW B w' (m.wordM a d) A1 n1 c1 A2 n2 c2 S1 S2 ∧ Turn B w w' := by
 have HM := hid h
 have HWd := hid (fun W => rbWidth_any m.wide m.big W)
 have HFn := hid (fun W (hW : MW B W m A1 n1 c1 A2 n2 c2 S1 S2) => rbFind_any m ok A1 n1 c1 (.slice A2 n2 c2) a (wdN m.wide) W hW.zr1 ha (by have := wdN_le m.wide; omega))
 have HN := hid (fun h => wordM_none (m := m) (a := a) (d := d) h)
 have HS := hid (fun i p h => wordM_some (m := m) (a := a) (d := d) (i := i) (p := p) h)
 have HAm := hid (fun k p h => Md.among_some (m := m) (a := a) (n := wdN m.wide) (i := k) (p := p) h)
 have HPt := hid (fun A n c l p v W h hp => rbPut_any A n c l p v m.wide m.big B W h hp)
 have HV := hid (show ∀ i p, m.wordV i p = getB (((m.segs.getD i sg0).pl.own.drop p).take (wdN m.wide)) m.big from fun _ _ => rfl)
 have HTu := hid (fun W W' (h : MW B W m A1 n1 c1 A2 n2 c2 S1 S2) i g hi hS hBg hg b ho => h.turn (W' := W') (i := i) (g := g) hi hS hBg hg (b := b) ho)
 have hwd := wdN_wid m.wide
 have hw8 := wdN_le m.wide
 have HGm : Hid (∀ W W', MW B W m A1 n1 c1 A2 n2 c2 S1 S2 → Grow W W' → MW B W' m A1 n1 c1 A2 n2 c2 S1 S2) := hid fun W W' h hg => h.grow hg
 obtain ⟨x2, x3, x4, x5, x6, x7, x10, hC⟩ : ∃ x2 x3 x4 x5 x6 x7 x10 : Value, mdC m (.slice A1 n1 c1) (.slice A2 n2 c2) = #[.bool m.wide, .bool m.big, x2, x3, x4, x5, x6, x7, .slice A1 n1 c1, .slice A2 n2 c2, x10] := ⟨_, _, _, _, _, _, _, rfl⟩
 rw [hC] at HFn ⊢
 clear hC ok h
 generalize m.among a (wdN m.wide) = AM at *
 generalize hwM : m.wordM a d = wM at *
 clear hwM
 generalize m.wide = wi at *
 generalize m.big = bi at *
 go_enter Try.func46, Try.ntmps46
 go_wp2_with fail
 generalize hW : World.alloc _ _ = W0
 obtain ⟨b1, b2, hg0⟩ := blk2 hW
 clear hW
 have HB1 := hid b1.drew
 have HF1 := hid b2.drew
 have HG1 : Hid (Grow w W0.drew) := hid (hg0.trans (Grow.of_drew _))
 have HM1 := hid (HM.out.grow HG1.out)
 clear b1 b2 hg0 HM
 refine wp_region_chain [(0, true), (1, true), (2, true), (3, false), (4, true), (5, false), (6, true), (7, true), (8, true), (9, true), (10, true), (11, true), (12, true)] (by kernel_rfl) (by kernel_rfl) (by kernel_rfl) ?_
 generalize W0.drew = v0 at *
 generalize w.heap.size = gm at *
 generalize gm + 1 = gf at *
 have q0 : ∀ W, Grow v0 W → _ := fun W hW => (HB1.out.grow hW).c11
 have q1 : ∀ W, Grow v0 W → _ := fun W hW => (HF1.out.grow hW).c2
 repeat (refine chain_take rfl (by rfl) ?_ (fun W hG => ?_) ?_; rotate_left; (obtain ⟨v0, v1, v2, v3, v4, v5, v6, v7, v8, v9, v10⟩ := q0 W hG; obtain ⟨u0, u1⟩ := q1 W hG; go_simp; rfl); simp only [Act.put, List.setIfInBounds_toArray, List.set_cons_zero, List.set_cons_succ])
 clear q0 q1
 refine chain_only rfl (by rfl) (fun K hK => ?_)
 go_simp
 refine (HWd.out v0).mono ?_
 rintro e v1 ⟨rfl, hg⟩
 refine hK _ _ hg ?_
 clear hK K
 have HB2 := hid (HB1.out.grow hg)
 have HF2 := hid (HF1.out.grow hg)
 have HM2 := hid (HM1.out.grow hg)
 have HG2 : Hid (Grow w v1) := hid (HG1.out.trans hg)
 have z1 : IntKind.u64.wrap ((wdN wi : Nat) : Int) = ((wdN wi : Nat) : Int) := by rw [IntKind.wrap_u64]; omega
 clear hg HB1 HF1 HM1 HG1
 repeat (refine chain_take rfl (by rfl) ?_ (fun W hG => ?_) ?_; rotate_left; (go_simp; rfl); simp only [Act.put, List.setIfInBounds_toArray, List.set_cons_zero, List.set_cons_succ])
 refine chain_only rfl (by rfl) (fun K hK => ?_)
 go_simp
 refine (HFn.out v1 HM2.out).mono ?_
 rintro e v2 ⟨he, hg⟩
 have HB3 := hid (HB2.out.grow hg)
 have HF3 := hid (HF2.out.grow hg)
 have HM3 := hid (HM2.out.grow hg)
 have HG3 : Hid (Grow w v2) := hid (HG2.out.trans hg)
 cases AM with
 | none =>
  have hR := HN.out rfl
  subst hR
  unfold fndE at he
  subst he
  refine hK _ _ hg ?_
  clear hK K hg HB2 HF2 HM2 HG2 HAm HS HN
  repeat (refine chain_take rfl (by rfl) ?_ (fun W hG => ?_) ?_; rotate_left; (go_simp; rfl); simp only [Act.put, List.setIfInBounds_toArray, List.set_cons_zero, List.set_cons_succ])
  refine chain_done ?_
  go_wp2
  try simp only [Exit.inBlock, Exit.then]
  refine bodyPost_ret (results_none rfl _ _ _) rfl ?_
  exact ⟨rfl, HM3.out, Turn.of_grow HG3.out⟩
 | some x =>
  obtain ⟨i, p⟩ := x
  have HR := hid (HS.out i p rfl)
  obtain ⟨hi, -, -, -, hle⟩ := HAm.out i p rfl
  unfold fndE at he
  simp only [] at he
  subst he
  refine hK _ _ hg ?_
  clear hK K hg HB2 HF2 HM2 HG2 HAm HS HN
  repeat (refine chain_take rfl (by rfl) ?_ (fun W hG => ?_) ?_; rotate_left; (go_simp; rfl); simp only [Act.put, List.setIfInBounds_toArray, List.set_cons_zero, List.set_cons_succ])
  refine chain_done ?_
  have hin : i < n1 := by rw [HM3.out.s1.len]; exact hi
  obtain ⟨b, off, hA1, hb⟩ := HM3.out.zr1.pos (by omega)
  subst hA1
  have hir : i < (rowsOf sgK m.segs S1).length := by rw [rowsOf_len]; exact hi
  obtain ⟨g3, cur, hA, hb3, hB3, hle3, hcell⟩ := HM3.out.s1.row.openAt hir
  injection hA with hA
  injection hA with hA hoff
  subst hA; subst hoff
  rw [rowsOf_at hir hi] at hcell
  obtain ⟨⟨Ai, ni, ci⟩, hSi⟩ : ∃ s, S1 i = s := ⟨_, rfl⟩
  have q9 : v2.cell? ⟨b, i * 10 + 9, none⟩ = some (.slice Ai ni ci) := (hb3.at _).trans ((hcell 9 (by decide)).trans (by rw [hSi]; rfl))
  have hob := HM3.out.s1.own i hi hin
  have e0 : m.segs.getD i sg0 = m.segs[i] := getD_at hi
  have hTu := HTu.out
  have hVi := HV.out i p
  rw [hSi] at hob
  rw [e0] at HR hVi
  have hob' : OB v2 B 5 Ai ni ci m.segs[i].pl.own := hob
  have hlen := hob'.len
  have hgv := gotV_in (l := m.segs[i].pl.own) (p := p) (wd := wdN wi) (big := bi) hwd hle
  have HOB := hid hob'
  have HGt := hid (fun W (hW : Grow v2 W) => get_any Ai ni ci m.segs[i].pl.own v2.heap.size (p : Int) ((wdN wi : Nat) : Int) bi W (hob'.rb.belowAt hW (Nat.le_refl _)) (by omega))
  rw [hgv, ← hVi] at HGt
  have hp64 : p + wdN wi ≤ ni := by rw [hlen]; exact hle
  have HP := hid hp64
  have HSi := hid hSi
  have HI := hid hi
  have HSi2 : Hid ((S1 i).1 = Ai ∧ (S1 i).2.1 = ni ∧ (S1 i).2.2 = ci) := hid (by rw [hSi]; exact ⟨rfl, rfl, rfl⟩)
  have i0 : (0 : Int) ≤ (i : Int) := by omega
  have i1 : (i : Int) < (n1 : Int) := by omega
  have HBb := hid hb
  obtain ⟨u0, u1, u2, u3, u4, u5, u6, u7, u8, u9, u10⟩ := HB3.out.c11
  clear hob hob' hlen hgv hp64 hSi hcell hb3 hB3 hle3 hir hb hVi e0 HV hle hTu
  generalize gotB m.segs[i].pl.own (p : Int) ((wdN wi : Nat) : Int) = gb at *
  generalize m.wordV i p = V at *
  generalize hwo : m.segs[i].pl.own = so at *
  clear hwo
  go_wp2_with fail
  clear u0 u1 u2 u3 u4 u5 u6 u7 u8 u9 u10 q9
  refine wp_region_chain [(0, true), (1, true), (2, true), (4, true), (5, true), (3, false), (6, false), (7, true), (8, true), (9, true), (10, true), (11, true)] (by kernel_rfl) (by kernel_rfl) (by kernel_rfl) ?_
  have HF4 := hid HF3.out.drew
  have HG4 : Hid (Grow w v2.drew) := hid (HG3.out.trans (Grow.of_drew _))
  have HM4 := hid (HM3.out.grow (Grow.of_drew _))
  have HGd : Hid (Grow v2 v2.drew) := hid (Grow.of_drew _)
  have HOB4 := hid (HOB.out.keep HGd.out)
  clear HF3 HG3 HM3 HB3 HOB
  generalize v2.drew = v3 at *
  have q1 : ∀ W, Grow v3 W → _ := fun W hW => (HF4.out.grow hW).c2
  repeat (refine chain_take rfl (by rfl) ?_ (fun W hG => ?_) ?_; rotate_left; (obtain ⟨u0, u1⟩ := q1 W hG; go_simp; rfl); simp only [Act.put, List.setIfInBounds_toArray, List.set_cons_zero, List.set_cons_succ])
  clear q1
  refine chain_only rfl (by rfl) (fun K hK => ?_)
  go_simp
  refine (HWd.out v3).mono ?_
  rintro e v4 ⟨rfl, hg⟩
  refine hK _ _ hg ?_
  clear hK K
  have HF5 := hid (HF4.out.grow hg)
  have HG5 : Hid (Grow w v4) := hid (HG4.out.trans hg)
  have HM5 := hid (HM4.out.grow hg)
  have HGd5 : Hid (Grow v2 v4) := hid (HGd.out.trans hg)
  have HOB5 := hid (HOB4.out.keep hg)
  clear hg HF4 HG4 HM4 HGd HOB4 HWd
  repeat (refine chain_take rfl (by rfl) ?_ (fun W hG => ?_) ?_; rotate_left; (go_simp; rfl); simp only [Act.put, List.setIfInBounds_toArray, List.set_cons_zero, List.set_cons_succ])
  refine chain_only rfl (by rfl) (fun K hK => ?_)
  go_simp
  refine (HGt.out v4 HGd5.out).mono ?_
  rintro e v5 ⟨rfl, m5, rfl⟩
  have hg := Grow.of_drewN v4 m5
  refine hK _ _ hg ?_
  clear hK K
  have HF6 := hid (HF5.out.grow hg)
  have HG6 : Hid (Grow w (v4.drewN m5)) := hid (HG5.out.trans hg)
  have HM6 := hid (HM5.out.grow hg)
  have HOB6 := hid (HOB5.out.keep hg)
  clear hg HF5 HG5 HM5 HGd5 HOB5 HGt
  generalize v4.drewN m5 = v5 at *
  repeat (refine chain_take rfl (by rfl) ?_ (fun W hG => ?_) ?_; rotate_left; (go_simp; rfl); simp only [Act.put, List.setIfInBounds_toArray, List.set_cons_zero, List.set_cons_succ])
  refine chain_done ?_
  have z2 : IntKind.u64.wrap ((V : Int) + (d : Int)) = (((V + d) % 18446744073709551616 : Nat) : Int) := by rw [IntKind.wrap_u64]; omega
  obtain ⟨u0, u1⟩ := HF6.out.c2
  generalize (V + d) % 18446744073709551616 = Vd at *
  go_wp2_with fail
  clear u0 u1 z2
  refine (HPt.out Ai ni ci so p Vd v5 HOB6.out HP.out).mono ?_
  rintro e v6 ⟨rfl, g, hAg, hBg, hgr, hob⟩
  have hob2 : OB v6 B 5 (S1 i).1 (S1 i).2.1 (S1 i).2.2 (putIn so p (putB Vd (wdN wi) bi)) := by rw [HSi2.out.1, HSi2.out.2.1, HSi2.out.2.2]; exact hob
  have HFin := hid (HTu.out v5 v6 HM6.out i g HI.out (by rw [HSi2.out.1]; exact hAg) hBg hgr _ hob2)
  rw [← HR.out] at HFin
  have HT : Hid (Turn B w v6) := hid ((Turn.of_grow HG6.out).trans HFin.out.2)
  clear hAg hBg hgr hob hob2
  go_wp2
  go_end0
  exact ⟨rfl, HFin.out.1, HT.out⟩
theorem dyW_wid (wide : Bool) : wid (dyW wide : Nat) = true := by cases wide <;> rfl
theorem dyW_any (wide big : Bool) (w : World) : Calls Try.prog 90 #[.agg #[.bool wide, .bool big]] w fun e w' => e = .returned (.int .i64 (dyW wide : Nat)) ∧ Grow w w' := by
 cases wide
 all_goals
  go_enter Try.func90, Try.ntmps90
  go_wp2
  go_ret
  exact ⟨rfl, Grow.of_alloc _ _⟩
theorem dWord_any (wide big : Bool) (w : World) : Calls Try.prog 22 #[.agg #[.bool wide, .bool big]] w fun e w' => e = .returned (.int .i64 (dyW wide : Nat)) ∧ Grow w w' := by
 cases wide
 all_goals
  go_enter Try.func22, Try.ntmps22
  go_wp2
  go_ret
  exact ⟨rfl, Grow.of_alloc _ _⟩
theorem dySize_any (wide big : Bool) (w : World) : Calls Try.prog 80 #[.agg #[.bool wide, .bool big]] w fun e w' => e = .returned (.int .i64 (dySize wide : Nat)) ∧ Grow w w' := by
 have HW := hid (fun w => dyW_any wide big w)
 have h8 := dyW_le wide
 unfold dySize
 generalize dyW wide = m at HW h8 ⊢
 have z2 : IntKind.i64.wrap (2 * (m : Int)) = ((2 * m : Nat) : Int) := by rw [IntKind.wrap_i64]; omega
 clear h8
 go_enter Try.func80, Try.ntmps80
 go_wp2_with fail
 refine (HW.out _).mono ?_
 rintro e w1 ⟨rfl, hg1⟩
 have HG : Hid (Grow w w1) := (Grow.of_alloc _ _).trans hg1
 clear hg1
 go_wp2
 go_ret
 exact ⟨rfl, HG.out⟩
end Go.Proofs.Ytfpihkbpelbcbaa
