/-
  Several texts in one: The contract of plan.
-/
import Derived.Test.YtfbimboemahhhaaGreatDoorTfG5
namespace Go.Proofs.YtfbimboemahhhaaGreatDoor
open Go.Lib (hid)
open Go.RowKit
theorem blk5 {w W : World} {t1 t2 t3 t4 t5 : TypeId} {c1 c2 c3 c4 c5 : Array Value} (h : ((((w.alloc (.cells c1 t1)).alloc (.cells c2 t2)).alloc (.cells c3 t3)).alloc (.cells c4 t4)).alloc (.cells c5 t5) = W) :
  Blk W w.heap.size t1 c1 ∧ Blk W (w.heap.size + 1) t2 c2 ∧ Blk W (w.heap.size + 1 + 1) t3 c3 ∧ Blk W (w.heap.size + 1 + 1 + 1) t4 c4 ∧ Blk W (w.heap.size + 1 + 1 + 1 + 1) t5 c5 ∧ Grow w W := by
 obtain ⟨h1, h2, h3, h4, h5⟩ := blk4 (w := w) (t1 := t1) (t2 := t2) (t3 := t3) (t4 := t4) (c1 := c1) (c2 := c2) (c3 := c3) (c4 := c4) rfl
 subst h
 have h6 := Blk.new ((((w.alloc (.cells c1 t1)).alloc (.cells c2 t2)).alloc (.cells c3 t3)).alloc (.cells c4 t4)) t5 c5
 rw [show ((((w.alloc (.cells c1 t1)).alloc (.cells c2 t2)).alloc (.cells c3 t3)).alloc (.cells c4 t4)).heap.size = w.heap.size + 1 + 1 + 1 + 1 by simp] at h6
 exact ⟨h1.alloc _, h2.alloc _, h3.alloc _, h4.alloc _, h6, h5.trans (Grow.of_alloc _ _)⟩
theorem Blk.putAt {w : World} {g : Nat} {t : TypeId} {cs : Array Value} (h : Blk w g t cs) (i : Nat) (v : Value) (hi : i < cs.size) : Blk (w.setCell ⟨g, i, none⟩ v) g t (cs.set i v hi) := by
 have h0 : w.heap[g]? = some (.cells cs t (0, 0)) := h
 show (w.setCell ⟨g, i, none⟩ v).heap[g]? = some (.cells (cs.set i v hi) t (0, 0))
 simp [World.setCell, Array.getElem?_modify, h0, Array.setIfInBounds, hi]
theorem kept_by {S : Nat → Prop} {w W : World} {g : Nat} (h : w.grownBy W (some g)) (hS : ¬ S g) : Kept S w W := ⟨h.size, fun k hk hs => h.block k hk (fun e => hS (by rw [← Option.some.inj e]; exact hs))⟩
theorem kept_set {S : Nat → Prop} {g : Nat} (w : World) (i : Nat) (v : Value) (hS : ¬ S g) : Kept S w (w.setCell ⟨g, i, none⟩ v) := kept_by (grown_set w _ _) hS
theorem below_cell {B g : Nat} {w w' : World} (h : Below B w w') (hg : B ≤ g) (i : Nat) (v : Value) : Below B w (w'.setCell ⟨g, i, none⟩ v) := h.setCell hg v
theorem below_line {B g : Nat} {w w' w'' : World} (h : Below B w w') (hg : w'.grownBy w'' (some g)) (hB : B ≤ w'.heap.size) (hgB : B ≤ g) : Below B w w'' := h.grown hg hB (fun k hk => by obtain rfl := Option.some.inj hk; exact hgB)
theorem put5 {W : World} {g : Nat} {t : TypeId} {a0 a1 a2 a3 a4 : Value} (h : Blk W g t #[a0, a1, a2, a3, a4]) (v0 v1 v2 v3 v4 : Value) :
  Blk (((((W.setCell ⟨g, 0, none⟩ v0).setCell ⟨g, 1, none⟩ v1).setCell ⟨g, 2, none⟩ v2).setCell ⟨g, 3, none⟩ v3).setCell ⟨g, 4, none⟩ v4) g t #[v0, v1, v2, v3, v4] ∧
   W.grownBy (((((W.setCell ⟨g, 0, none⟩ v0).setCell ⟨g, 1, none⟩ v1).setCell ⟨g, 2, none⟩ v2).setCell ⟨g, 3, none⟩ v3).setCell ⟨g, 4, none⟩ v4) (some g) := by
 refine ⟨?_, grown_trans (grown_set _ _ _) (grown_trans (grown_set _ _ _) (grown_trans (grown_set _ _ _) (grown_trans (grown_set _ _ _) (grown_set _ _ _))))⟩
 have h1 := h.putAt 0 v0 (by simp)
 simp only [List.set_toArray, List.set_cons_zero] at h1
 have h2 := h1.putAt 1 v1 (by simp)
 simp only [List.set_toArray, List.set_cons_zero, List.set_cons_succ] at h2
 have h3 := h2.putAt 2 v2 (by simp)
 simp only [List.set_toArray, List.set_cons_zero, List.set_cons_succ] at h3
 have h4 := h3.putAt 3 v3 (by simp)
 simp only [List.set_toArray, List.set_cons_zero, List.set_cons_succ] at h4
 have h5 := h4.putAt 4 v4 (by simp)
 simp only [List.set_toArray, List.set_cons_zero, List.set_cons_succ] at h5
 exact h5
structure PlOk (m : Md) : Prop where
 n1 : m.segs.length ≤ 16
 n2 : m.secs.length ≤ 64
 sg : ∀ k, k < m.segs.length → SgP m m.segs.length k
 se : ∀ k, k < m.secs.length → (m.se k).pl.inn = -1 ∨ (∃ i : Nat, (m.se k).pl.inn = (i : Int) ∧ i < m.segs.length ∧ m.P2 i + (m.se k).pl.off < 18446744073709551616)
 sz : ∀ k, k < m.secs.length → (m.se k).pl.size < 9223372036854775808
theorem plc_one (e : Nat) (h : e ≤ 65537) : plc e 0 1 = e := by unfold plc; rw [nxt_one _ _ _ (by omega)]; omega
theorem fin_one (e n : Nat) (h : e + n ≤ 65537) : fin e 0 1 n = e + n := by unfold fin; rw [plc_one _ (by omega)]; omega
theorem ones1 : ones 1 ≤ 1 := by decide
theorem hSize_le (wide : Bool) : hSize wide ≤ 64 := by cases wide <;> decide
def LayR (m : Md) (n1 n2 : Nat) (w : World) (e : Ending) (w' : World) : Prop :=
 ∃ ga gb, e = .returned (.agg #[.int .u64 (m.phoff : Nat), .int .u64 (m.shoff : Nat), .int .u64 (m.eT : Nat), .slice (some ⟨ga, 0, none⟩) n1 n1, .slice (some ⟨gb, 0, none⟩) n2 n2]) ∧ Row w' ga n1 m.P2 ∧ Row w' gb n2 m.P3 ∧ (w.heap.size ≤ ga ∧ w.heap.size ≤ gb) ∧ Grow w w'
set_option maxHeartbeats 4000000 in
theorem lay_any (m : Md) (A1 A2 : Option Addr) (n1 c1 n2 c2 : Nat) (w : World) (g1 : ZR sgK w w.heap.size A1 n1 c1 m.segs) (g2 : ZR seK w w.heap.size A2 n2 c2 m.secs) (ok : PlOk m) :
  Calls Tryz.prog 73 #[.agg (mdC m (.slice A1 n1 c1) (.slice A2 n2 c2))] w (LayR m n1 n2 w) := by
 obtain ⟨o1, o2, o3, o4, o5⟩ := ok
 have l1 := g1.len
 have l2 := g2.len
 have HLe := hid (m.eL_le o1)
 have HLo := hid (m.eO_le o1)
 have HLs := hid (m.eS_le o1)
 rw [← l1] at o1 o3 o4
 rw [← l2] at o2 o4 o5
 have hh := hSize_le m.wide
 have hps := byWide_le m.wide 32 56 64 (by omega) (by omega)
 have hss := byWide_le m.wide 40 64 64 (by omega) (by omega)
 have hm1 : byWide m.wide 32 56 * n1 ≤ 64 * 16 := Nat.mul_le_mul hps o1
 have hm2 : byWide m.wide 40 64 * (n2 + 1) ≤ 64 * 65 := Nat.mul_le_mul hss (by omega)
 have E1 : m.e1 = hSize m.wide + byWide m.wide 32 56 * n1 := by rw [l1]; rfl
 have HSZ := hid (fun w => plHSize_any m.wide m.big w)
 have HPZ := hid (fun w => plPSize_any m.wide m.big w)
 have HXZ := hid (fun w => plSSize_any m.wide m.big w)
 have HC1 := hid (fun w => count_any 1 (hSize m.wide) w (by omega) (by omega))
 have HC2 := hid (fun w => count_any n1 (byWide m.wide 32 56) w (by omega) (by omega))
 have HC3 := hid (fun w => count_any (n2 + 1) (byWide m.wide 40 64) w (by omega) (by omega))
 have HSegs := hid (fun g (w' : World) (h : Ln w' g m.e1) (hb : Below w.heap.size w w') (hB : w.heap.size ≤ g) => segs_any m g w.heap.size A1 n1 c1 w' h HLe.out HLo.out (g1.belowAt hb (Nat.le_refl _)) hB o3 (by omega))
 have HSecs := hid (fun g gs (w' : World) (h : Ln w' g (m.eO n1)) (hb : Below w.heap.size w w') (hB : w.heap.size ≤ g) (hr : Row w' gs n1 m.P2) (hne : gs ≠ g) => secs_any m g gs n1 w.heap.size A2 n2 c2 w' (by rw [Md.eS, ← l1]; exact h) HLs.out (g2.belowAt hb (Nat.le_refl _)) hB hr hne o4 o5 (by omega) (by omega))
 have HA1 := hid (fun g w (h : Ln w g 0) => add_any g 0 0 1 (hSize m.wide * 1) w h (by omega) (by omega) ones1 (by omega))
 rw [plc_one 0 (by omega), fin_one 0 _ (by omega), Nat.zero_add, Nat.mul_one] at HA1
 rw [Nat.mul_one] at HC1
 have HA2 := hid (fun g w (h : Ln w g (hSize m.wide)) => add_any g (hSize m.wide) 0 1 (byWide m.wide 32 56 * n1) w h (by omega) (by omega) ones1 (by omega))
 rw [plc_one _ (by omega), fin_one _ _ (by omega), ← E1] at HA2
 have HA3 := hid (fun g w (h : Ln w g (m.eS n2)) => add_any g (m.eS n2) 0 8 (byWide m.wide 40 64 * (n2 + 1)) w h (HLs.out _) (by omega) ones8 (by omega))
 have EP : Hid (m.phoff = if 0 < n1 then hSize m.wide else 0) := hid (by rw [l1]; rfl)
 have ES : Hid (m.shoff = if 0 < n2 then plc (m.eS n2) 0 8 else 0) := hid (by rw [l2]; rfl)
 have ET : Hid (m.eT = if 0 < n2 then fin (m.eS n2) 0 8 (byWide m.wide 40 64 * (n2 + 1)) else m.eS n2) := hid (by rw [l2]; rfl)
 have E1' : Hid (n1 = 0 → m.e1 = hSize m.wide) := hid fun e => by rw [E1, e]; rfl
 have O1 := hid o1
 have O2 := hid o2
 clear g1 g2 l1 l2 hh hps hss hm1 hm2 E1 o1 o2 o3 o4 o5 HLe HLo HLs
 obtain ⟨x2, x3, x4, x5, x6, x7, x10, hC⟩ : ∃ x2 x3 x4 x5 x6 x7 x10 : Value, mdC m (.slice A1 n1 c1) (.slice A2 n2 c2) = #[.bool m.wide, .bool m.big, x2, x3, x4, x5, x6, x7, .slice A1 n1 c1, .slice A2 n2 c2, x10] := ⟨_, _, _, _, _, _, _, rfl⟩
 rw [hC]
 clear hC
 unfold LayR
 generalize m.phoff = PH at EP ⊢
 generalize m.shoff = SH at ES ⊢
 generalize m.eT = TT at ET ⊢
 generalize m.P2 = P2 at HSegs HSecs ⊢
 generalize m.P3 = P3 at HSecs ⊢
 generalize m.e1 = e1 at HA2 HSegs E1'
 generalize m.eO n1 = eo at HSegs HSecs
 generalize fin (m.eS n2) 0 8 (byWide m.wide 40 64 * (n2 + 1)) = et at HA3 ET
 generalize plc (m.eS n2) 0 8 = es at HA3 ES
 generalize m.eS n2 = es0 at HSecs HA3 ET
 generalize byWide m.wide 32 56 * n1 = k1 at HC2 HA2
 generalize byWide m.wide 40 64 * (n2 + 1) = k2 at HC3 HA3
 generalize byWide m.wide 32 56 = z1 at HPZ HC2
 generalize byWide m.wide 40 64 = z2 at HXZ HC3
 generalize hSize m.wide = z0 at HSZ HC1 HA1 HA2 EP E1'
 generalize m.wide = wide at HSZ HPZ HXZ ⊢
 generalize m.big = big at HSZ HPZ HXZ ⊢
 go_enter Tryz.func73, Tryz.ntmps73
 go_wp2_with fail
 generalize hW : World.alloc _ _ = W0
 obtain ⟨b1, b2, b3, b4, b5, hg0⟩ := blk5 hW
 clear hW
 obtain ⟨gm, hgm⟩ : ∃ gm, gm = w.heap.size := ⟨_, rfl⟩
 rw [← hgm] at b1 b2 b3 b4 b5 ⊢
 obtain ⟨gt, hgt⟩ : ∃ gt, gt = gm + 1 := ⟨_, rfl⟩
 rw [← hgt] at b2 b3 b4 b5 ⊢
 obtain ⟨gp, hgp⟩ : ∃ gp, gp = gt + 1 := ⟨_, rfl⟩
 rw [← hgp] at b3 b4 b5 ⊢
 obtain ⟨gl, hgl⟩ : ∃ gl, gl = gp + 1 := ⟨_, rfl⟩
 rw [← hgl] at b4 b5 ⊢
 obtain ⟨gf, hgf⟩ : ∃ gf, gf = gl + 1 := ⟨_, rfl⟩
 rw [← hgf] at b5 ⊢
 have HO := hid (show w.heap.size = gm ∧ gm < gt ∧ gt < gp ∧ gp < gl ∧ gl < gf from ⟨hgm.symm, by omega, by omega, by omega, by omega⟩)
 have HM0 := hid b1
 have HT0 := hid b2
 have HP0 := hid b3
 have HL0 : Hid (Ln W0 gl 0) := hid b4
 have HF0 := hid b5
 have HG0 : Hid (Below w.heap.size w W0) := hid hg0
 clear b1 b2 b3 b4 b5 hg0 hgm hgt hgp hgl hgf
 refine (HSZ.out _).mono ?_
 rintro e w1 ⟨rfl, hg1⟩
 have HM1 := hid (Blk.grow HM0.out hg1)
 have HT1 := hid (Blk.grow HT0.out hg1)
 have HP1 := hid (Blk.grow HP0.out hg1)
 have HF1 := hid (Blk.grow HF0.out hg1)
 have HL1 : Hid (Ln _ gl _) := hid (Blk.grow HL0.out hg1)
 have HG1 := hid (HG0.out.trans (Below.mono hg1 (HG0.out.size)))
 clear hg1 HM0 HT0 HP0 HF0 HL0 HG0
 go_wp2_with fail
 refine (HC1.out _).mono ?_
 rintro e w1 ⟨rfl, rfl⟩
 go_wp2_with fail
 refine (HA1.out _ _ HL1.out).mono ?_
 rintro e w2 ⟨rfl, hl, hg⟩
 have HM2 := hid (Blk.grownBy HM1.out hg (fun e => by have := Option.some.inj e; have := HO.out; omega))
 have HT2 := hid (Blk.grownBy HT1.out hg (fun e => by have := Option.some.inj e; have := HO.out; omega))
 have HP2 := hid (Blk.grownBy HP1.out hg (fun e => by have := Option.some.inj e; have := HO.out; omega))
 have HF2 := hid (Blk.grownBy HF1.out hg (fun e => by have := Option.some.inj e; have := HO.out; omega))
 have HL2 := hid hl
 have HG2 := hid (below_line HG1.out hg HG1.out.size (by have := HO.out; omega))
 clear hl hg HM1 HT1 HP1 HF1 HL1 HG1
 have y8 := HM2.out.at 8
 by_cases h1 : 0 < n1
 ·have d1 : decide (0 < n1) = true := decide_eq_true h1
  have d1' : decide ((0 : Int) < (n1 : Int)) = true := decide_eq_true (by omega)
  have EP2 : Hid (PH = z0) := hid (by rw [EP.out, if_pos h1])
  clear h1
  go_wp2_with fail
  clear y8 d1 d1'
  refine wp_region_leap (leap_kept (fun j => j = gm ∨ j = gf)) [(0, true), (1, true), (2, true), (3, true), (4, false), (5, false), (6, false), (7, true), (8, false)] (by kernel_rfl) (by kernel_rfl) (by kernel_rfl) ?_
  have q8 : ∀ W, Kept (fun j => j = gm ∨ j = gf) w2.drew W → W.cell? ⟨gm, 8, none⟩ = some (.slice A1 n1 c1) := fun W hW => (Blk.kept (HM2.out.drew) hW (.inl rfl)).at 8
  have u0 : ∀ W, Kept (fun j => j = gm ∨ j = gf) w2.drew W → W.cell? ⟨gf, 0, none⟩ = some (.bool wide) := fun W hW => (Blk.kept (HF2.out.drew) hW (.inr rfl)).at 0
  have u1 : ∀ W, Kept (fun j => j = gm ∨ j = gf) w2.drew W → W.cell? ⟨gf, 1, none⟩ = some (.bool big) := fun W hW => (Blk.kept (HF2.out.drew) hW (.inr rfl)).at 1
  have hd := Grow.of_drew w2
  have HM3 := hid (Blk.grow HM2.out hd)
  have HT3 := hid (Blk.grow HT2.out hd)
  have HP3 := hid (Blk.grow HP2.out hd)
  have HF3 := hid (Blk.grow HF2.out hd)
  have HL3 : Hid (Ln _ gl _) := hid (Blk.grow HL2.out hd)
  have HG3 := hid (HG2.out.trans (Below.mono hd (HG2.out.size)))
  clear hd HM2 HT2 HP2 HF2 HL2 HG2
  generalize w2.drew = w3 at HM3 HT3 HP3 HF3 HL3 HG3 q8 u0 u1 ⊢
  repeat ((first | (refine chain_take rfl (by rfl) ?_ (fun W hG => ?_) ?_; rotate_left; (go_simp; rfl)) | refine chain_skip rfl (by rfl) ?_); simp only [Act.put, List.setIfInBounds_toArray, List.set_cons_zero, List.set_cons_succ])
  clear q8 u0 u1
  refine chain_only rfl (by rfl) (fun K hK => ?_)
  go_simp
  refine (HPZ.out _).mono ?_
  rintro e w4 ⟨rfl, hg⟩
  refine hK _ _ (Kept.of_grow hg) ?_
  clear hK K
  have HM4 := hid (Blk.grow HM3.out hg)
  have HT4 := hid (Blk.grow HT3.out hg)
  have HP4 := hid (Blk.grow HP3.out hg)
  have HF4 := hid (Blk.grow HF3.out hg)
  have HL4 : Hid (Ln _ gl _) := hid (Blk.grow HL3.out hg)
  have HG4 := hid (HG3.out.trans (Below.mono hg (HG3.out.size)))
  clear hg HM3 HT3 HP3 HF3 HL3 HG3
  refine chain_only rfl (by rfl) (fun K hK => ?_)
  go_simp
  refine (HC2.out _).mono ?_
  rintro e w4 ⟨rfl, rfl⟩
  refine hK _ _ ((leap_kept _).refl _) ?_
  clear hK K
  refine chain_only rfl (by rfl) (fun K hK => ?_)
  go_simp
  refine (HA2.out _ _ HL4.out).mono ?_
  rintro e w5 ⟨rfl, hl, hg⟩
  refine hK _ _ (kept_by hg (by have := HO.out; omega)) ?_
  clear hK K
  have HM5 := hid (Blk.grownBy HM4.out hg (fun e => by have := Option.some.inj e; have := HO.out; omega))
  have HT5 := hid (Blk.grownBy HT4.out hg (fun e => by have := Option.some.inj e; have := HO.out; omega))
  have HP5 := hid (Blk.grownBy HP4.out hg (fun e => by have := Option.some.inj e; have := HO.out; omega))
  have HF5 := hid (Blk.grownBy HF4.out hg (fun e => by have := Option.some.inj e; have := HO.out; omega))
  have HL5 := hid hl
  have HG5 := hid (below_line HG4.out hg HG4.out.size (by have := HO.out; omega))
  clear hl hg HM4 HT4 HP4 HF4 HL4 HG4
  repeat ((first | (refine chain_take rfl (by rfl) ?_ (fun W hG => ?_) ?_; rotate_left; (go_simp; rfl)) | refine chain_skip rfl (by rfl) ?_); simp only [Act.put, List.setIfInBounds_toArray, List.set_cons_zero, List.set_cons_succ])
  have hc := HP5.out.at 0
  have hf := HP5.out.soft 0
  refine chain_only rfl (by rfl) (fun K hK => ?_)
  go_simp
  refine hK _ _ (kept_set _ _ _ (by have := HO.out; omega)) ?_
  clear hK K hc hf
  refine chain_done ?_
  have HM6 := hid (Blk.cellset HM5.out (a := ⟨gp, 0, none⟩) (fun e => by have e : gm = gp := e; have := HO.out; omega) (.int .u64 (z0 : Nat)))
  have HT6 := hid (Blk.cellset HT5.out (a := ⟨gp, 0, none⟩) (fun e => by have e : gt = gp := e; have := HO.out; omega) (.int .u64 (z0 : Nat)))
  have HF6 := hid (Blk.cellset HF5.out (a := ⟨gp, 0, none⟩) (fun e => by have e : gf = gp := e; have := HO.out; omega) (.int .u64 (z0 : Nat)))
  have HP6 := hid (Blk.putAt HP5.out 0 (.int .u64 (z0 : Nat)) (by simp))
  simp only [List.set_toArray, List.set_cons_zero] at HP6
  have HL6 : Hid (Ln _ gl _) := hid (Blk.cellset HL5.out (a := ⟨gp, 0, none⟩) (fun e => by have e : gl = gp := e; have := HO.out; omega) (.int .u64 (z0 : Nat)))
  have HG6 := hid (below_cell HG5.out (show w.heap.size ≤ gp by have := HO.out; omega) 0 (.int .u64 (z0 : Nat)))
  clear HM5 HT5 HP5 HF5 HL5 HG5
  generalize w5.setCell ⟨gp, 0, none⟩ (.int .u64 (z0 : Nat)) = w6 at HM6 HT6 HP6 HF6 HL6 HG6 ⊢
  have y8 := HM6.out.at 8
  go_wp2_with fail
  clear y8
  refine (HSegs.out gl w6 HL6.out HG6.out (by have := HO.out; omega)).mono ?_
  rintro e w7 ⟨ga, rfl, hga, hra, hl, hg⟩
  have HNa := hid (show ga ≠ gp ∧ ga ≠ gl ∧ ga ≠ gt ∧ w.heap.size ≤ ga from ⟨fun e => by have := Blk.lt HF6.out; have := HO.out; omega, fun e => by have := Blk.lt HF6.out; have := HO.out; omega, fun e => by have := Blk.lt HF6.out; have := HO.out; omega, Nat.le_trans HG6.out.size hga⟩)
  clear hga
  have HM7 := hid (Blk.grownBy HM6.out hg (fun e => by have := Option.some.inj e; have := HO.out; omega))
  have HT7 := hid (Blk.grownBy HT6.out hg (fun e => by have := Option.some.inj e; have := HO.out; omega))
  have HP7 := hid (Blk.grownBy HP6.out hg (fun e => by have := Option.some.inj e; have := HO.out; omega))
  have HF7 := hid (Blk.grownBy HF6.out hg (fun e => by have := Option.some.inj e; have := HO.out; omega))
  have HL7 := hid hl
  have HG7 := hid (below_line HG6.out hg HG6.out.size (by have := HO.out; omega))
  clear hl hg HM6 HT6 HP6 HF6 HL6 HG6
  have HRa7 := hid hra
  have hlt := hid (Row.lt hra)
  clear hra
  have hc := HP7.out.at 3
  have hf := HP7.out.soft 3
  have HM8 := hid (Blk.cellset HM7.out (a := ⟨gp, 3, none⟩) (fun e => by have e : gm = gp := e; have := HO.out; omega) (.slice (some ⟨ga, 0, none⟩) n1 n1))
  have HT8 := hid (Blk.cellset HT7.out (a := ⟨gp, 3, none⟩) (fun e => by have e : gt = gp := e; have := HO.out; omega) (.slice (some ⟨ga, 0, none⟩) n1 n1))
  have HF8 := hid (Blk.cellset HF7.out (a := ⟨gp, 3, none⟩) (fun e => by have e : gf = gp := e; have := HO.out; omega) (.slice (some ⟨ga, 0, none⟩) n1 n1))
  have HP8 := hid (Blk.putAt HP7.out 3 (.slice (some ⟨ga, 0, none⟩) n1 n1) (by simp))
  simp only [List.set_toArray, List.set_cons_zero, List.set_cons_succ] at HP8
  have HL8 : Hid (Ln _ gl _) := hid (Blk.cellset HL7.out (a := ⟨gp, 3, none⟩) (fun e => by have e : gl = gp := e; have := HO.out; omega) (.slice (some ⟨ga, 0, none⟩) n1 n1))
  have HG8 := hid (below_cell HG7.out (show w.heap.size ≤ gp by have := HO.out; omega) 3 (.slice (some ⟨ga, 0, none⟩) n1 n1))
  have HRa8 := hid (Row.grownBy HRa7.out (grown_set w7 ⟨gp, 3, none⟩ (.slice (some ⟨ga, 0, none⟩) n1 n1)) (fun e => HNa.out.1 (Option.some.inj e)))
  clear HM7 HT7 HP7 HF7 HL7 HG7 HRa7
  have y9 := HM8.out.at 9
  have y3 := HP8.out.at 3
  go_wp2_with fail
  clear y9 y3 hc hf
  generalize w7.setCell ⟨gp, 3, none⟩ (.slice (some ⟨ga, 0, none⟩) n1 n1) = w8 at HM8 HT8 HP8 HF8 HL8 HG8 HRa8 ⊢
  refine (HSecs.out gl ga w8 HL8.out HG8.out (by have := HO.out; omega) HRa8.out HNa.out.2.1).mono ?_
  rintro e w9 ⟨gb, rfl, hgb, hrb, hl, hg⟩
  have HNb := hid (show gb ≠ gp ∧ gb ≠ gl ∧ gb ≠ gt ∧ w.heap.size ≤ gb from ⟨fun e => by have := Blk.lt HF8.out; have := HO.out; omega, fun e => by have := Blk.lt HF8.out; have := HO.out; omega, fun e => by have := Blk.lt HF8.out; have := HO.out; omega, Nat.le_trans HG8.out.size hgb⟩)
  clear hgb
  have HRa9 := hid (Row.grownBy HRa8.out hg (fun e => HNa.out.2.1 (Option.some.inj e)))
  have HRb9 := hid hrb
  clear hrb HRa8 hlt
  have HM9 := hid (Blk.grownBy HM8.out hg (fun e => by have := Option.some.inj e; have := HO.out; omega))
  have HT9 := hid (Blk.grownBy HT8.out hg (fun e => by have := Option.some.inj e; have := HO.out; omega))
  have HP9 := hid (Blk.grownBy HP8.out hg (fun e => by have := Option.some.inj e; have := HO.out; omega))
  have HF9 := hid (Blk.grownBy HF8.out hg (fun e => by have := Option.some.inj e; have := HO.out; omega))
  have HL9 := hid hl
  have HG9 := hid (below_line HG8.out hg HG8.out.size (by have := HO.out; omega))
  clear hl hg HM8 HT8 HP8 HF8 HL8 HG8
  have hc := HP9.out.at 4
  have hf := HP9.out.soft 4
  have HM10 := hid (Blk.cellset HM9.out (a := ⟨gp, 4, none⟩) (fun e => by have e : gm = gp := e; have := HO.out; omega) (.slice (some ⟨gb, 0, none⟩) n2 n2))
  have HT10 := hid (Blk.cellset HT9.out (a := ⟨gp, 4, none⟩) (fun e => by have e : gt = gp := e; have := HO.out; omega) (.slice (some ⟨gb, 0, none⟩) n2 n2))
  have HF10 := hid (Blk.cellset HF9.out (a := ⟨gp, 4, none⟩) (fun e => by have e : gf = gp := e; have := HO.out; omega) (.slice (some ⟨gb, 0, none⟩) n2 n2))
  have HP10 := hid (Blk.putAt HP9.out 4 (.slice (some ⟨gb, 0, none⟩) n2 n2) (by simp))
  simp only [List.set_toArray, List.set_cons_zero, List.set_cons_succ] at HP10
  have HL10 : Hid (Ln _ gl _) := hid (Blk.cellset HL9.out (a := ⟨gp, 4, none⟩) (fun e => by have e : gl = gp := e; have := HO.out; omega) (.slice (some ⟨gb, 0, none⟩) n2 n2))
  have HG10 := hid (below_cell HG9.out (show w.heap.size ≤ gp by have := HO.out; omega) 4 (.slice (some ⟨gb, 0, none⟩) n2 n2))
  have HRa10 := hid (Row.grownBy HRa9.out (grown_set w9 ⟨gp, 4, none⟩ (.slice (some ⟨gb, 0, none⟩) n2 n2)) (fun e => HNa.out.1 (Option.some.inj e)))
  have HRb10 := hid (Row.grownBy HRb9.out (grown_set w9 ⟨gp, 4, none⟩ (.slice (some ⟨gb, 0, none⟩) n2 n2)) (fun e => HNb.out.1 (Option.some.inj e)))
  clear HM9 HT9 HP9 HF9 HL9 HG9 HRa9 HRb9
  have y9 := HM10.out.at 9
  by_cases h2 : 0 < n2
  ·have d2 : decide (0 < n2) = true := decide_eq_true h2
   have d2' : decide ((0 : Int) < (n2 : Int)) = true := decide_eq_true (by omega)
   have ES2 : Hid (SH = es) := hid (by rw [ES.out, if_pos h2])
   have ET2 : Hid (TT = et) := hid (by rw [ET.out, if_pos h2])
   clear h2
   go_wp2_with fail
   clear y9 hc hf d2
   generalize w9.setCell ⟨gp, 4, none⟩ (.slice (some ⟨gb, 0, none⟩) n2 n2) = w10 at HM10 HT10 HP10 HF10 HL10 HG10 HRa10 HRb10 ⊢
   refine wp_region_leap (leap_kept (fun j => j = gm ∨ j = gf)) [(0, true), (1, true), (2, true), (3, true), (4, true), (5, false), (6, false), (7, false), (8, true), (9, false)] (by kernel_rfl) (by kernel_rfl) (by kernel_rfl) ?_
   have q9 : ∀ W, Kept (fun j => j = gm ∨ j = gf) w10.drew W → W.cell? ⟨gm, 9, none⟩ = some (.slice A2 n2 c2) := fun W hW => (Blk.kept (HM10.out.drew) hW (.inl rfl)).at 9
   have u0 : ∀ W, Kept (fun j => j = gm ∨ j = gf) w10.drew W → W.cell? ⟨gf, 0, none⟩ = some (.bool wide) := fun W hW => (Blk.kept (HF10.out.drew) hW (.inr rfl)).at 0
   have u1 : ∀ W, Kept (fun j => j = gm ∨ j = gf) w10.drew W → W.cell? ⟨gf, 1, none⟩ = some (.bool big) := fun W hW => (Blk.kept (HF10.out.drew) hW (.inr rfl)).at 1
   have hd := Grow.of_drew w10
   have HRa11 := hid (Row.grownBy HRa10.out (grown_grow hd (some gl)) (fun e => HNa.out.2.1 (Option.some.inj e)))
   have HRb11 := hid (Row.grownBy HRb10.out (grown_grow hd (some gl)) (fun e => HNb.out.2.1 (Option.some.inj e)))
   clear HRa10 HRb10
   have zz : IntKind.i64.wrap ((n2 : Int) + 1) = ((n2 + 1 : Nat) : Int) := by have := O2.out; rw [IntKind.wrap_i64]; omega
   have HM11 := hid (Blk.grow HM10.out hd)
   have HT11 := hid (Blk.grow HT10.out hd)
   have HP11 := hid (Blk.grow HP10.out hd)
   have HF11 := hid (Blk.grow HF10.out hd)
   have HL11 : Hid (Ln _ gl _) := hid (Blk.grow HL10.out hd)
   have HG11 := hid (HG10.out.trans (Below.mono hd (HG10.out.size)))
   clear hd HM10 HT10 HP10 HF10 HL10 HG10
   generalize w10.drew = w11 at HM11 HT11 HP11 HF11 HL11 HG11 HRa11 HRb11 q9 u0 u1 ⊢
   repeat ((first | (refine chain_take rfl (by rfl) ?_ (fun W hG => ?_) ?_; rotate_left; (go_simp; rfl)) | refine chain_skip rfl (by rfl) ?_); simp only [Act.put, List.setIfInBounds_toArray, List.set_cons_zero, List.set_cons_succ])
   clear q9 u0 u1 zz
   refine chain_only rfl (by rfl) (fun K hK => ?_)
   go_simp
   refine (HXZ.out _).mono ?_
   rintro e w12 ⟨rfl, hg⟩
   refine hK _ _ (Kept.of_grow hg) ?_
   clear hK K
   have HRa12 := hid (Row.grownBy HRa11.out (grown_grow hg (some gl)) (fun e => HNa.out.2.1 (Option.some.inj e)))
   have HRb12 := hid (Row.grownBy HRb11.out (grown_grow hg (some gl)) (fun e => HNb.out.2.1 (Option.some.inj e)))
   clear HRa11 HRb11
   have HM12 := hid (Blk.grow HM11.out hg)
   have HT12 := hid (Blk.grow HT11.out hg)
   have HP12 := hid (Blk.grow HP11.out hg)
   have HF12 := hid (Blk.grow HF11.out hg)
   have HL12 : Hid (Ln _ gl _) := hid (Blk.grow HL11.out hg)
   have HG12 := hid (HG11.out.trans (Below.mono hg (HG11.out.size)))
   clear hg HM11 HT11 HP11 HF11 HL11 HG11
   refine chain_only rfl (by rfl) (fun K hK => ?_)
   go_simp
   refine (HC3.out _).mono ?_
   rintro e w12 ⟨rfl, rfl⟩
   refine hK _ _ ((leap_kept _).refl _) ?_
   clear hK K
   refine chain_only rfl (by rfl) (fun K hK => ?_)
   go_simp
   refine (HA3.out _ _ HL12.out).mono ?_
   rintro e w13 ⟨rfl, hl, hg⟩
   refine hK _ _ (kept_by hg (by have := HO.out; omega)) ?_
   clear hK K
   have HRa13 := hid (Row.grownBy HRa12.out hg (fun e => HNa.out.2.1 (Option.some.inj e)))
   have HRb13 := hid (Row.grownBy HRb12.out hg (fun e => HNb.out.2.1 (Option.some.inj e)))
   clear HRa12 HRb12
   have HM13 := hid (Blk.grownBy HM12.out hg (fun e => by have := Option.some.inj e; have := HO.out; omega))
   have HT13 := hid (Blk.grownBy HT12.out hg (fun e => by have := Option.some.inj e; have := HO.out; omega))
   have HP13 := hid (Blk.grownBy HP12.out hg (fun e => by have := Option.some.inj e; have := HO.out; omega))
   have HF13 := hid (Blk.grownBy HF12.out hg (fun e => by have := Option.some.inj e; have := HO.out; omega))
   have HL13 := hid hl
   have HG13 := hid (below_line HG12.out hg HG12.out.size (by have := HO.out; omega))
   clear hl hg HM12 HT12 HP12 HF12 HL12 HG12
   repeat ((first | (refine chain_take rfl (by rfl) ?_ (fun W hG => ?_) ?_; rotate_left; (go_simp; rfl)) | refine chain_skip rfl (by rfl) ?_); simp only [Act.put, List.setIfInBounds_toArray, List.set_cons_zero, List.set_cons_succ])
   have hc := HP13.out.at 1
   have hf := HP13.out.soft 1
   refine chain_only rfl (by rfl) (fun K hK => ?_)
   go_simp
   refine hK _ _ (kept_set _ _ _ (by have := HO.out; omega)) ?_
   clear hK K hc hf
   refine chain_done ?_
   have HM14 := hid (Blk.cellset HM13.out (a := ⟨gp, 1, none⟩) (fun e => by have e : gm = gp := e; have := HO.out; omega) (.int .u64 (es : Nat)))
   have HT14 := hid (Blk.cellset HT13.out (a := ⟨gp, 1, none⟩) (fun e => by have e : gt = gp := e; have := HO.out; omega) (.int .u64 (es : Nat)))
   have HF14 := hid (Blk.cellset HF13.out (a := ⟨gp, 1, none⟩) (fun e => by have e : gf = gp := e; have := HO.out; omega) (.int .u64 (es : Nat)))
   have HP14 := hid (Blk.putAt HP13.out 1 (.int .u64 (es : Nat)) (by simp))
   simp only [List.set_toArray, List.set_cons_zero, List.set_cons_succ] at HP14
   have HL14 : Hid (Ln _ gl _) := hid (Blk.cellset HL13.out (a := ⟨gp, 1, none⟩) (fun e => by have e : gl = gp := e; have := HO.out; omega) (.int .u64 (es : Nat)))
   have HG14 := hid (below_cell HG13.out (show w.heap.size ≤ gp by have := HO.out; omega) 1 (.int .u64 (es : Nat)))
   have HRa14 := hid (Row.grownBy HRa13.out (grown_set w13 ⟨gp, 1, none⟩ (.int .u64 (es : Nat))) (fun e => HNa.out.1 (Option.some.inj e)))
   have HRb14 := hid (Row.grownBy HRb13.out (grown_set w13 ⟨gp, 1, none⟩ (.int .u64 (es : Nat))) (fun e => HNb.out.1 (Option.some.inj e)))
   clear HM13 HT13 HP13 HF13 HL13 HG13 HRa13 HRb13
   generalize w13.setCell ⟨gp, 1, none⟩ (.int .u64 (es : Nat)) = w14 at HM14 HT14 HP14 HF14 HL14 HG14 HRa14 HRb14 ⊢
   clear d2'
   have hl := Blk.at HL14.out 0
   have hc := HP14.out.at 2
   have hf := HP14.out.soft 2
   obtain ⟨s0, s1, s2, s3, s4⟩ : _ ∧ _ ∧ _ ∧ _ ∧ _ := ⟨HT14.out.soft 0, HT14.out.soft 1, HT14.out.soft 2, HT14.out.soft 3, HT14.out.soft 4⟩
   have HM15 := hid (Blk.cellset HM14.out (a := ⟨gp, 2, none⟩) (fun e => by have e : gm = gp := e; have := HO.out; omega) (.int .u64 (et : Nat)))
   have HT15 := hid (Blk.cellset HT14.out (a := ⟨gp, 2, none⟩) (fun e => by have e : gt = gp := e; have := HO.out; omega) (.int .u64 (et : Nat)))
   have HF15 := hid (Blk.cellset HF14.out (a := ⟨gp, 2, none⟩) (fun e => by have e : gf = gp := e; have := HO.out; omega) (.int .u64 (et : Nat)))
   have HP15 := hid (Blk.putAt HP14.out 2 (.int .u64 (et : Nat)) (by simp))
   simp only [List.set_toArray, List.set_cons_zero, List.set_cons_succ] at HP15
   have HL15 : Hid (Ln _ gl _) := hid (Blk.cellset HL14.out (a := ⟨gp, 2, none⟩) (fun e => by have e : gl = gp := e; have := HO.out; omega) (.int .u64 (et : Nat)))
   have HG15 := hid (below_cell HG14.out (show w.heap.size ≤ gp by have := HO.out; omega) 2 (.int .u64 (et : Nat)))
   have HRa15 := hid (Row.grownBy HRa14.out (grown_set w14 ⟨gp, 2, none⟩ (.int .u64 (et : Nat))) (fun e => HNa.out.1 (Option.some.inj e)))
   have HRb15 := hid (Row.grownBy HRb14.out (grown_set w14 ⟨gp, 2, none⟩ (.int .u64 (et : Nat))) (fun e => HNb.out.1 (Option.some.inj e)))
   clear HM14 HT14 HP14 HF14 HL14 HG14 HRa14 HRb14
   obtain ⟨p0, p1, p2, p3, p4⟩ : _ ∧ _ ∧ _ ∧ _ ∧ _ := ⟨HP15.out.at 0, HP15.out.at 1, HP15.out.at 2, HP15.out.at 3, HP15.out.at 4⟩
   obtain ⟨r0, r1, r2, r3, r4⟩ : _ ∧ _ ∧ _ ∧ _ ∧ _ := ⟨HT15.out.at 0, HT15.out.at 1, HT15.out.at 2, HT15.out.at 3, HT15.out.at 4⟩
   go_wp2
   have HX := hid (put5 HT15.out (.int .u64 (z0 : Nat)) (.int .u64 (es : Nat)) (.int .u64 (et : Nat)) (.slice (some ⟨ga, 0, none⟩) n1 n1) (.slice (some ⟨gb, 0, none⟩) n2 n2))
   refine bodyPost_ret (results_cell_row (cs := #[.int .u64 (z0 : Nat), .int .u64 (es : Nat), .int .u64 (et : Nat), .slice (some ⟨ga, 0, none⟩) n1 n1, .slice (some ⟨gb, 0, none⟩) n2 n2]) rfl _ _ gt _ (0, 0) _ rfl HX.out.1 Tryz.underlying104 rfl (by kernel_rfl)) rfl ?_
   exact ⟨ga, gb, by rw [EP2.out, ES2.out, ET2.out] <;> rfl, Row.grownBy HRa15.out HX.out.2 (fun e => HNa.out.2.2.1 (Option.some.inj e)), Row.grownBy HRb15.out HX.out.2 (fun e => HNb.out.2.2.1 (Option.some.inj e)), ⟨HNa.out.2.2.2, HNb.out.2.2.2⟩, below_line HG15.out HX.out.2 HG15.out.size (by have := HO.out; omega)⟩
  ·have d2 : decide (0 < n2) = false := decide_eq_false h2
   have d2' : decide ((0 : Int) < (n2 : Int)) = false := decide_eq_false (by omega)
   have ES2 : Hid (SH = 0) := hid (by rw [ES.out, if_neg h2])
   have ET2 : Hid (TT = es0) := hid (by rw [ET.out, if_neg h2])
   clear h2
   have hc4 := hc
   have hf4 := hf
   clear hc hf
   have hl := Blk.at HL10.out 0
   have hc := HP10.out.at 2
   have hf := HP10.out.soft 2
   obtain ⟨s0, s1, s2, s3, s4⟩ : _ ∧ _ ∧ _ ∧ _ ∧ _ := ⟨HT10.out.soft 0, HT10.out.soft 1, HT10.out.soft 2, HT10.out.soft 3, HT10.out.soft 4⟩
   have HM11 := hid (Blk.cellset HM10.out (a := ⟨gp, 2, none⟩) (fun e => by have e : gm = gp := e; have := HO.out; omega) (.int .u64 (es0 : Nat)))
   have HT11 := hid (Blk.cellset HT10.out (a := ⟨gp, 2, none⟩) (fun e => by have e : gt = gp := e; have := HO.out; omega) (.int .u64 (es0 : Nat)))
   have HF11 := hid (Blk.cellset HF10.out (a := ⟨gp, 2, none⟩) (fun e => by have e : gf = gp := e; have := HO.out; omega) (.int .u64 (es0 : Nat)))
   have HP11 := hid (Blk.putAt HP10.out 2 (.int .u64 (es0 : Nat)) (by simp))
   simp only [List.set_toArray, List.set_cons_zero, List.set_cons_succ] at HP11
   have HL11 : Hid (Ln _ gl _) := hid (Blk.cellset HL10.out (a := ⟨gp, 2, none⟩) (fun e => by have e : gl = gp := e; have := HO.out; omega) (.int .u64 (es0 : Nat)))
   have HG11 := hid (below_cell HG10.out (show w.heap.size ≤ gp by have := HO.out; omega) 2 (.int .u64 (es0 : Nat)))
   have HRa11 := hid (Row.grownBy HRa10.out (grown_set (w9.setCell ⟨gp, 4, none⟩ (.slice (some ⟨gb, 0, none⟩) n2 n2)) ⟨gp, 2, none⟩ (.int .u64 (es0 : Nat))) (fun e => HNa.out.1 (Option.some.inj e)))
   have HRb11 := hid (Row.grownBy HRb10.out (grown_set (w9.setCell ⟨gp, 4, none⟩ (.slice (some ⟨gb, 0, none⟩) n2 n2)) ⟨gp, 2, none⟩ (.int .u64 (es0 : Nat))) (fun e => HNb.out.1 (Option.some.inj e)))
   clear HM10 HT10 HP10 HF10 HL10 HG10 HRa10 HRb10
   obtain ⟨p0, p1, p2, p3, p4⟩ : _ ∧ _ ∧ _ ∧ _ ∧ _ := ⟨HP11.out.at 0, HP11.out.at 1, HP11.out.at 2, HP11.out.at 3, HP11.out.at 4⟩
   obtain ⟨r0, r1, r2, r3, r4⟩ : _ ∧ _ ∧ _ ∧ _ ∧ _ := ⟨HT11.out.at 0, HT11.out.at 1, HT11.out.at 2, HT11.out.at 3, HT11.out.at 4⟩
   go_wp2
   have HX := hid (put5 HT11.out (.int .u64 (z0 : Nat)) (.int .u64 (0)) (.int .u64 (es0 : Nat)) (.slice (some ⟨ga, 0, none⟩) n1 n1) (.slice (some ⟨gb, 0, none⟩) n2 n2))
   refine bodyPost_ret (results_cell_row (cs := #[.int .u64 (z0 : Nat), .int .u64 (0), .int .u64 (es0 : Nat), .slice (some ⟨ga, 0, none⟩) n1 n1, .slice (some ⟨gb, 0, none⟩) n2 n2]) rfl _ _ gt _ (0, 0) _ rfl HX.out.1 Tryz.underlying104 rfl (by kernel_rfl)) rfl ?_
   exact ⟨ga, gb, by rw [EP2.out, ES2.out, ET2.out] <;> rfl, Row.grownBy HRa11.out HX.out.2 (fun e => HNa.out.2.2.1 (Option.some.inj e)), Row.grownBy HRb11.out HX.out.2 (fun e => HNb.out.2.2.1 (Option.some.inj e)), ⟨HNa.out.2.2.2, HNb.out.2.2.2⟩, below_line HG11.out HX.out.2 HG11.out.size (by have := HO.out; omega)⟩
 ·have d1 : decide (0 < n1) = false := decide_eq_false h1
  have d1' : decide ((0 : Int) < (n1 : Int)) = false := decide_eq_false (by omega)
  have EP2 : Hid (PH = 0) := hid (by rw [EP.out, if_neg h1])
  have E0 := hid (E1'.out (by omega))
  clear h1
  have HM6 := HM2
  have HT6 := HT2
  have HP6 := HP2
  have HF6 := HF2
  have HL6 : Hid (Ln w2 gl e1) := hid (by rw [E0.out]; exact HL2.out)
  have HG6 := HG2
  clear HM2 HT2 HP2 HF2 HL2 HG2 y8
  generalize w2 = w6 at HM6 HT6 HP6 HF6 HL6 HG6 ⊢
  have y8 := HM6.out.at 8
  go_wp2_with fail
  clear y8
  refine (HSegs.out gl w6 HL6.out HG6.out (by have := HO.out; omega)).mono ?_
  rintro e w7 ⟨ga, rfl, hga, hra, hl, hg⟩
  have HNa := hid (show ga ≠ gp ∧ ga ≠ gl ∧ ga ≠ gt ∧ w.heap.size ≤ ga from ⟨fun e => by have := Blk.lt HF6.out; have := HO.out; omega, fun e => by have := Blk.lt HF6.out; have := HO.out; omega, fun e => by have := Blk.lt HF6.out; have := HO.out; omega, Nat.le_trans HG6.out.size hga⟩)
  clear hga
  have HM7 := hid (Blk.grownBy HM6.out hg (fun e => by have := Option.some.inj e; have := HO.out; omega))
  have HT7 := hid (Blk.grownBy HT6.out hg (fun e => by have := Option.some.inj e; have := HO.out; omega))
  have HP7 := hid (Blk.grownBy HP6.out hg (fun e => by have := Option.some.inj e; have := HO.out; omega))
  have HF7 := hid (Blk.grownBy HF6.out hg (fun e => by have := Option.some.inj e; have := HO.out; omega))
  have HL7 := hid hl
  have HG7 := hid (below_line HG6.out hg HG6.out.size (by have := HO.out; omega))
  clear hl hg HM6 HT6 HP6 HF6 HL6 HG6
  have HRa7 := hid hra
  have hlt := hid (Row.lt hra)
  clear hra
  have hc := HP7.out.at 3
  have hf := HP7.out.soft 3
  have HM8 := hid (Blk.cellset HM7.out (a := ⟨gp, 3, none⟩) (fun e => by have e : gm = gp := e; have := HO.out; omega) (.slice (some ⟨ga, 0, none⟩) n1 n1))
  have HT8 := hid (Blk.cellset HT7.out (a := ⟨gp, 3, none⟩) (fun e => by have e : gt = gp := e; have := HO.out; omega) (.slice (some ⟨ga, 0, none⟩) n1 n1))
  have HF8 := hid (Blk.cellset HF7.out (a := ⟨gp, 3, none⟩) (fun e => by have e : gf = gp := e; have := HO.out; omega) (.slice (some ⟨ga, 0, none⟩) n1 n1))
  have HP8 := hid (Blk.putAt HP7.out 3 (.slice (some ⟨ga, 0, none⟩) n1 n1) (by simp))
  simp only [List.set_toArray, List.set_cons_zero, List.set_cons_succ] at HP8
  have HL8 : Hid (Ln _ gl _) := hid (Blk.cellset HL7.out (a := ⟨gp, 3, none⟩) (fun e => by have e : gl = gp := e; have := HO.out; omega) (.slice (some ⟨ga, 0, none⟩) n1 n1))
  have HG8 := hid (below_cell HG7.out (show w.heap.size ≤ gp by have := HO.out; omega) 3 (.slice (some ⟨ga, 0, none⟩) n1 n1))
  have HRa8 := hid (Row.grownBy HRa7.out (grown_set w7 ⟨gp, 3, none⟩ (.slice (some ⟨ga, 0, none⟩) n1 n1)) (fun e => HNa.out.1 (Option.some.inj e)))
  clear HM7 HT7 HP7 HF7 HL7 HG7 HRa7
  have y9 := HM8.out.at 9
  have y3 := HP8.out.at 3
  go_wp2_with fail
  clear y9 y3 hc hf
  generalize w7.setCell ⟨gp, 3, none⟩ (.slice (some ⟨ga, 0, none⟩) n1 n1) = w8 at HM8 HT8 HP8 HF8 HL8 HG8 HRa8 ⊢
  refine (HSecs.out gl ga w8 HL8.out HG8.out (by have := HO.out; omega) HRa8.out HNa.out.2.1).mono ?_
  rintro e w9 ⟨gb, rfl, hgb, hrb, hl, hg⟩
  have HNb := hid (show gb ≠ gp ∧ gb ≠ gl ∧ gb ≠ gt ∧ w.heap.size ≤ gb from ⟨fun e => by have := Blk.lt HF8.out; have := HO.out; omega, fun e => by have := Blk.lt HF8.out; have := HO.out; omega, fun e => by have := Blk.lt HF8.out; have := HO.out; omega, Nat.le_trans HG8.out.size hgb⟩)
  clear hgb
  have HRa9 := hid (Row.grownBy HRa8.out hg (fun e => HNa.out.2.1 (Option.some.inj e)))
  have HRb9 := hid hrb
  clear hrb HRa8 hlt
  have HM9 := hid (Blk.grownBy HM8.out hg (fun e => by have := Option.some.inj e; have := HO.out; omega))
  have HT9 := hid (Blk.grownBy HT8.out hg (fun e => by have := Option.some.inj e; have := HO.out; omega))
  have HP9 := hid (Blk.grownBy HP8.out hg (fun e => by have := Option.some.inj e; have := HO.out; omega))
  have HF9 := hid (Blk.grownBy HF8.out hg (fun e => by have := Option.some.inj e; have := HO.out; omega))
  have HL9 := hid hl
  have HG9 := hid (below_line HG8.out hg HG8.out.size (by have := HO.out; omega))
  clear hl hg HM8 HT8 HP8 HF8 HL8 HG8
  have hc := HP9.out.at 4
  have hf := HP9.out.soft 4
  have HM10 := hid (Blk.cellset HM9.out (a := ⟨gp, 4, none⟩) (fun e => by have e : gm = gp := e; have := HO.out; omega) (.slice (some ⟨gb, 0, none⟩) n2 n2))
  have HT10 := hid (Blk.cellset HT9.out (a := ⟨gp, 4, none⟩) (fun e => by have e : gt = gp := e; have := HO.out; omega) (.slice (some ⟨gb, 0, none⟩) n2 n2))
  have HF10 := hid (Blk.cellset HF9.out (a := ⟨gp, 4, none⟩) (fun e => by have e : gf = gp := e; have := HO.out; omega) (.slice (some ⟨gb, 0, none⟩) n2 n2))
  have HP10 := hid (Blk.putAt HP9.out 4 (.slice (some ⟨gb, 0, none⟩) n2 n2) (by simp))
  simp only [List.set_toArray, List.set_cons_zero, List.set_cons_succ] at HP10
  have HL10 : Hid (Ln _ gl _) := hid (Blk.cellset HL9.out (a := ⟨gp, 4, none⟩) (fun e => by have e : gl = gp := e; have := HO.out; omega) (.slice (some ⟨gb, 0, none⟩) n2 n2))
  have HG10 := hid (below_cell HG9.out (show w.heap.size ≤ gp by have := HO.out; omega) 4 (.slice (some ⟨gb, 0, none⟩) n2 n2))
  have HRa10 := hid (Row.grownBy HRa9.out (grown_set w9 ⟨gp, 4, none⟩ (.slice (some ⟨gb, 0, none⟩) n2 n2)) (fun e => HNa.out.1 (Option.some.inj e)))
  have HRb10 := hid (Row.grownBy HRb9.out (grown_set w9 ⟨gp, 4, none⟩ (.slice (some ⟨gb, 0, none⟩) n2 n2)) (fun e => HNb.out.1 (Option.some.inj e)))
  clear HM9 HT9 HP9 HF9 HL9 HG9 HRa9 HRb9
  have y9 := HM10.out.at 9
  by_cases h2 : 0 < n2
  ·have d2 : decide (0 < n2) = true := decide_eq_true h2
   have d2' : decide ((0 : Int) < (n2 : Int)) = true := decide_eq_true (by omega)
   have ES2 : Hid (SH = es) := hid (by rw [ES.out, if_pos h2])
   have ET2 : Hid (TT = et) := hid (by rw [ET.out, if_pos h2])
   clear h2
   go_wp2_with fail
   clear y9 hc hf d2
   generalize w9.setCell ⟨gp, 4, none⟩ (.slice (some ⟨gb, 0, none⟩) n2 n2) = w10 at HM10 HT10 HP10 HF10 HL10 HG10 HRa10 HRb10 ⊢
   refine wp_region_leap (leap_kept (fun j => j = gm ∨ j = gf)) [(0, true), (1, true), (2, true), (3, true), (4, true), (5, false), (6, false), (7, false), (8, true), (9, false)] (by kernel_rfl) (by kernel_rfl) (by kernel_rfl) ?_
   have q9 : ∀ W, Kept (fun j => j = gm ∨ j = gf) w10.drew W → W.cell? ⟨gm, 9, none⟩ = some (.slice A2 n2 c2) := fun W hW => (Blk.kept (HM10.out.drew) hW (.inl rfl)).at 9
   have u0 : ∀ W, Kept (fun j => j = gm ∨ j = gf) w10.drew W → W.cell? ⟨gf, 0, none⟩ = some (.bool wide) := fun W hW => (Blk.kept (HF10.out.drew) hW (.inr rfl)).at 0
   have u1 : ∀ W, Kept (fun j => j = gm ∨ j = gf) w10.drew W → W.cell? ⟨gf, 1, none⟩ = some (.bool big) := fun W hW => (Blk.kept (HF10.out.drew) hW (.inr rfl)).at 1
   have hd := Grow.of_drew w10
   have HRa11 := hid (Row.grownBy HRa10.out (grown_grow hd (some gl)) (fun e => HNa.out.2.1 (Option.some.inj e)))
   have HRb11 := hid (Row.grownBy HRb10.out (grown_grow hd (some gl)) (fun e => HNb.out.2.1 (Option.some.inj e)))
   clear HRa10 HRb10
   have zz : IntKind.i64.wrap ((n2 : Int) + 1) = ((n2 + 1 : Nat) : Int) := by have := O2.out; rw [IntKind.wrap_i64]; omega
   have HM11 := hid (Blk.grow HM10.out hd)
   have HT11 := hid (Blk.grow HT10.out hd)
   have HP11 := hid (Blk.grow HP10.out hd)
   have HF11 := hid (Blk.grow HF10.out hd)
   have HL11 : Hid (Ln _ gl _) := hid (Blk.grow HL10.out hd)
   have HG11 := hid (HG10.out.trans (Below.mono hd (HG10.out.size)))
   clear hd HM10 HT10 HP10 HF10 HL10 HG10
   generalize w10.drew = w11 at HM11 HT11 HP11 HF11 HL11 HG11 HRa11 HRb11 q9 u0 u1 ⊢
   repeat ((first | (refine chain_take rfl (by rfl) ?_ (fun W hG => ?_) ?_; rotate_left; (go_simp; rfl)) | refine chain_skip rfl (by rfl) ?_); simp only [Act.put, List.setIfInBounds_toArray, List.set_cons_zero, List.set_cons_succ])
   clear q9 u0 u1 zz
   refine chain_only rfl (by rfl) (fun K hK => ?_)
   go_simp
   refine (HXZ.out _).mono ?_
   rintro e w12 ⟨rfl, hg⟩
   refine hK _ _ (Kept.of_grow hg) ?_
   clear hK K
   have HRa12 := hid (Row.grownBy HRa11.out (grown_grow hg (some gl)) (fun e => HNa.out.2.1 (Option.some.inj e)))
   have HRb12 := hid (Row.grownBy HRb11.out (grown_grow hg (some gl)) (fun e => HNb.out.2.1 (Option.some.inj e)))
   clear HRa11 HRb11
   have HM12 := hid (Blk.grow HM11.out hg)
   have HT12 := hid (Blk.grow HT11.out hg)
   have HP12 := hid (Blk.grow HP11.out hg)
   have HF12 := hid (Blk.grow HF11.out hg)
   have HL12 : Hid (Ln _ gl _) := hid (Blk.grow HL11.out hg)
   have HG12 := hid (HG11.out.trans (Below.mono hg (HG11.out.size)))
   clear hg HM11 HT11 HP11 HF11 HL11 HG11
   refine chain_only rfl (by rfl) (fun K hK => ?_)
   go_simp
   refine (HC3.out _).mono ?_
   rintro e w12 ⟨rfl, rfl⟩
   refine hK _ _ ((leap_kept _).refl _) ?_
   clear hK K
   refine chain_only rfl (by rfl) (fun K hK => ?_)
   go_simp
   refine (HA3.out _ _ HL12.out).mono ?_
   rintro e w13 ⟨rfl, hl, hg⟩
   refine hK _ _ (kept_by hg (by have := HO.out; omega)) ?_
   clear hK K
   have HRa13 := hid (Row.grownBy HRa12.out hg (fun e => HNa.out.2.1 (Option.some.inj e)))
   have HRb13 := hid (Row.grownBy HRb12.out hg (fun e => HNb.out.2.1 (Option.some.inj e)))
   clear HRa12 HRb12
   have HM13 := hid (Blk.grownBy HM12.out hg (fun e => by have := Option.some.inj e; have := HO.out; omega))
   have HT13 := hid (Blk.grownBy HT12.out hg (fun e => by have := Option.some.inj e; have := HO.out; omega))
   have HP13 := hid (Blk.grownBy HP12.out hg (fun e => by have := Option.some.inj e; have := HO.out; omega))
   have HF13 := hid (Blk.grownBy HF12.out hg (fun e => by have := Option.some.inj e; have := HO.out; omega))
   have HL13 := hid hl
   have HG13 := hid (below_line HG12.out hg HG12.out.size (by have := HO.out; omega))
   clear hl hg HM12 HT12 HP12 HF12 HL12 HG12
   repeat ((first | (refine chain_take rfl (by rfl) ?_ (fun W hG => ?_) ?_; rotate_left; (go_simp; rfl)) | refine chain_skip rfl (by rfl) ?_); simp only [Act.put, List.setIfInBounds_toArray, List.set_cons_zero, List.set_cons_succ])
   have hc := HP13.out.at 1
   have hf := HP13.out.soft 1
   refine chain_only rfl (by rfl) (fun K hK => ?_)
   go_simp
   refine hK _ _ (kept_set _ _ _ (by have := HO.out; omega)) ?_
   clear hK K hc hf
   refine chain_done ?_
   have HM14 := hid (Blk.cellset HM13.out (a := ⟨gp, 1, none⟩) (fun e => by have e : gm = gp := e; have := HO.out; omega) (.int .u64 (es : Nat)))
   have HT14 := hid (Blk.cellset HT13.out (a := ⟨gp, 1, none⟩) (fun e => by have e : gt = gp := e; have := HO.out; omega) (.int .u64 (es : Nat)))
   have HF14 := hid (Blk.cellset HF13.out (a := ⟨gp, 1, none⟩) (fun e => by have e : gf = gp := e; have := HO.out; omega) (.int .u64 (es : Nat)))
   have HP14 := hid (Blk.putAt HP13.out 1 (.int .u64 (es : Nat)) (by simp))
   simp only [List.set_toArray, List.set_cons_zero, List.set_cons_succ] at HP14
   have HL14 : Hid (Ln _ gl _) := hid (Blk.cellset HL13.out (a := ⟨gp, 1, none⟩) (fun e => by have e : gl = gp := e; have := HO.out; omega) (.int .u64 (es : Nat)))
   have HG14 := hid (below_cell HG13.out (show w.heap.size ≤ gp by have := HO.out; omega) 1 (.int .u64 (es : Nat)))
   have HRa14 := hid (Row.grownBy HRa13.out (grown_set w13 ⟨gp, 1, none⟩ (.int .u64 (es : Nat))) (fun e => HNa.out.1 (Option.some.inj e)))
   have HRb14 := hid (Row.grownBy HRb13.out (grown_set w13 ⟨gp, 1, none⟩ (.int .u64 (es : Nat))) (fun e => HNb.out.1 (Option.some.inj e)))
   clear HM13 HT13 HP13 HF13 HL13 HG13 HRa13 HRb13
   generalize w13.setCell ⟨gp, 1, none⟩ (.int .u64 (es : Nat)) = w14 at HM14 HT14 HP14 HF14 HL14 HG14 HRa14 HRb14 ⊢
   clear d2'
   have hl := Blk.at HL14.out 0
   have hc := HP14.out.at 2
   have hf := HP14.out.soft 2
   obtain ⟨s0, s1, s2, s3, s4⟩ : _ ∧ _ ∧ _ ∧ _ ∧ _ := ⟨HT14.out.soft 0, HT14.out.soft 1, HT14.out.soft 2, HT14.out.soft 3, HT14.out.soft 4⟩
   have HM15 := hid (Blk.cellset HM14.out (a := ⟨gp, 2, none⟩) (fun e => by have e : gm = gp := e; have := HO.out; omega) (.int .u64 (et : Nat)))
   have HT15 := hid (Blk.cellset HT14.out (a := ⟨gp, 2, none⟩) (fun e => by have e : gt = gp := e; have := HO.out; omega) (.int .u64 (et : Nat)))
   have HF15 := hid (Blk.cellset HF14.out (a := ⟨gp, 2, none⟩) (fun e => by have e : gf = gp := e; have := HO.out; omega) (.int .u64 (et : Nat)))
   have HP15 := hid (Blk.putAt HP14.out 2 (.int .u64 (et : Nat)) (by simp))
   simp only [List.set_toArray, List.set_cons_zero, List.set_cons_succ] at HP15
   have HL15 : Hid (Ln _ gl _) := hid (Blk.cellset HL14.out (a := ⟨gp, 2, none⟩) (fun e => by have e : gl = gp := e; have := HO.out; omega) (.int .u64 (et : Nat)))
   have HG15 := hid (below_cell HG14.out (show w.heap.size ≤ gp by have := HO.out; omega) 2 (.int .u64 (et : Nat)))
   have HRa15 := hid (Row.grownBy HRa14.out (grown_set w14 ⟨gp, 2, none⟩ (.int .u64 (et : Nat))) (fun e => HNa.out.1 (Option.some.inj e)))
   have HRb15 := hid (Row.grownBy HRb14.out (grown_set w14 ⟨gp, 2, none⟩ (.int .u64 (et : Nat))) (fun e => HNb.out.1 (Option.some.inj e)))
   clear HM14 HT14 HP14 HF14 HL14 HG14 HRa14 HRb14
   obtain ⟨p0, p1, p2, p3, p4⟩ : _ ∧ _ ∧ _ ∧ _ ∧ _ := ⟨HP15.out.at 0, HP15.out.at 1, HP15.out.at 2, HP15.out.at 3, HP15.out.at 4⟩
   obtain ⟨r0, r1, r2, r3, r4⟩ : _ ∧ _ ∧ _ ∧ _ ∧ _ := ⟨HT15.out.at 0, HT15.out.at 1, HT15.out.at 2, HT15.out.at 3, HT15.out.at 4⟩
   go_wp2
   have HX := hid (put5 HT15.out (.int .u64 (0)) (.int .u64 (es : Nat)) (.int .u64 (et : Nat)) (.slice (some ⟨ga, 0, none⟩) n1 n1) (.slice (some ⟨gb, 0, none⟩) n2 n2))
   refine bodyPost_ret (results_cell_row (cs := #[.int .u64 (0), .int .u64 (es : Nat), .int .u64 (et : Nat), .slice (some ⟨ga, 0, none⟩) n1 n1, .slice (some ⟨gb, 0, none⟩) n2 n2]) rfl _ _ gt _ (0, 0) _ rfl HX.out.1 Tryz.underlying104 rfl (by kernel_rfl)) rfl ?_
   exact ⟨ga, gb, by rw [EP2.out, ES2.out, ET2.out] <;> rfl, Row.grownBy HRa15.out HX.out.2 (fun e => HNa.out.2.2.1 (Option.some.inj e)), Row.grownBy HRb15.out HX.out.2 (fun e => HNb.out.2.2.1 (Option.some.inj e)), ⟨HNa.out.2.2.2, HNb.out.2.2.2⟩, below_line HG15.out HX.out.2 HG15.out.size (by have := HO.out; omega)⟩
  ·have d2 : decide (0 < n2) = false := decide_eq_false h2
   have d2' : decide ((0 : Int) < (n2 : Int)) = false := decide_eq_false (by omega)
   have ES2 : Hid (SH = 0) := hid (by rw [ES.out, if_neg h2])
   have ET2 : Hid (TT = es0) := hid (by rw [ET.out, if_neg h2])
   clear h2
   have hc4 := hc
   have hf4 := hf
   clear hc hf
   have hl := Blk.at HL10.out 0
   have hc := HP10.out.at 2
   have hf := HP10.out.soft 2
   obtain ⟨s0, s1, s2, s3, s4⟩ : _ ∧ _ ∧ _ ∧ _ ∧ _ := ⟨HT10.out.soft 0, HT10.out.soft 1, HT10.out.soft 2, HT10.out.soft 3, HT10.out.soft 4⟩
   have HM11 := hid (Blk.cellset HM10.out (a := ⟨gp, 2, none⟩) (fun e => by have e : gm = gp := e; have := HO.out; omega) (.int .u64 (es0 : Nat)))
   have HT11 := hid (Blk.cellset HT10.out (a := ⟨gp, 2, none⟩) (fun e => by have e : gt = gp := e; have := HO.out; omega) (.int .u64 (es0 : Nat)))
   have HF11 := hid (Blk.cellset HF10.out (a := ⟨gp, 2, none⟩) (fun e => by have e : gf = gp := e; have := HO.out; omega) (.int .u64 (es0 : Nat)))
   have HP11 := hid (Blk.putAt HP10.out 2 (.int .u64 (es0 : Nat)) (by simp))
   simp only [List.set_toArray, List.set_cons_zero, List.set_cons_succ] at HP11
   have HL11 : Hid (Ln _ gl _) := hid (Blk.cellset HL10.out (a := ⟨gp, 2, none⟩) (fun e => by have e : gl = gp := e; have := HO.out; omega) (.int .u64 (es0 : Nat)))
   have HG11 := hid (below_cell HG10.out (show w.heap.size ≤ gp by have := HO.out; omega) 2 (.int .u64 (es0 : Nat)))
   have HRa11 := hid (Row.grownBy HRa10.out (grown_set (w9.setCell ⟨gp, 4, none⟩ (.slice (some ⟨gb, 0, none⟩) n2 n2)) ⟨gp, 2, none⟩ (.int .u64 (es0 : Nat))) (fun e => HNa.out.1 (Option.some.inj e)))
   have HRb11 := hid (Row.grownBy HRb10.out (grown_set (w9.setCell ⟨gp, 4, none⟩ (.slice (some ⟨gb, 0, none⟩) n2 n2)) ⟨gp, 2, none⟩ (.int .u64 (es0 : Nat))) (fun e => HNb.out.1 (Option.some.inj e)))
   clear HM10 HT10 HP10 HF10 HL10 HG10 HRa10 HRb10
   obtain ⟨p0, p1, p2, p3, p4⟩ : _ ∧ _ ∧ _ ∧ _ ∧ _ := ⟨HP11.out.at 0, HP11.out.at 1, HP11.out.at 2, HP11.out.at 3, HP11.out.at 4⟩
   obtain ⟨r0, r1, r2, r3, r4⟩ : _ ∧ _ ∧ _ ∧ _ ∧ _ := ⟨HT11.out.at 0, HT11.out.at 1, HT11.out.at 2, HT11.out.at 3, HT11.out.at 4⟩
   go_wp2
   have HX := hid (put5 HT11.out (.int .u64 (0)) (.int .u64 (0)) (.int .u64 (es0 : Nat)) (.slice (some ⟨ga, 0, none⟩) n1 n1) (.slice (some ⟨gb, 0, none⟩) n2 n2))
   refine bodyPost_ret (results_cell_row (cs := #[.int .u64 (0), .int .u64 (0), .int .u64 (es0 : Nat), .slice (some ⟨ga, 0, none⟩) n1 n1, .slice (some ⟨gb, 0, none⟩) n2 n2]) rfl _ _ gt _ (0, 0) _ rfl HX.out.1 Tryz.underlying104 rfl (by kernel_rfl)) rfl ?_
   exact ⟨ga, gb, by rw [EP2.out, ES2.out, ET2.out] <;> rfl, Row.grownBy HRa11.out HX.out.2 (fun e => HNa.out.2.2.1 (Option.some.inj e)), Row.grownBy HRb11.out HX.out.2 (fun e => HNb.out.2.2.1 (Option.some.inj e)), ⟨HNa.out.2.2.2, HNb.out.2.2.2⟩, below_line HG11.out HX.out.2 HG11.out.size (by have := HO.out; omega)⟩
end Go.Proofs.YtfbimboemahhhaaGreatDoor
