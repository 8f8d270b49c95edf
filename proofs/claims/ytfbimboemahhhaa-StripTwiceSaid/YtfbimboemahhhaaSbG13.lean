/-
  Several texts in one: The walk of StripTwice; From what the frame tells of a slice of bytes that came in to RB; What came in as a form, opened.
-/
import Derived.Test.YtfbimboemahhhaaSbG11
import Derived.Test.YtfbimboemahhhaaSbG12
import Derived.Test.YtfbimboemahhhaaSbG1
import Derived.OpenShut
import Derived.Test.YtfbimboemahhhaaRows
import Derived.Deep.SlicePairs
import Derived.Lib.SmallJoins
import Derived.Test.YtfbimboemahhhaaSbG2
namespace Go.Proofs.Ytfbimboemahhhaa
open Go.Lib (hid)
open Go.RowKit
set_option maxRecDepth 100000
set_option linter.unusedVariables false
def md1 (s : Se) : Md := ⟨false, false, 0, 0, 0, 0, 0, 0, [], [s], 0⟩
theorem blk5s {w W : World} {t1 t2 t3 t4 t5 : TypeId} {c1 c2 c3 c4 c5 : Array Value} (h : ((((w.alloc (.cells c1 t1)).alloc (.cells c2 t2)).alloc (.cells c3 t3)).alloc (.cells c4 t4)).alloc (.cells c5 t5) = W) :
  Blk W (w.heap.size + 1) t2 c2 ∧ Blk W (w.heap.size + 1 + 1 + 1) t4 c4 ∧ Grow w W := by
 obtain ⟨h1, h2, h3, h4⟩ := blk3 (w := w) (t1 := t1) (t2 := t2) (t3 := t3) (c1 := c1) (c2 := c2) (c3 := c3) rfl
 have hs : (((w.alloc (.cells c1 t1)).alloc (.cells c2 t2)).alloc (.cells c3 t3)).heap.size = w.heap.size + 1 + 1 + 1 := by simp
 subst h
 obtain ⟨k1, k2, k3⟩ := blk2 (w := ((w.alloc (.cells c1 t1)).alloc (.cells c2 t2)).alloc (.cells c3 t3)) (t1 := t4) (t2 := t5) (c1 := c4) (c2 := c5) rfl
 rw [hs] at k1
 exact ⟨h2.grow k3, k1, h4.trans k3⟩
set_option maxHeartbeats 8000000 in
theorem stripTwice_core (m : Md) (ok : m.Ok) (A1 A2 : Option Addr) (n1 c1 n2 c2 : Nat) (w : World) (g1 : ZR sgK w w.heap.size A1 n1 c1 m.segs) (g2 : ZR seK w w.heap.size A2 n2 c2 m.secs)
  (hs1 : ∀ s ∈ m.segs, s.pl.own.length ≤ reachBytes) (hs2 : ∀ s ∈ m.secs, s.pl.own.length ≤ reachBytes) :
  Calls Try.prog 4 #[.agg (mdC m (.slice A1 n1 c1) (.slice A2 n2 c2))] w fun e w' => e = .returned (.bool true) ∧ Grow w w' := by
 have hsm := sum_small g1.len g2.len hs1 hs2
 have hr : reachBytes ≤ 140737488355328 := by decide
 have hb1 : ∀ s ∈ m.segs, s.pl.own.length ≤ 140737488355328 := fun s hs => Nat.le_trans (hs1 s hs) hr
 have hb2 : ∀ s ∈ m.secs, s.pl.own.length ≤ 140737488355328 := fun s hs => Nat.le_trans (hs2 s hs) hr
 have HF := hid (fun (W : World) (hg : Grow w W) => few_any m A1 A2 n1 c1 n2 c2 W (g1.grow hg) (g2.grow hg) hsm)
 have HC := hid (fun (W : World) (hg : Grow w W) => check_any m ok A1 A2 n1 c1 n2 c2 W (g1.grow hg) (g2.grow hg))
 have HS := hid (fun (h : m.chk = 0) (W : World) (hg : Grow w W) => strip_any m ok A1 A2 n1 c1 n2 c2 W (g1.grow hg) (g2.grow hg) (strs_le hb1 hb2) (by have := (chk_few h).1; have := g1.len; omega) (by have := (chk_few h).2; have := g2.len; omega) hb1 hb2)
 have HI := hid (fun (h : m.chk = 0) (W : World) (hg : Grow w W) => imModel_any m A1 n1 c1 (.slice A2 n2 c2) W (g1.grow hg) hb1 (by have := (chk_few h).1; have := g1.len; omega))
 have HI2 := hid (fun (h : m.chk = 0) (A3 : Option Addr) (c3 : Nat) (S4 : Value) (W : World) (h3 : ZR sgK W W.heap.size A3 n1 c3 m.segs) => imModel_any m.strip A3 n1 c3 S4 W h3 hb1 (by have := (chk_few h).1; have := g1.len; omega))
 have HIs := hid (fun A1 A3 c1 c3 W => rSameImg_any m.entry m.img A1 A3 m.img.length c1 m.img.length c3 W)
 have HC2 := hid (fun (h : m.chk = 0) (A3 A4 : Option Addr) (c3 c4 : Nat) (W : World) (h3 : ZR sgK W W.heap.size A3 n1 c3 m.segs) (h4 : ZR seK W W.heap.size A4 n2 c4 m.strip.secs) => (by
  have := check_any m.strip (m.strip_ok ok) A3 A4 n1 c3 n2 c4 W h3 h4
  rw [Md.strip_chk h, eC_zero] at this
  exact this : Calls Try.prog 14 #[.agg (mdC m.strip (.slice A3 n1 c3) (.slice A4 n2 c4))] W fun e w' => e = .returned .nilIface ∧ Grow W w'))
 have HS2 := hid (fun (h : m.chk = 0) (A3 A4 : Option Addr) (c3 c4 : Nat) (W : World) (h3 : ZR sgK W W.heap.size A3 n1 c3 m.segs) (h4 : ZR seK W W.heap.size A4 n2 c4 m.strip.secs) => (by
  have := strip_any m.strip (m.strip_ok ok) A3 A4 n1 c3 n2 c4 W h3 h4 (strs_le hb1 (strip_le hb2)) (by have := (chk_few h).1; have := g1.len; omega) (by have := (chk_few h).2; have := g2.len; omega) hb1 (strip_le hb2)
  rw [m.strip_strip] at this
  exact this : Calls Try.prog 9 #[.agg (mdC m.strip (.slice A3 n1 c3) (.slice A4 n2 c4))] W fun e w' => ∃ A5 c5 A6 c6, e = .returned (.agg (mdC m.strip (.slice A5 n1 c5) (.slice A6 n2 c6))) ∧ ZR sgK w' w'.heap.size A5 n1 c5 m.segs ∧ ZR seK w' w'.heap.size A6 n2 c6 m.strip.secs ∧ Grow W w'))
 have HQ := hid (fun (A3 A4 A5 A6 : Option Addr) (c3 c4 c5 c6 : Nat) (W : World) h3 h4 h5 h6 => same_any m.strip A3 A4 A5 A6 n1 c3 n2 c4 n1 c5 n2 c6 W h3 h4 h5 h6)
 have HQ1 := hid (fun (s : Se) (A4 A6 : Option Addr) (c4 c6 : Nat) (W : World) h4 h6 => same_any (md1 s) none A4 none A6 0 0 1 c4 0 0 1 c6 W ZR.nil h4 ZR.nil h6)
 have HX : Hid (∀ k (h : k < m.secs.length), m.mayGo k = false → m.left k = m.secs[k]) := hid fun k h hg => by rw [m.left_stay hg, m.sec_at h]
 have HY : Hid (∀ k, m.mayGo k = true → (m.left k).isSym = false) := hid fun k hg => m.left_typ hg
 have HM : Hid (∀ k (h : k < m.secs.length), m.mayGo k = (decide (m.secs[k].flags / 2 % 2 = 0) && !decide ((k : Int) + 1 = m.str))) := hid fun k h => by unfold Md.mayGo; rw [m.sec_at h]
 have HL2 : Hid (∀ k (h : k < m.strip.secs.length), m.strip.secs[k] = m.left k) := hid fun k h => m.strip_at h
 have HLn : Hid (m.strip.secs.length = m.secs.length) := hid m.strip_len
 have HOk : Hid (∀ s ∈ m.secs, s.flags < 18446744073709551616) := hid fun s hs => (ok.secs s hs).flags
 have HZ1 := hid g1
 have HZ2 := hid g2
 have HN2 := hid g2.len
 have hc2 := g2.cap
 have hm2 := g2.max
 unfold maxLen at hm2
 unfold ImgR imC at HI HI2
 unfold imC at HIs
 have es : m.strip.segs = m.segs := rfl
 have ei : m.strip.img = m.img := rfl
 unfold mdC at HF HC HS HI HI2 HC2 HS2 HQ HQ1 ⊢
 have x0 : m.strip.wide = m.wide := rfl
 have x1 : m.strip.big = m.big := rfl
 have x2 : m.strip.osabi = m.osabi := rfl
 have x3 : m.strip.abi = m.abi := rfl
 have x4 : m.strip.typ = m.typ := rfl
 have x5 : m.strip.mach = m.mach := rfl
 have x6 : m.strip.flags = m.flags := rfl
 have x7 : m.strip.entry = m.entry := rfl
 have x10 : m.strip.str = m.str := rfl
 rw [es, x0, x1, x2, x3, x4, x5, x6, x7, x10] at HQ
 rw [x0, x1, x2, x3, x4, x5, x6, x7, x10] at HC2 HS2
 rw [ei, x0, x1, x2, x3, x4, x5, x6, x7, x10] at HI2
 unfold md1 at HQ1
 simp only at HQ1
 clear g1 g2 ok hs1 hs2 hsm hb1 hb2 hr es ei x0 x1 x2 x3 x4 x5 x6 x7 x10
 generalize m.few = fw at *
 generalize m.chk = ck at *
 generalize m.img.length = q at HI HI2 HIs
 generalize m.img = IM at HI HI2 HIs
 generalize m.mayGo = G at *
 generalize m.left = le at *
 generalize m.strip.secs = Lx at *
 generalize m.segs = L1 at *
 generalize m.secs = L2 at *
 generalize m.wide = f0 at *
 generalize m.big = f1 at *
 generalize m.osabi = f2 at *
 generalize m.abi = f3 at *
 generalize m.typ = f4 at *
 generalize m.mach = f5 at *
 generalize m.flags = f6 at *
 generalize m.entry = f7 at *
 generalize m.str = f10 at *
 go_enter Try.func4, Try.ntmps4
 go_wp2_with fail
 generalize hW : World.alloc _ _ = W0
 obtain ⟨b1, hg0⟩ := blk1 hW
 clear hW
 obtain ⟨gm, hgm⟩ : ∃ g, g = w.heap.size := ⟨_, rfl⟩
 rw [← hgm] at b1 ⊢
 have HM0 := hid b1
 have HG0 := hid hg0
 clear b1 hg0 hgm
 refine (up18 _).mono ?_
 rintro e w1 ⟨rfl, hg⟩
 have HM1 := hid (HM0.out.grow hg)
 have HG1 : Hid (Grow w w1) := hid (HG0.out.trans hg)
 clear hg HM0 HG0
 obtain ⟨v0, v1, v2, v3, v4, v5, v6, v7, v8, v9, v10⟩ := HM1.out.c11
 go_wp2_with fail
 clear v0 v1 v2 v3 v4 v5 v6 v7 v8 v9 v10
 refine (HF.out _ HG1.out).mono ?_
 rintro e w2 ⟨rfl, hg⟩
 have HM2 := hid (HM1.out.grow hg)
 have HG2 : Hid (Grow w w2) := hid (HG1.out.trans hg)
 clear hg HM1 HG1 HF
 by_cases hf : fw = 0
 ·have d : ((fw : Int) == 0) = true := by simp [hf]
  clear hf
  go_wp2
  go_ret
  exact ⟨rfl, HG2.out⟩
 have d : ((fw : Int) == 0) = false := by simp; omega
 clear hf
 obtain ⟨v0, v1, v2, v3, v4, v5, v6, v7, v8, v9, v10⟩ := HM2.out.c11
 go_wp2_with fail
 clear v0 v1 v2 v3 v4 v5 v6 v7 v8 v9 v10
 clear d
 refine (HC.out _ HG2.out).mono ?_
 rintro e w3 ⟨rfl, hg⟩
 have HM3 := hid (HM2.out.grow hg)
 have HG3 : Hid (Grow w w3) := hid (HG2.out.trans hg)
 clear hg HM2 HG2 HC
 by_cases hk : ck = 0
 rotate_left
 ·rw [eC_some hk]
  clear hk
  go_wp2
  go_ret
  exact ⟨rfl, HG3.out⟩
 have HS1 := hid (HS.out hk)
 have HIa := hid (HI.out hk)
 have HIb := hid (HI2.out hk)
 have HCb := hid (HC2.out hk)
 have HSb := hid (HS2.out hk)
 rw [hk, eC_zero]
 clear HS HI HI2 HC2 HS2
 clear hk
 obtain ⟨v0, v1, v2, v3, v4, v5, v6, v7, v8, v9, v10⟩ := HM3.out.c11
 go_wp2_with fail
 clear v0 v1 v2 v3 v4 v5 v6 v7 v8 v9 v10
 refine (HS1.out _ HG3.out).mono ?_
 rintro e w4 ⟨A3, c3, A4, c4, rfl, h3, h4, hg⟩
 have HM4 := hid (HM3.out.grow hg)
 have HG4 : Hid (Grow w w4) := hid (HG3.out.trans hg)
 have H3 := hid h3
 have H4 := hid h4
 clear h3 h4 hg HM3 HG3 HS1
 go_wp2_with fail
 generalize hW : World.alloc _ _ = W5
 obtain ⟨b1, hg⟩ := blk1 hW
 clear hW
 have HM5 := hid (HM4.out.grow hg).drew
 have HN5 := hid b1.drew
 have HG5 : Hid (Grow w W5.drew) := hid ((HG4.out.trans hg).trans (Grow.of_drew _))
 have H35 := hid (H3.out.grow (hg.trans (Grow.of_drew _)))
 have H45 := hid (H4.out.grow (hg.trans (Grow.of_drew _)))
 clear b1 hg HM4 HG4 H3 H4
 generalize w4.heap.size = gn at HN5 ⊢
 refine wp_region_chain [(0, true), (2, true), (1, false), (3, false), (4, false), (5, true)] (by kernel_rfl) (by kernel_rfl) (by kernel_rfl) ?_
 generalize W5.drew = v0 at HM5 HN5 HG5 H35 H45 ⊢
 have q0 : ∀ W, Grow v0 W → W.cell? ⟨gm, 0, none⟩ = some (.bool f0) := fun W hW => (HM5.out.grow hW).at 0
 have q1 : ∀ W, Grow v0 W → W.cell? ⟨gm, 1, none⟩ = some (.bool f1) := fun W hW => (HM5.out.grow hW).at 1
 have q2 : ∀ W, Grow v0 W → W.cell? ⟨gm, 2, none⟩ = some (.int .u8 (f2 : Nat)) := fun W hW => (HM5.out.grow hW).at 2
 have q3 : ∀ W, Grow v0 W → W.cell? ⟨gm, 3, none⟩ = some (.int .u8 (f3 : Nat)) := fun W hW => (HM5.out.grow hW).at 3
 have q4 : ∀ W, Grow v0 W → W.cell? ⟨gm, 4, none⟩ = some (.int .u16 (f4 : Nat)) := fun W hW => (HM5.out.grow hW).at 4
 have q5 : ∀ W, Grow v0 W → W.cell? ⟨gm, 5, none⟩ = some (.int .u16 (f5 : Nat)) := fun W hW => (HM5.out.grow hW).at 5
 have q6 : ∀ W, Grow v0 W → W.cell? ⟨gm, 6, none⟩ = some (.int .u32 (f6 : Nat)) := fun W hW => (HM5.out.grow hW).at 6
 have q7 : ∀ W, Grow v0 W → W.cell? ⟨gm, 7, none⟩ = some (.int .u64 (f7 : Nat)) := fun W hW => (HM5.out.grow hW).at 7
 have q8 : ∀ W, Grow v0 W → W.cell? ⟨gm, 8, none⟩ = some (.slice A1 n1 c1) := fun W hW => (HM5.out.grow hW).at 8
 have q9 : ∀ W, Grow v0 W → W.cell? ⟨gm, 9, none⟩ = some (.slice A2 n2 c2) := fun W hW => (HM5.out.grow hW).at 9
 have q10 : ∀ W, Grow v0 W → W.cell? ⟨gm, 10, none⟩ = some (.int .i64 f10) := fun W hW => (HM5.out.grow hW).at 10
 have r0 : ∀ W, Grow v0 W → W.cell? ⟨gn, 0, none⟩ = some (.bool f0) := fun W hW => (HN5.out.grow hW).at 0
 have r1 : ∀ W, Grow v0 W → W.cell? ⟨gn, 1, none⟩ = some (.bool f1) := fun W hW => (HN5.out.grow hW).at 1
 have r2 : ∀ W, Grow v0 W → W.cell? ⟨gn, 2, none⟩ = some (.int .u8 (f2 : Nat)) := fun W hW => (HN5.out.grow hW).at 2
 have r3 : ∀ W, Grow v0 W → W.cell? ⟨gn, 3, none⟩ = some (.int .u8 (f3 : Nat)) := fun W hW => (HN5.out.grow hW).at 3
 have r4 : ∀ W, Grow v0 W → W.cell? ⟨gn, 4, none⟩ = some (.int .u16 (f4 : Nat)) := fun W hW => (HN5.out.grow hW).at 4
 have r5 : ∀ W, Grow v0 W → W.cell? ⟨gn, 5, none⟩ = some (.int .u16 (f5 : Nat)) := fun W hW => (HN5.out.grow hW).at 5
 have r6 : ∀ W, Grow v0 W → W.cell? ⟨gn, 6, none⟩ = some (.int .u32 (f6 : Nat)) := fun W hW => (HN5.out.grow hW).at 6
 have r7 : ∀ W, Grow v0 W → W.cell? ⟨gn, 7, none⟩ = some (.int .u64 (f7 : Nat)) := fun W hW => (HN5.out.grow hW).at 7
 have r8 : ∀ W, Grow v0 W → W.cell? ⟨gn, 8, none⟩ = some (.slice A3 n1 c3) := fun W hW => (HN5.out.grow hW).at 8
 have r9 : ∀ W, Grow v0 W → W.cell? ⟨gn, 9, none⟩ = some (.slice A4 n2 c4) := fun W hW => (HN5.out.grow hW).at 9
 have r10 : ∀ W, Grow v0 W → W.cell? ⟨gn, 10, none⟩ = some (.int .i64 f10) := fun W hW => (HN5.out.grow hW).at 10
 repeat ((first | (refine chain_take rfl (by rfl) ?_ (fun W hG => ?_) ?_; rotate_left; (go_simp; rfl)) | refine chain_skip rfl (by rfl) ?_); simp only [Act.put, List.setIfInBounds_toArray, List.set_cons_zero, List.set_cons_succ])
 clear q0 q1 q2 q3 q4 q5 q6 q7 q8 q9 q10 r0 r1 r2 r3 r4 r5 r6 r7 r8 r9 r10
 refine chain_only rfl (by rfl) (fun K hK => ?_)
 go_simp
 refine (HIa.out _ HG5.out).mono ?_
 rintro e w6 ⟨Ai, ci, rfl, hi, hg⟩
 refine hK _ _ hg ?_
 clear hK K
 have HM6 := hid (HM5.out.grow hg)
 have HN6 := hid (HN5.out.grow hg)
 have HG6 : Hid (Grow w w6) := hid (HG5.out.trans hg)
 have H36 := hid (H35.out.grow hg)
 have H46 := hid (H45.out.grow hg)
 have HJ6 := hid hi.zr
 clear hi hg HM5 HN5 HG5 H35 H45 HIa
 repeat ((first | (refine chain_take rfl (by rfl) ?_ (fun W hG => ?_) ?_; rotate_left; (go_simp; rfl)) | refine chain_skip rfl (by rfl) ?_); simp only [Act.put, List.setIfInBounds_toArray, List.set_cons_zero, List.set_cons_succ])
 refine chain_only rfl (by rfl) (fun K hK => ?_)
 go_simp
 refine (HIb.out A3 c3 _ _ H36.out).mono ?_
 rintro e w7 ⟨Aj, cj, rfl, hi, hg⟩
 refine hK _ _ hg ?_
 clear hK K
 have HM7 := hid (HM6.out.grow hg)
 have HN7 := hid (HN6.out.grow hg)
 have HG7 : Hid (Grow w w7) := hid (HG6.out.trans hg)
 have H37 := hid (H36.out.grow hg)
 have H47 := hid (H46.out.grow hg)
 have HJ7 := hid (HJ6.out.grow hg)
 have HJ7' := hid hi.zr
 clear hi hg HM6 HN6 HG6 H36 H46 HIb HJ6
 repeat ((first | (refine chain_take rfl (by rfl) ?_ (fun W hG => ?_) ?_; rotate_left; (go_simp; rfl)) | refine chain_skip rfl (by rfl) ?_); simp only [Act.put, List.setIfInBounds_toArray, List.set_cons_zero, List.set_cons_succ])
 refine chain_only rfl (by rfl) (fun K hK => ?_)
 go_simp
 refine (HIs.out Ai Aj ci cj _ HJ7.out HJ7'.out).mono ?_
 rintro e w8 ⟨rfl, hg⟩
 refine hK _ _ hg ?_
 clear hK K
 have HM8 := hid (HM7.out.grow hg).drew
 have HN8 := hid (HN7.out.grow hg).drew
 have HG8 : Hid (Grow w w8.drew) := hid ((HG7.out.trans hg).trans (Grow.of_drew _))
 have H38 := hid (H37.out.grow (hg.trans (Grow.of_drew _)))
 have H48 := hid (H47.out.grow (hg.trans (Grow.of_drew _)))
 clear hg HM7 HN7 HG7 H37 H47 HJ7 HJ7' HIs
 repeat ((first | (refine chain_take rfl (by rfl) ?_ (fun W hG => ?_) ?_; rotate_left; (go_simp; rfl)) | refine chain_skip rfl (by rfl) ?_); simp only [Act.put, List.setIfInBounds_toArray, List.set_cons_zero, List.set_cons_succ])
 refine chain_done ?_
 go_wp2_with fail
 refine wp_region_chain [(0, true), (1, false), (2, true), (3, true), (4, true), (5, true), (6, true), (7, true), (8, true), (9, true), (10, true), (11, true), (12, true), (13, true), (14, true), (15, true), (16, true), (17, true), (18, true), (19, true), (20, true), (21, true), (22, true), (23, true), (24, true), (26, true), (25, false), (27, false), (28, true), (29, true)] (by kernel_rfl) (by kernel_rfl) (by kernel_rfl) ?_
 generalize w8.drew = v0 at HM8 HN8 HG8 H38 H48 ⊢
 have r0 : ∀ W, Grow v0 W → W.cell? ⟨gn, 0, none⟩ = some (.bool f0) := fun W hW => (HN8.out.grow hW).at 0
 have r1 : ∀ W, Grow v0 W → W.cell? ⟨gn, 1, none⟩ = some (.bool f1) := fun W hW => (HN8.out.grow hW).at 1
 have r2 : ∀ W, Grow v0 W → W.cell? ⟨gn, 2, none⟩ = some (.int .u8 (f2 : Nat)) := fun W hW => (HN8.out.grow hW).at 2
 have r3 : ∀ W, Grow v0 W → W.cell? ⟨gn, 3, none⟩ = some (.int .u8 (f3 : Nat)) := fun W hW => (HN8.out.grow hW).at 3
 have r4 : ∀ W, Grow v0 W → W.cell? ⟨gn, 4, none⟩ = some (.int .u16 (f4 : Nat)) := fun W hW => (HN8.out.grow hW).at 4
 have r5 : ∀ W, Grow v0 W → W.cell? ⟨gn, 5, none⟩ = some (.int .u16 (f5 : Nat)) := fun W hW => (HN8.out.grow hW).at 5
 have r6 : ∀ W, Grow v0 W → W.cell? ⟨gn, 6, none⟩ = some (.int .u32 (f6 : Nat)) := fun W hW => (HN8.out.grow hW).at 6
 have r7 : ∀ W, Grow v0 W → W.cell? ⟨gn, 7, none⟩ = some (.int .u64 (f7 : Nat)) := fun W hW => (HN8.out.grow hW).at 7
 have r8 : ∀ W, Grow v0 W → W.cell? ⟨gn, 8, none⟩ = some (.slice A3 n1 c3) := fun W hW => (HN8.out.grow hW).at 8
 have r9 : ∀ W, Grow v0 W → W.cell? ⟨gn, 9, none⟩ = some (.slice A4 n2 c4) := fun W hW => (HN8.out.grow hW).at 9
 have r10 : ∀ W, Grow v0 W → W.cell? ⟨gn, 10, none⟩ = some (.int .i64 f10) := fun W hW => (HN8.out.grow hW).at 10
 repeat ((first | (refine chain_take rfl (by rfl) ?_ (fun W hG => ?_) ?_; rotate_left; (go_simp; rfl)) | refine chain_skip rfl (by rfl) ?_); simp only [Act.put, List.setIfInBounds_toArray, List.set_cons_zero, List.set_cons_succ])
 clear r0 r1 r2 r3 r4 r5 r6 r7 r8 r9 r10
 refine chain_only rfl (by rfl) (fun K hK => ?_)
 go_simp
 refine (HCb.out A3 A4 c3 c4 _ H38.out H48.out).mono ?_
 rintro e w9 ⟨rfl, hg⟩
 refine hK _ _ hg ?_
 clear hK K
 have HM9 := hid (HM8.out.grow hg)
 have HN9 := hid (HN8.out.grow hg)
 have HG9 : Hid (Grow w w9) := hid (HG8.out.trans hg)
 have H39 := hid (H38.out.grow hg)
 have H49 := hid (H48.out.grow hg)
 clear hg HM8 HN8 HG8 H38 H48 HCb
 have q0 : ∀ W, Grow w9 W → W.cell? ⟨gm, 0, none⟩ = some (.bool f0) := fun W hW => (HM9.out.grow hW).at 0
 have q1 : ∀ W, Grow w9 W → W.cell? ⟨gm, 1, none⟩ = some (.bool f1) := fun W hW => (HM9.out.grow hW).at 1
 have q2 : ∀ W, Grow w9 W → W.cell? ⟨gm, 2, none⟩ = some (.int .u8 (f2 : Nat)) := fun W hW => (HM9.out.grow hW).at 2
 have q3 : ∀ W, Grow w9 W → W.cell? ⟨gm, 3, none⟩ = some (.int .u8 (f3 : Nat)) := fun W hW => (HM9.out.grow hW).at 3
 have q4 : ∀ W, Grow w9 W → W.cell? ⟨gm, 4, none⟩ = some (.int .u16 (f4 : Nat)) := fun W hW => (HM9.out.grow hW).at 4
 have q5 : ∀ W, Grow w9 W → W.cell? ⟨gm, 5, none⟩ = some (.int .u16 (f5 : Nat)) := fun W hW => (HM9.out.grow hW).at 5
 have q6 : ∀ W, Grow w9 W → W.cell? ⟨gm, 6, none⟩ = some (.int .u32 (f6 : Nat)) := fun W hW => (HM9.out.grow hW).at 6
 have q7 : ∀ W, Grow w9 W → W.cell? ⟨gm, 7, none⟩ = some (.int .u64 (f7 : Nat)) := fun W hW => (HM9.out.grow hW).at 7
 have q8 : ∀ W, Grow w9 W → W.cell? ⟨gm, 8, none⟩ = some (.slice A1 n1 c1) := fun W hW => (HM9.out.grow hW).at 8
 have q9 : ∀ W, Grow w9 W → W.cell? ⟨gm, 9, none⟩ = some (.slice A2 n2 c2) := fun W hW => (HM9.out.grow hW).at 9
 have q10 : ∀ W, Grow w9 W → W.cell? ⟨gm, 10, none⟩ = some (.int .i64 f10) := fun W hW => (HM9.out.grow hW).at 10
 have r0 : ∀ W, Grow w9 W → W.cell? ⟨gn, 0, none⟩ = some (.bool f0) := fun W hW => (HN9.out.grow hW).at 0
 have r1 : ∀ W, Grow w9 W → W.cell? ⟨gn, 1, none⟩ = some (.bool f1) := fun W hW => (HN9.out.grow hW).at 1
 have r2 : ∀ W, Grow w9 W → W.cell? ⟨gn, 2, none⟩ = some (.int .u8 (f2 : Nat)) := fun W hW => (HN9.out.grow hW).at 2
 have r3 : ∀ W, Grow w9 W → W.cell? ⟨gn, 3, none⟩ = some (.int .u8 (f3 : Nat)) := fun W hW => (HN9.out.grow hW).at 3
 have r4 : ∀ W, Grow w9 W → W.cell? ⟨gn, 4, none⟩ = some (.int .u16 (f4 : Nat)) := fun W hW => (HN9.out.grow hW).at 4
 have r5 : ∀ W, Grow w9 W → W.cell? ⟨gn, 5, none⟩ = some (.int .u16 (f5 : Nat)) := fun W hW => (HN9.out.grow hW).at 5
 have r6 : ∀ W, Grow w9 W → W.cell? ⟨gn, 6, none⟩ = some (.int .u32 (f6 : Nat)) := fun W hW => (HN9.out.grow hW).at 6
 have r7 : ∀ W, Grow w9 W → W.cell? ⟨gn, 7, none⟩ = some (.int .u64 (f7 : Nat)) := fun W hW => (HN9.out.grow hW).at 7
 have r8 : ∀ W, Grow w9 W → W.cell? ⟨gn, 8, none⟩ = some (.slice A3 n1 c3) := fun W hW => (HN9.out.grow hW).at 8
 have r9 : ∀ W, Grow w9 W → W.cell? ⟨gn, 9, none⟩ = some (.slice A4 n2 c4) := fun W hW => (HN9.out.grow hW).at 9
 have r10 : ∀ W, Grow w9 W → W.cell? ⟨gn, 10, none⟩ = some (.int .i64 f10) := fun W hW => (HN9.out.grow hW).at 10
 have en : ((n2 : Int) != (n2 : Int)) = false := by simp
 have ef : (f10 != f10) = false := by simp
 repeat ((first | (refine chain_take rfl (by rfl) ?_ (fun W hG => ?_) ?_; rotate_left; (go_simp; rfl)) | refine chain_skip rfl (by rfl) ?_); simp only [Act.put, List.setIfInBounds_toArray, List.set_cons_zero, List.set_cons_succ])
 clear q0 q1 q2 q3 q4 q5 q6 q7 q8 q9 q10 r0 r1 r2 r3 r4 r5 r6 r7 r8 r9 r10
 refine chain_only rfl (by rfl) (fun K hK => ?_)
 go_simp
 refine (HSb.out A3 A4 c3 c4 _ H39.out H49.out).mono ?_
 rintro e w10 ⟨A5, c5, A6, c6, rfl, h5, h6, hg⟩
 refine hK _ _ hg ?_
 clear hK K
 have HM10 := hid (HM9.out.grow hg)
 have HN10 := hid (HN9.out.grow hg)
 have HG10 : Hid (Grow w w10) := hid (HG9.out.trans hg)
 have H310 := hid (H39.out.grow hg)
 have H410 := hid (H49.out.grow hg)
 have H5 := hid h5
 have H6 := hid h6
 clear h5 h6 hg HM9 HN9 HG9 H39 H49 HSb
 repeat ((first | (refine chain_take rfl (by rfl) ?_ (fun W hG => ?_) ?_; rotate_left; (go_simp; rfl)) | refine chain_skip rfl (by rfl) ?_); simp only [Act.put, List.setIfInBounds_toArray, List.set_cons_zero, List.set_cons_succ])
 refine chain_only rfl (by rfl) (fun K hK => ?_)
 go_simp
 refine (HQ.out A5 A6 A3 A4 c5 c6 c3 c4 _ H5.out H6.out H310.out H410.out).mono ?_
 rintro e w11 ⟨rfl, hg⟩
 refine hK _ _ hg ?_
 clear hK K
 have HM11 := hid (HM10.out.grow hg)
 have HN11 := hid (HN10.out.grow hg)
 have HG11 : Hid (Grow w w11) := hid (HG10.out.trans hg)
 have H311 := hid (H310.out.grow hg)
 have H411 := hid (H410.out.grow hg)
 clear hg HM10 HN10 HG10 H310 H410 H5 H6
 repeat ((first | (refine chain_take rfl (by rfl) ?_ (fun W hG => ?_) ?_; rotate_left; (go_simp; rfl)) | refine chain_skip rfl (by rfl) ?_); simp only [Act.put, List.setIfInBounds_toArray, List.set_cons_zero, List.set_cons_succ])
 refine chain_done ?_
 clear en ef
 obtain ⟨v0, v1, v2, v3, v4, v5, v6, v7, v8, v9, v10⟩ := HM11.out.c11
 obtain ⟨u0, u1, u2, u3, u4, u5, u6, u7, u8, u9, u10⟩ := HN11.out.a11
 go_wp2_with fail
 clear v0 v1 v2 v3 v4 v5 v6 v7 v8 v9 v10 u0 u1 u2 u3 u4 u5 u6 u7 u8 u9 u10
 generalize hW : World.alloc _ _ = W12
 obtain ⟨b1, hg⟩ := blk1 hW
 clear hW b1
 have HM12 := hid (HM11.out.grow hg)
 have HN12 := hid (HN11.out.grow hg)
 have HG12 : Hid (Grow w W12) := hid (HG11.out.trans hg)
 have H312 := hid (H311.out.grow hg)
 have H412 := hid (H411.out.grow hg)
 clear hg HM11 HN11 HG11 H311 H411
 refine (HQ.out A1 A4 A3 A4 c1 c4 c3 c4 _ (HZ1.out.grow HG12.out) H412.out H312.out H412.out).mono ?_
 rintro e w13 ⟨rfl, hg⟩
 have HM13 := hid (HM12.out.grow hg)
 have HN13 := hid (HN12.out.grow hg)
 have HG13 : Hid (Grow w w13) := hid (HG12.out.trans hg)
 have H413 := hid (H412.out.grow hg)
 clear hg HM12 HN12 HG12 H312 H412 HQ HZ1
 go_wp2_with fail
 go_loopw [7] (fun i wr => ∃ k : Nat, k ≤ n2 ∧ i = .int .i64 k ∧ Grow w13 wr) (fun i _ => n2 - (intOf i).toNat)
 case atStart => exact ⟨0, Nat.zero_le _, rfl, Grow.refl _⟩
 case round =>
  obtain ⟨k, hk, rfl, hg⟩ := hrel
  have HGw := hid hg
  clear hg
  have y9 : wr.cell? ⟨gn, 9, none⟩ = some (.slice A4 n2 c4) := (HN13.out.grow HGw.out).at 9
  by_cases hlt : k < n2
  ·have hkl : k < L2.length := by rw [← HN2.out]; exact hlt
   have hkx : k < Lx.length := by rw [HLn.out]; exact hkl
   obtain ⟨b, off, hA2, hb⟩ := HZ2.out.pos (by omega)
   obtain ⟨b', off', hA4, hb'⟩ := H413.out.pos (by omega)
   subst hA2
   subst hA4
   obtain ⟨Ak, nk, ck', -, p, gk⟩ := HZ2.out.at hkl
   obtain ⟨Bk, mk, dk, -, r, gk'⟩ := H413.out.at hkx
   have HP : Hid (∀ i v, (seC L2[k] (.slice Ak nk ck'))[i]? = some v → w.cell? ⟨b, off + k * 13 + i, none⟩ = some v) := hid p
   have HR : Hid (∀ i v, (seC Lx[k] (.slice Bk mk dk))[i]? = some v → w13.cell? ⟨b', off' + k * 13 + i, none⟩ = some v) := hid r
   have HRa := hid (fun W (hW : Grow w W) => (gk.belowAt hW (Nat.le_refl _)).more hW.size)
   have HRb := hid (fun W (hW : Grow w13 W) => (gk'.belowAt hW (Nat.le_refl _)).more hW.size)
   have hfl := HOk.out _ (List.getElem_mem hkl)
   have HGk := hid (HM.out k hkl)
   have HXk := hid (HX.out k hkl)
   have HYk := hid (HY.out k)
   have HLk := hid (HL2.out k hkx)
   have hKb : ∀ W i, Grow wr W → W.cell? ⟨b, i, none⟩ = w.cell? ⟨b, i, none⟩ := fun W i hW => Below.cell ((HG13.out.trans HGw.out).trans hW) hb
   have hKb' : ∀ W i, Grow wr W → W.cell? ⟨b', i, none⟩ = w13.cell? ⟨b', i, none⟩ := fun W i hW => Below.cell (HGw.out.trans hW) hb'
   unfold seC at HP HR
   have eK : seK.by_ L2[k] = L2[k].pl.own := rfl
   have eK' : seK.by_ Lx[k] = Lx[k].pl.own := rfl
   rw [eK] at HRa
   rw [eK'] at HRb
   clear p r gk gk' hb hb' eK eK'
   rw [← HLk.out] at HXk HYk
   generalize L2[k] = s at HP HRa HGk HXk hfl
   generalize Lx[k] = t at HR HRb HXk HYk
   generalize G k = Gk at HGk HXk HYk
   clear hkl hkx HLk
   have w0 : (0 : Int) ≤ (k : Int) := by omega
   have w1 : (k : Int) < (n2 : Int) := by omega
   have d1 : decide ((k : Int) < (n2 : Int)) = true := decide_eq_true (by omega)
   have z : IntKind.i64.wrap ((k : Int) + 1) = (k : Int) + 1 := by rw [IntKind.wrap_i64]; omega
   have gr0 : Grow wr wr := Grow.refl _
   have gra : ∀ W o, Grow wr W → Grow wr (World.alloc W o) := fun W o hW => hW.trans (Grow.of_alloc _ _)
   have p0 : ∀ W, Grow wr W → W.cell? ⟨b, off + k * 13, none⟩ = some (.int .u32 (s.name : Nat)) := fun W hW => ((fun W hW => hKb W _ hW) W hW).trans (HP.out 0 _ rfl)
   have p1 : ∀ W, Grow wr W → W.cell? ⟨b, off + k * 13 + 1, none⟩ = some (.int .u32 (s.typ : Nat)) := fun W hW => ((fun W hW => hKb W _ hW) W hW).trans (HP.out 1 _ rfl)
   have p2 : ∀ W, Grow wr W → W.cell? ⟨b, off + k * 13 + 2, none⟩ = some (.int .u64 (s.flags : Nat)) := fun W hW => ((fun W hW => hKb W _ hW) W hW).trans (HP.out 2 _ rfl)
   have p3 : ∀ W, Grow wr W → W.cell? ⟨b, off + k * 13 + 3, none⟩ = some (.int .u64 (s.addr : Nat)) := fun W hW => ((fun W hW => hKb W _ hW) W hW).trans (HP.out 3 _ rfl)
   have p4 : ∀ W, Grow wr W → W.cell? ⟨b, off + k * 13 + 4, none⟩ = some (.int .u64 (s.size : Nat)) := fun W hW => ((fun W hW => hKb W _ hW) W hW).trans (HP.out 4 _ rfl)
   have p5 : ∀ W, Grow wr W → W.cell? ⟨b, off + k * 13 + 5, none⟩ = some (.int .u32 (s.link : Nat)) := fun W hW => ((fun W hW => hKb W _ hW) W hW).trans (HP.out 5 _ rfl)
   have p6 : ∀ W, Grow wr W → W.cell? ⟨b, off + k * 13 + 6, none⟩ = some (.int .u32 (s.info : Nat)) := fun W hW => ((fun W hW => hKb W _ hW) W hW).trans (HP.out 6 _ rfl)
   have p7 : ∀ W, Grow wr W → W.cell? ⟨b, off + k * 13 + 7, none⟩ = some (.int .u64 (s.align : Nat)) := fun W hW => ((fun W hW => hKb W _ hW) W hW).trans (HP.out 7 _ rfl)
   have p8 : ∀ W, Grow wr W → W.cell? ⟨b, off + k * 13 + 8, none⟩ = some (.int .u64 (s.entsize : Nat)) := fun W hW => ((fun W hW => hKb W _ hW) W hW).trans (HP.out 8 _ rfl)
   have p9 : ∀ W, Grow wr W → W.cell? ⟨b, off + k * 13 + 9, none⟩ = some (.int .i64 s.pl.inn) := fun W hW => ((fun W hW => hKb W _ hW) W hW).trans (HP.out 9 _ rfl)
   have p10 : ∀ W, Grow wr W → W.cell? ⟨b, off + k * 13 + 10, none⟩ = some (.int .u64 (s.pl.off : Nat)) := fun W hW => ((fun W hW => hKb W _ hW) W hW).trans (HP.out 10 _ rfl)
   have p11 : ∀ W, Grow wr W → W.cell? ⟨b, off + k * 13 + 11, none⟩ = some (.int .u64 (s.pl.size : Nat)) := fun W hW => ((fun W hW => hKb W _ hW) W hW).trans (HP.out 11 _ rfl)
   have p12 : ∀ W, Grow wr W → W.cell? ⟨b, off + k * 13 + 12, none⟩ = some (.slice Ak nk ck') := fun W hW => ((fun W hW => hKb W _ hW) W hW).trans (HP.out 12 _ rfl)
   have r0 : ∀ W, Grow wr W → W.cell? ⟨b', off' + k * 13, none⟩ = some (.int .u32 (t.name : Nat)) := fun W hW => ((fun W hW => hKb' W _ hW) W hW).trans (HR.out 0 _ rfl)
   have r1 : ∀ W, Grow wr W → W.cell? ⟨b', off' + k * 13 + 1, none⟩ = some (.int .u32 (t.typ : Nat)) := fun W hW => ((fun W hW => hKb' W _ hW) W hW).trans (HR.out 1 _ rfl)
   have r2 : ∀ W, Grow wr W → W.cell? ⟨b', off' + k * 13 + 2, none⟩ = some (.int .u64 (t.flags : Nat)) := fun W hW => ((fun W hW => hKb' W _ hW) W hW).trans (HR.out 2 _ rfl)
   have r3 : ∀ W, Grow wr W → W.cell? ⟨b', off' + k * 13 + 3, none⟩ = some (.int .u64 (t.addr : Nat)) := fun W hW => ((fun W hW => hKb' W _ hW) W hW).trans (HR.out 3 _ rfl)
   have r4 : ∀ W, Grow wr W → W.cell? ⟨b', off' + k * 13 + 4, none⟩ = some (.int .u64 (t.size : Nat)) := fun W hW => ((fun W hW => hKb' W _ hW) W hW).trans (HR.out 4 _ rfl)
   have r5 : ∀ W, Grow wr W → W.cell? ⟨b', off' + k * 13 + 5, none⟩ = some (.int .u32 (t.link : Nat)) := fun W hW => ((fun W hW => hKb' W _ hW) W hW).trans (HR.out 5 _ rfl)
   have r6 : ∀ W, Grow wr W → W.cell? ⟨b', off' + k * 13 + 6, none⟩ = some (.int .u32 (t.info : Nat)) := fun W hW => ((fun W hW => hKb' W _ hW) W hW).trans (HR.out 6 _ rfl)
   have r7 : ∀ W, Grow wr W → W.cell? ⟨b', off' + k * 13 + 7, none⟩ = some (.int .u64 (t.align : Nat)) := fun W hW => ((fun W hW => hKb' W _ hW) W hW).trans (HR.out 7 _ rfl)
   have r8 : ∀ W, Grow wr W → W.cell? ⟨b', off' + k * 13 + 8, none⟩ = some (.int .u64 (t.entsize : Nat)) := fun W hW => ((fun W hW => hKb' W _ hW) W hW).trans (HR.out 8 _ rfl)
   have r9 : ∀ W, Grow wr W → W.cell? ⟨b', off' + k * 13 + 9, none⟩ = some (.int .i64 t.pl.inn) := fun W hW => ((fun W hW => hKb' W _ hW) W hW).trans (HR.out 9 _ rfl)
   have r10 : ∀ W, Grow wr W → W.cell? ⟨b', off' + k * 13 + 10, none⟩ = some (.int .u64 (t.pl.off : Nat)) := fun W hW => ((fun W hW => hKb' W _ hW) W hW).trans (HR.out 10 _ rfl)
   have r11 : ∀ W, Grow wr W → W.cell? ⟨b', off' + k * 13 + 11, none⟩ = some (.int .u64 (t.pl.size : Nat)) := fun W hW => ((fun W hW => hKb' W _ hW) W hW).trans (HR.out 11 _ rfl)
   have r12 : ∀ W, Grow wr W → W.cell? ⟨b', off' + k * 13 + 12, none⟩ = some (.slice Bk mk dk) := fun W hW => ((fun W hW => hKb' W _ hW) W hW).trans (HR.out 12 _ rfl)
   have m9 : ∀ W, Grow wr W → W.cell? ⟨gm, 9, none⟩ = some (.slice (some ⟨b, off, none⟩) n2 c2) := fun W hW => ((HM13.out.grow HGw.out).grow hW).at 9
   have m10 : ∀ W, Grow wr W → W.cell? ⟨gm, 10, none⟩ = some (.int .i64 f10) := fun W hW => ((HM13.out.grow HGw.out).grow hW).at 10
   have l9 : ∀ W, Grow wr W → W.cell? ⟨gn, 9, none⟩ = some (.slice (some ⟨b', off', none⟩) n2 c4) := fun W hW => ((HN13.out.grow HGw.out).grow hW).at 9
   clear hKb hKb' y9
   cases Gk with
   | false =>
    have est := HXk.out rfl
    subst est
    have hld : (t.flags / 2 % 2 = 1) ∨ (t.flags / 2 % 2 = 0 ∧ (k : Int) + 1 = f10) := by
     have := HGk.out
     simp only [Bool.false_eq, Bool.and_eq_false_iff, decide_eq_false_iff_not, Bool.not_eq_false', decide_eq_true_eq] at this
     rcases Nat.mod_two_eq_zero_or_one (t.flags / 2) with h | h
     ·exact .inr ⟨h, by rcases this with h2 | h2; exact absurd h h2; exact h2⟩
     ·exact .inl h
    clear HGk HXk HYk
    have zf : IntKind.u64.wrap ((t.flags : Int) / 2) = (t.flags : Int) / 2 := by rw [IntKind.wrap_u64]; omega
    rcases hld with hF | ⟨hF, hst⟩
    ·have q1 : ((((t.flags : Int) / 2) % 2 == 1) : Bool) = true := by rw [beq_iff_eq]; omega
     have q2 : (((t.flags : Int) / 2).tmod 2 == 1) = true := by rw [beq_iff_eq, Int.tmod_eq_emod_of_nonneg (by omega)]; omega
     clear hF
     go_wp2_with fail
     generalize hW : World.alloc _ _ = W20
     obtain ⟨ba, bb, hg⟩ := blk5s hW
     clear hW
     have HGx := hid (HGw.out.trans hg)
     have H1 := hid (ZR.one (K := seK) (a := t) ba (HRa.out W20 (HG13.out.trans HGx.out)) rfl ba.lt)
     have H2 := hid (ZR.one (K := seK) (a := t) bb (HRb.out W20 HGx.out) rfl bb.lt)
     clear ba bb hg p0 p1 p2 p3 p4 p5 p6 p7 p8 p9 p10 p11 p12 r0 r1 r2 r3 r4 r5 r6 r7 r8 r9 r10 r11 r12 m9 m10 l9
     refine (HQ1.out t _ _ 1 1 W20 H1.out H2.out).mono ?_
     rintro e w21 ⟨rfl, hg⟩
     have HGy := hid (HGx.out.trans hg)
     clear hg H1 H2 HGx
     go_wp2
     go_roundw
     case rel => exact ⟨k + 1, by omega, by go_num, HGy.out⟩
     case measure => simp [intOf]; omega
    ·have q1 : ((((t.flags : Int) / 2) % 2 == 1) : Bool) = false := by rw [beq_eq_false_iff_ne]; omega
     have q2 : (((t.flags : Int) / 2).tmod 2 == 1) = false := by rw [beq_eq_false_iff_ne, Int.tmod_eq_emod_of_nonneg (by omega)]; omega
     have q3 : ((k : Int) + 1 == f10) = true := by rw [beq_iff_eq]; exact hst
     clear hF hst
     go_wp2_with fail
     generalize hW : World.alloc _ _ = W20
     obtain ⟨ba, bb, hg⟩ := blk5s hW
     clear hW
     have HGx := hid (HGw.out.trans hg)
     have H1 := hid (ZR.one (K := seK) (a := t) ba (HRa.out W20 (HG13.out.trans HGx.out)) rfl ba.lt)
     have H2 := hid (ZR.one (K := seK) (a := t) bb (HRb.out W20 HGx.out) rfl bb.lt)
     clear ba bb hg p0 p1 p2 p3 p4 p5 p6 p7 p8 p9 p10 p11 p12 r0 r1 r2 r3 r4 r5 r6 r7 r8 r9 r10 r11 r12 m9 m10 l9
     refine (HQ1.out t _ _ 1 1 W20 H1.out H2.out).mono ?_
     rintro e w21 ⟨rfl, hg⟩
     have HGy := hid (HGx.out.trans hg)
     clear hg H1 H2 HGx
     go_wp2
     go_roundw
     case rel => exact ⟨k + 1, by omega, by go_num, HGy.out⟩
     case measure => simp [intOf]; omega
   | true =>
    have hty := HYk.out rfl
    have hld : s.flags / 2 % 2 = 0 ∧ (k : Int) + 1 ≠ f10 := by
     have := HGk.out.symm
     simpa using this
    obtain ⟨hF, hst⟩ := hld
    have zf : IntKind.u64.wrap ((s.flags : Int) / 2) = (s.flags : Int) / 2 := by rw [IntKind.wrap_u64]; omega
    have q1 : ((((s.flags : Int) / 2) % 2 == 1) : Bool) = false := by rw [beq_eq_false_iff_ne]; omega
    have q2 : (((s.flags : Int) / 2).tmod 2 == 1) = false := by rw [beq_eq_false_iff_ne, Int.tmod_eq_emod_of_nonneg (by omega)]; omega
    have q3 : ((k : Int) + 1 == f10) = false := by rw [beq_eq_false_iff_ne]; exact hst
    have e2 : ((t.typ : Int) == 2) = false := by have := hty; unfold Se.isSym at this; simp at this; simp; omega
    have e18 : ((t.typ : Int) == 18) = false := by have := hty; unfold Se.isSym at this; simp at this; simp; omega
    have e4 : ((t.typ : Int) == 4) = false := by have := hty; unfold Se.isSym at this; simp at this; simp; omega
    have e9 : ((t.typ : Int) == 9) = false := by have := hty; unfold Se.isSym at this; simp at this; simp; omega
    have HGy : Hid (∀ o1 o2 o3 o4 o5, Grow w13 (((((wr.alloc o1).alloc o2).alloc o3).alloc o4).alloc o5)) := hid fun _ _ _ _ _ => HGw.out.trans (gra _ _ (gra _ _ (gra _ _ (gra _ _ (gra _ _ gr0)))))
    clear hF hst hty HGk HXk HYk
    go_wp2
    go_roundw
    case rel => exact ⟨k + 1, by omega, by go_num, HGy.out _ _ _ _ _⟩
    case measure => simp [intOf]; omega
  ·have e : k = n2 := by omega
   subst e
   have d1 : decide ((k : Int) < (k : Int)) = false := decide_eq_false (by omega)
   go_wp2
   go_ret
   exact ⟨rfl, HG13.out.trans HGw.out⟩
theorem wf_u8 {n : Int} (h : (Lit.int .u8 n).wf = true) : 0 ≤ n ∧ n ≤ 255 := by
 simpa [Lit.wf, IntKind.bits, IntKind.signed] using bounds_u8 h
theorem rb_of_cells (w : World) (x : Addr) (len cap : Nat) (zs : List Int) (hl : len ≤ cap) (hm : cap ≤ maxLen) (hz : zs.length = cap)
  (hcell : ∀ i, i < zs.length → w.cell? (x.add i) = some (.int .u8 (zs.getD i 0))) (hwf : ∀ n ∈ zs, (Lit.int .u8 n).wf = true) :
  RB w w.heap.size (some x) len cap ((zs.take len).map fun n => UInt8.ofNat n.toNat) := by
 refine ⟨by simp; omega, hl, hm, fun hp => ?_⟩
 obtain ⟨b, off, spot⟩ := x
 have h0 := hcell 0 (by omega)
 have hspot : spot = none := by simpa [Addr.add] using World.cell?_spot h0
 subst hspot
 refine ⟨b, off, rfl, ?_, fun j hj => ?_⟩
 ·rcases Nat.lt_or_ge b w.heap.size with h | h
  ·exact h
  ·simp [Addr.add, World.cell?, Array.getElem?_eq_none h] at h0
 ·have hj' : j < len := by simp at hj; omega
  have e2 : (⟨b, off, none⟩ : Addr).add j = ⟨b, off + j, none⟩ := by unfold Addr.add; split <;> simp_all
  rw [← e2, hcell j (by omega)]
  have hjz : j < zs.length := by omega
  have hb := wf_u8 (hwf zs[j] (List.getElem_mem hjz))
  simp only [List.getElem_map, List.getElem_take, List.getD_eq_getElem?_getD, List.getElem?_eq_getElem hjz, Option.getD_some]
  congr 2
  rw [UInt8.toNat_ofNat', Nat.mod_eq_of_lt (by omega)]
  omega
end Go.Proofs.Ytfbimboemahhhaa
namespace Go.Proofs.Ytfbimboemahhhaa
open Go.Lib (hid)
open Go.ChangeShapes Go.WideShapes Go.RowKit Go.Joins Go.Deep
set_option maxRecDepth 100000
section
variable {H : Type} {enc : TypeId × Value → H} {w : World} {base : Nat} {spare : Nat → Bool} {held : Bool}
theorem form_of_cells {n : Nat} {c0 c1 : Value} {y : DataW H × List MemPlace} (hf : DataW.trod enc Try.prog w base spare held n 23 [c0, c1] = some y) : ∃ wide big : Bool, c0 = .bool wide ∧ c1 = .bool big := by
 obtain ⟨x0, x1, m, _, _, k0, k1⟩ := trod_struct2 Try.underlying23 hf
 have k0' : DataW.trod enc Try.prog w base spare held m 4 [c0] = some x0 := by
  simpa [show Program.cellsOf Try.prog 4 = 1 by kernel_rfl] using k0
 have k1' : DataW.trod enc Try.prog w base spare held m 4 [c1] = some x1 := by
  simpa [show Program.cellsOf Try.prog 4 = 1 by kernel_rfl] using k1
 obtain ⟨wide, e0, _⟩ := DataW.trod_bool Try.underlying4 k0'
 obtain ⟨big, e1, _⟩ := DataW.trod_bool Try.underlying4 k1'
 injection e0 with e0
 injection e1 with e1
 exact ⟨wide, big, e0, e1⟩
end
end Go.Proofs.Ytfbimboemahhhaa
