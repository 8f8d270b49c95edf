/-
  Several texts in one: A file that is read as a model, and whose number of program headers stands in its header, has the model's image; The contract of the document's own SameImage at two readings of one image; The contract of the document's own ModelImage; The contract of the document's own Word; The contracts of the document's own Word, headRow, Sizes; and of Code at the errors that head tells; The contract of the document's own Get (layer 1); The contracts of the document's own Numbers; The contract of the document's own Sum.
-/
import Derived.Test.YtfglppjilcaafaaGreatDoorTbH15
import Derived.Test.YtfglppjilcaafaaGreatDoorTbH28
import Derived.Test.YtfglppjilcaafaaGreatDoorTbH9
import Derived.Test.YtfglppjilcaafaaGreatDoorTbH16
import Derived.Test.YtfglppjilcaafaaGreatDoorTbH2
import Derived.Test.YtfglppjilcaafaaGreatDoorTbH4
import Derived.Test.YtfglppjilcaafaaGreatDoorRows
import Derived.Test.YtfglppjilcaafaaGreatDoorTbH34
import Derived.OwnWalk
import Derived.Test.YtfglppjilcaafaaGreatDoorTbH12
import Derived.WalkKit
import Derived.Lib.Hide
import Derived.Test.YtfglppjilcaafaaGreatDoorTbH3
import Derived.Test.YtfglppjilcaafaaGreatDoorTbH13
namespace Go.Proofs.YtfglppjilcaafaaGreatDoor
open Go.Lib (hid)
open Go.RowKit
set_option linter.unusedVariables false
theorem told_zero {l : List UInt8} {c p : Nat} {m : Md} (h : PTold l c p m) (h0 : c = 0) : m = mdF l ∧ HTold l 0 0 (hdOf l).V ∧ (cntE l).1 = 0 ∧ (tabE l).1 = 0 ∧ (mdF l).planC = 0 := by
 rcases h with ⟨_, rfl, _⟩ | ⟨_, h1, _⟩ | ⟨_, h1, h2, h3⟩
 ·omega
 ·exact absurd h0 h1
 ·rw [if_pos h0] at h3
  subst h0
  unfold restE at h2
  split at h2
  ·rename_i h
   rw [h2] at h
   exact absurd rfl h
  split at h2
  ·rename_i h
   rw [h2] at h
   exact absurd rfl h
  split at h2
  ·rename_i h
   exact absurd (congrArg Prod.fst h2) h
  ·rename_i a b d
   exact ⟨h3, h1, by omega, by omega, by omega⟩
theorem told_good {l : List UInt8} {c p : Nat} {m : Md} (h : PTold l c p m) (h0 : c = 0) (o1 : ∀ s ∈ m.segs, s.pl.own.length ≤ maxLen) (o2 : ∀ s ∈ m.secs, s.pl.own.length ≤ maxLen) : Good m := by
 obtain ⟨rfl, _, _, _, h1⟩ := told_zero h h0
 exact ⟨mdF_ok l, h1, o1, o2⟩
theorem told_img {l : List UInt8} {c p : Nat} {m : Md} (h : PTold l c p m) (h0 : c = 0) (hp : (hdOf l).pn ≠ 65535) : Img l ∧ imL l = m.img ∧ (hdOf l).en = m.entry := by
 obtain ⟨rfl, h1, h2, h3, _⟩ := told_zero h h0
 have hn : nP l = (hdOf l).pn := by unfold nP; rw [if_neg hp]
 have hb : ∀ i, i < nP l → inB l.length (pgs l i).off (pgs l i).fs = true := fun i hi => by
  have ht : fstC (pBad l) (List.range (nP l)) = 0 := by
   unfold tabE at h3
   split at h3
   ·simp at h3
   ·omega
  have := fstC_zero.1 ht i (List.mem_range.2 hi)
  unfold pBad at this
  split at this
  ·assumption
  ·omega
 refine ⟨⟨h1, hp, fun i hi => pAt_in h2 (by rw [hn]; exact hi), fun i hi _ => hb i (by rw [hn]; exact hi)⟩, ?_, rfl⟩
 unfold imL fImg Md.img sgImg
 rw [← hn]
 refine filter_map_same (by simp [mdF]) fun i h4 h5 => ?_
 have hi : i < nP l := by simpa using h4
 have e : (mdF l).segs[i] = segF l i := by simp [mdF]
 rw [e, List.getElem_range]
 refine ⟨rfl, fun ht => ?_⟩
 have ht' : (pgs l i).ty = 1 := by simpa using ht
 unfold pgRg sgRg segF
 simp only [if_pos ht']
 unfold ownPl
 split
 ·rename_i h0
  rw [h0]
  rfl
 ·rfl
set_option maxRecDepth 100000
set_option linter.unusedVariables false
set_option maxHeartbeats 8000000 in
theorem rSameImg_any (en : Nat) (L : List Rg) (A1 A3 : Option Addr) (n1 c1 n3 c3 : Nat) (w : World) (g1 : ZR rgK w w.heap.size A1 n1 c1 L) (g3 : ZR rgK w w.heap.size A3 n3 c3 L) :
  Calls Tryz.prog 15 #[.agg (imC en (.slice A1 n1 c1)), .agg (imC en (.slice A3 n3 c3))] w fun e w' => e = .returned (.bool true) ∧ Grow w w' := by
 obtain rfl : n1 = n3 := g1.len.trans g3.len.symm
 have H1 := hid g1
 have H3 := hid g3
 have HL1 := hid g1.len
 have a1 := g1.cap
 have a2 := g1.max
 have a5 := g3.cap
 have a6 := g3.max
 unfold maxLen at a2 a6
 unfold imC
 clear g1 g3
 go_enter Tryz.func15, Tryz.ntmps15
 go_wp2_with fail
 generalize hW : World.alloc _ _ = W0
 obtain ⟨b1, b2, hg0⟩ := blk2 hW
 clear hW
 have HX := hid b1
 have HY := hid b2
 have HW := hid hg0
 clear b1 b2 hg0
 generalize w.heap.size + 1 = gy at HY ⊢
 obtain ⟨gx, hgx⟩ : ∃ g, g = w.heap.size := ⟨_, rfl⟩
 rw [← hgx] at HX ⊢
 clear hgx
 go_loopw [5] (fun i wr => ∃ k : Nat, k ≤ n1 ∧ i = .int .i64 k ∧ Blk wr gx 52 #[.int .u64 (en : Nat), .slice A1 n1 c1] ∧ Blk wr gy 52 #[.int .u64 (en : Nat), .slice A3 n1 c3] ∧ Grow w wr) (fun i _ => n1 - (intOf i).toNat)
 case atStart => exact ⟨0, Nat.zero_le _, rfl, HX.out, HY.out, HW.out⟩
 case round =>
  obtain ⟨k, hk, rfl, hx, hy, hg⟩ := hrel
  have HX1 := hid hx
  have HY1 := hid hy
  have HW1 := hid hg
  clear hx hy hg HX HY HW
  by_cases hlt : k < n1
  ·have hkl : k < L.length := by rw [← HL1.out]; exact hlt
   obtain ⟨b, off, hAA, hb⟩ := H1.out.pos (by omega)
   obtain ⟨bb, off2, hAB, hbb⟩ := H3.out.pos (by omega)
   subst hAA
   subst hAB
   obtain ⟨B1, k1, e1, -, p, g1⟩ := H1.out.at hkl
   obtain ⟨B3, k3, e3, -, r, g3⟩ := H3.out.at hkl
   have p' : ∀ i v, (rgC L[k] (.slice B1 k1 e1))[i]? = some v → wr.cell? ⟨b, off + k * 4 + i, none⟩ = some v := fun i v hv => (Below.cell HW1.out hb).trans (p i v hv)
   have r' : ∀ i v, (rgC L[k] (.slice B3 k3 e3))[i]? = some v → wr.cell? ⟨bb, off2 + k * 4 + i, none⟩ = some v := fun i v hv => (Below.cell HW1.out hbb).trans (r i v hv)
   have HS1 := hid (fun W (hW : Grow w W) => (g1.grow hW).conv (Nat.le_refl _) W (Grow.refl _))
   have HS3 := hid (fun W (hW : Grow w W) => (g3.grow hW).conv (Nat.le_refl _) W (Grow.refl _))
   have HBB := hid (Nat.lt_of_lt_of_le hbb HW1.out.size)
   unfold rgC at p' r'
   clear p r g1 g3
   have hby : rgK.by_ L[k] = L[k].bytes := rfl
   rw [hby] at HS1 HS3
   clear hby
   generalize L[k] = r at p' r' HS1 HS3
   clear hkl
   have s0 : wr.cell? ⟨b, off + k * 4, none⟩ = _ := p' 0 _ rfl
   have s1 : wr.cell? ⟨b, off + k * 4 + 1, none⟩ = _ := p' 1 _ rfl
   have s2 : wr.cell? ⟨b, off + k * 4 + 2, none⟩ = _ := p' 2 _ rfl
   have s3 : wr.cell? ⟨b, off + k * 4 + 3, none⟩ = _ := p' 3 _ rfl
   have r2 : ∀ i v, (#[.int .u64 (r.addr : Nat), .int .u64 (r.size : Nat), .int .u32 (r.flags : Nat), .slice B3 k3 e3] : Array Value)[i]? = some v → (wr.alloc (.cells #[.int .u64 (r.addr : Nat), .int .u64 (r.size : Nat), .int .u32 (r.flags : Nat), .slice B1 k1 e1] 107)).cell? ⟨bb, off2 + k * 4 + i, none⟩ = some v := fun i v hv => (Below.cell (Grow.of_alloc wr _) HBB.out).trans (r' i v hv)
   have u0 : (wr.alloc (.cells #[.int .u64 (r.addr : Nat), .int .u64 (r.size : Nat), .int .u32 (r.flags : Nat), .slice B1 k1 e1] 107)).cell? ⟨bb, off2 + k * 4, none⟩ = _ := r2 0 _ rfl
   have u1 : (wr.alloc (.cells #[.int .u64 (r.addr : Nat), .int .u64 (r.size : Nat), .int .u32 (r.flags : Nat), .slice B1 k1 e1] 107)).cell? ⟨bb, off2 + k * 4 + 1, none⟩ = _ := r2 1 _ rfl
   have u2 : (wr.alloc (.cells #[.int .u64 (r.addr : Nat), .int .u64 (r.size : Nat), .int .u32 (r.flags : Nat), .slice B1 k1 e1] 107)).cell? ⟨bb, off2 + k * 4 + 2, none⟩ = _ := r2 2 _ rfl
   have u3 : (wr.alloc (.cells #[.int .u64 (r.addr : Nat), .int .u64 (r.size : Nat), .int .u32 (r.flags : Nat), .slice B1 k1 e1] 107)).cell? ⟨bb, off2 + k * 4 + 3, none⟩ = _ := r2 3 _ rfl
   have m1 := HX1.out.at 1
   have y1 := HY1.out.at 1
   have y1a := (HY1.out.grow (Grow.of_alloc wr (.cells #[.int .u64 (r.addr : Nat), .int .u64 (r.size : Nat), .int .u32 (r.flags : Nat), .slice B1 k1 e1] 107))).at 1
   have hga : Grow wr ((wr.alloc (.cells #[.int .u64 (r.addr : Nat), .int .u64 (r.size : Nat), .int .u32 (r.flags : Nat), .slice B1 k1 e1] 107)).alloc (.cells #[.int .u64 (r.addr : Nat), .int .u64 (r.size : Nat), .int .u32 (r.flags : Nat), .slice B3 k3 e3] 107)) := (Grow.of_alloc _ _).trans (Grow.of_alloc _ _)
   have t1 := HS1.out _ (HW1.out.trans hga)
   have t3 := HS3.out _ (HW1.out.trans hga)
   have HX2 := hid (HX1.out.grow hga)
   have HY2 := hid (HY1.out.grow hga)
   have HW2 := hid (HW1.out.trans hga)
   clear p' r' r2 hga HS1 HS3
   have w0 : (0 : Int) ≤ (k : Int) := by omega
   have w1 : (k : Int) < (n1 : Int) := by omega
   have d1 : decide ((k : Int) < (n1 : Int)) = true := decide_eq_true (by omega)
   go_wp2
   go_roundw
   case rel => exact ⟨k + 1, by omega, by go_num, HX2.out, HY2.out, HW2.out⟩
   case measure => simp [intOf]; omega
  ·have d1 : decide ((k : Int) < (n1 : Int)) = false := decide_eq_false (by omega)
   have m1 := HX1.out.at 1
   go_wp2
   go_ret
   exact ⟨rfl, HW1.out⟩
set_option maxRecDepth 100000
set_option linter.unusedVariables false
set_option maxHeartbeats 8000000 in
theorem rImModel_any (m : Md) (A1 : Option Addr) (n1 c1 : Nat) (S2 : Value) (w : World) (h : ZR sgK w w.heap.size A1 n1 c1 m.segs) (hsm : ∀ s ∈ m.segs, s.pl.own.length ≤ 140737488355328) (hn : n1 ≤ 65536) :
  Calls Tryz.prog 16 #[.agg (mdC m (.slice A1 n1 c1) S2)] w (ImgR m.entry m.img w) := by
 have H1 := hid h
 have HLn := hid h.len
 have hc := h.cap
 have hm := h.max
 unfold maxLen at hm
 have HSm := hid hsm
 have HSu := hid (fun k (hk : k < m.segs.length) => sgImg_succ hk)
 have HLe := hid (fun k => sgImg_le (l := m.segs) (k := k))
 have HE : Hid (sgImg (m.segs.take n1) = m.img) := hid (by rw [h.len, List.take_length]; rfl)
 have H0 : Hid (sgImg (m.segs.take 0) = []) := hid rfl
 have HN := hid hn
 unfold ImgR
 unfold mdC
 clear h hsm hn
 generalize m.img = IM at HE ⊢
 generalize m.segs = L1 at *
 generalize m.wide = f0
 generalize m.big = f1
 generalize m.osabi = f2
 generalize m.abi = f3
 generalize m.typ = f4
 generalize m.mach = f5
 generalize m.flags = f6
 generalize m.entry = f7
 generalize m.str = f10
 unfold imC
 go_enter Tryz.func16, Tryz.ntmps16
 go_wp2_with fail
 generalize hW : World.alloc _ _ = W0
 obtain ⟨b1, b2, b3, hg0⟩ := blk3 hW
 clear hW
 have HB0 := hid b1
 clear b1
 have HA : Hid (IBA w (w.heap.size + 1) (w.heap.size + 1 + 1) (w.heap.size + 1 + 1 + 1)) := hid ⟨rfl, by omega, by omega⟩
 have HM : Hid (IB w W0 (w.heap.size + 1) (w.heap.size + 1 + 1) f7 (.slice none 0 0)) := hid ⟨b2, b3, hg0⟩
 clear b2 b3 hg0
 have HGG : w.heap.size < w.heap.size + 1 := Nat.lt_succ_self _
 generalize w.heap.size + 1 + 1 + 1 = base at HA
 generalize w.heap.size + 1 + 1 = g3 at HA HM ⊢
 generalize w.heap.size + 1 = g2 at HA HM HGG ⊢
 have HG1 : Hid (w.heap.size < g2) := hid HGG
 clear HGG
 obtain ⟨g1, hg1⟩ : ∃ g, g = w.heap.size := ⟨_, rfl⟩
 rw [← hg1] at HB0 HG1 ⊢
 clear hg1
 go_loopw [4] (fun i wr => ∃ (k : Nat) (As : Option Addr) (cs : Nat), k ≤ n1 ∧ i = .int .i64 k ∧ Blk wr g1 32 #[.bool f0, .bool f1, .int .u8 (f2 : Nat), .int .u8 (f3 : Nat), .int .u16 (f4 : Nat), .int .u16 (f5 : Nat), .int .u32 (f6 : Nat), .int .u64 (f7 : Nat), .slice A1 n1 c1, S2, .int .i64 f10] ∧ IB w wr g2 g3 f7 (.slice As (sgImg (L1.take k)).length cs) ∧ GR rgK wr base 107 As (sgImg (L1.take k)).length cs (sgImg (L1.take k))) (fun i _ => n1 - (intOf i).toNat)
 case atStart =>
  refine ⟨0, none, 0, Nat.zero_le _, rfl, HB0.out, ?_, ?_⟩
  ·rw [H0.out]; exact HM.out
  ·rw [H0.out]; exact GR.nil trivial
 case round =>
  obtain ⟨k, As, cs, hk, rfl, hb1, hm1, hgr⟩ := hrel
  have HBa := hid hb1
  clear hb1 HB0
  have HMa := hid hm1
  have HGa := hid hgr
  clear hm1 hgr HM
  have HLk := hid (HLe.out k)
  by_cases hlt : k < n1
  ·have hkl : k < L1.length := by rw [← HLn.out]; exact hlt
   obtain ⟨b, off, hAA, hb⟩ := H1.out.pos (by omega)
   subst hAA
   obtain ⟨B1, k1, e1, -, p, gq⟩ := H1.out.at hkl
   have p' : ∀ i v, (sgC L1[k] (.slice B1 k1 e1))[i]? = some v → wr.cell? ⟨b, off + k * 10 + i, none⟩ = some v := fun i v hv => (Below.cell HMa.out.g hb).trans (p i v hv)
   have HSk := hid (HSu.out k hkl)
   have HCl := hid (fun W (hW : Grow w W) => (⟨(gq.belowAt hW (Nat.le_refl _)).more hW.size, by have h1 := HSm.out L1[k] (List.getElem_mem hkl); have h2 := gq.len; change k1 = L1[k].pl.own.length at h2; omega⟩ : RB W W.heap.size B1 k1 e1 L1[k].pl.own ∧ k1 ≤ 140737488355328))
   have HRk : Hid (∀ (Ax : Option Addr) (nx cx : Nat), (#[.int .u64 (L1[k].vaddr : Nat), .int .u64 (L1[k].memsz : Nat), .int .u32 (L1[k].flags : Nat), .slice Ax nx cx] : Array Value) = rgK.cs (sgRg L1[k]) (.slice Ax nx cx)) := hid fun _ _ _ => rfl
   have HBy : Hid (L1[k].pl.own = rgK.by_ (sgRg L1[k])) := hid rfl
   clear p gq
   generalize hRg : sgRg L1[k] = rg at HSk HRk HBy
   clear hRg
   generalize L1[k] = s at p' HSk HCl HRk HBy
   clear hkl
   unfold sgC at p'
   have s0 : wr.cell? ⟨b, off + k * 10, none⟩ = _ := p' 0 _ rfl
   have s1 : wr.cell? ⟨b, off + k * 10 + 1, none⟩ = _ := p' 1 _ rfl
   have s2 : wr.cell? ⟨b, off + k * 10 + 2, none⟩ = _ := p' 2 _ rfl
   have s3 : wr.cell? ⟨b, off + k * 10 + 3, none⟩ = _ := p' 3 _ rfl
   have s4 : wr.cell? ⟨b, off + k * 10 + 4, none⟩ = _ := p' 4 _ rfl
   have s5 : wr.cell? ⟨b, off + k * 10 + 5, none⟩ = _ := p' 5 _ rfl
   have s6 : wr.cell? ⟨b, off + k * 10 + 6, none⟩ = _ := p' 6 _ rfl
   have s7 : wr.cell? ⟨b, off + k * 10 + 7, none⟩ = _ := p' 7 _ rfl
   have s8 : wr.cell? ⟨b, off + k * 10 + 8, none⟩ = _ := p' 8 _ rfl
   have s9 : wr.cell? ⟨b, off + k * 10 + 9, none⟩ = _ := p' 9 _ rfl
   clear p'
   have w0 : (0 : Int) ≤ (k : Int) := by omega
   have w1 : (k : Int) < (n1 : Int) := by omega
   have d1 : decide ((k : Int) < (n1 : Int)) = true := decide_eq_true (by omega)
   have m8 := HBa.out.at 8
   by_cases ht : s.typ = 1
   ·have d2 : ((s.typ : Int) == 1) = true := by simp [ht]
    rw [if_pos ht] at HSk
    clear ht
    go_wp2_with fail
    generalize hW : World.alloc _ _ = W5
    obtain ⟨b5, hg⟩ := blk1 hW
    obtain ⟨g5, hg5⟩ : ∃ g, g = wr.heap.size := ⟨_, rfl⟩
    rw [← hg5] at b5 ⊢
    clear hW s0 s1 s2 s3 s4 s5 s6 s7 s8 s9
    have HKe : Hid (∀ i, own As = some i → ¬ (i = g3 ∨ i = g5)) := hid (by
     obtain ⟨Rw0, hzo0, _, _⟩ := HGa.out
     exact IB.apart HA.out hzo0 (show wr.heap.size ≤ g5 by omega))
    have hgd := hg.trans (Grow.of_drew W5)
    have HM0 := hid (HMa.out.grow hgd)
    have HG0 := hid (HGa.out.keep hgd)
    have HP0 := hid b5.drew
    have HB1 := hid (HBa.out.grow hgd)
    have HL5 : Hid (g5 < W5.drew.heap.size) := hid b5.drew.lt
    clear b5 hg hgd hg5 HMa HGa HBa m8
    refine wp_region_last (leap_kept (fun j => j = g3 ∨ j = g5)) [(0, true), (1, true), (2, true), (3, true), (4, true), (5, true), (6, true), (7, true), (9, true), (10, true), (11, true), (8, false), (12, false), (13, true), (14, false), (15, false), (16, true)] 17 (by kernel_rfl) (by kernel_rfl) (by kernel_rfl) ?_
    generalize W5.drew = v0 at HM0 HG0 HP0 HB1 HL5 ⊢
    have q0 : ∀ W, Kept (fun j => j = g3 ∨ j = g5) v0 W → W.cell? ⟨g5, 0, none⟩ = some (.int .u32 (s.typ : Nat)) := fun W hW => (HP0.out.kept hW (.inr rfl)).at 0
    have q1 : ∀ W, Kept (fun j => j = g3 ∨ j = g5) v0 W → W.cell? ⟨g5, 1, none⟩ = some (.int .u32 (s.flags : Nat)) := fun W hW => (HP0.out.kept hW (.inr rfl)).at 1
    have q2 : ∀ W, Kept (fun j => j = g3 ∨ j = g5) v0 W → W.cell? ⟨g5, 2, none⟩ = some (.int .u64 (s.vaddr : Nat)) := fun W hW => (HP0.out.kept hW (.inr rfl)).at 2
    have q4 : ∀ W, Kept (fun j => j = g3 ∨ j = g5) v0 W → W.cell? ⟨g5, 4, none⟩ = some (.int .u64 (s.memsz : Nat)) := fun W hW => (HP0.out.kept hW (.inr rfl)).at 4
    have q9 : ∀ W, Kept (fun j => j = g3 ∨ j = g5) v0 W → W.cell? ⟨g5, 9, none⟩ = some (.slice B1 k1 e1) := fun W hW => (HP0.out.kept hW (.inr rfl)).at 9
    have r1 : ∀ W, Kept (fun j => j = g3 ∨ j = g5) v0 W → W.cell? ⟨g3, 1, none⟩ = some (.slice As (sgImg (L1.take k)).length cs) := fun W hW => (HM0.out.x.kept hW (.inl rfl)).at 1
    repeat ((first | (refine chain_take rfl (by rfl) ?_ (fun W hG => ?_) ?_; rotate_left; (go_simp; rfl)) | refine chain_skip rfl (by rfl) ?_); simp only [Act.put, List.setIfInBounds_toArray, List.set_cons_zero, List.set_cons_succ])
    clear q0 q1 q2 q4 q9 r1 HP0
    refine chain_only rfl (by rfl) (fun K hK => ?_)
    go_simp
    refine hK _ _ (Kept.of_grow (Grow.of_alloc _ _)) ?_
    clear hK K
    refine chain_only rfl (by rfl) (fun K hK => ?_)
    have HRb := hid (HCl.out v0 HM0.out.g)
    refine wp_appendB (v0.alloc (.cells #[] 5)) (.tmp 32) (.tmp 35) 33 rfl v0.heap.size 5 Tryz.underlying33 (by kernel_rfl) _ 0 0 [] rfl (OB.lit v0 v0.heap.size 5 [] (Nat.zero_le _) (Nat.le_refl _)) v0.heap.size B1 k1 e1 s.pl.own rfl (HRb.out.1.belowAt (Grow.of_alloc v0 _) (Nat.le_refl _)) (by have := HRb.out.2; omega) (Grow.of_alloc v0 _).size ?_
    intro Ax cx v1 ho hb1
    have hg : Grow v0 v1 := (Grow.of_alloc v0 _).trans' hb1
    refine hK _ _ ⟨hb1.size, fun i hi hs => hb1.block i (by
     have h1 := HM0.out.x.lt
     have h2 := HL5.out
     rcases hs with h | h <;> omega)⟩ ?_
    clear hK K hb1 HRb
    rw [Nat.zero_add, List.nil_append] at ho
    rw [Nat.zero_add]
    have HO1 := hid (ho.mono (HM0.out.base_le HA.out))
    have HM1 := hid (HM0.out.grow hg)
    have HG1b := hid (HG0.out.keep hg)
    have HB2 := hid (HB1.out.grow hg)
    clear ho HM0 HG0 hg HB1 HL5
    repeat ((first | (refine chain_take rfl (by rfl) ?_ (fun W hG => ?_) ?_; rotate_left; (go_simp; rfl)) | refine chain_skip rfl (by rfl) ?_); simp only [Act.put, List.setIfInBounds_toArray, List.set_cons_zero, List.set_cons_succ])
    refine chain_only rfl (by rfl) (fun K hK => ?_)
    go_simp
    refine hK _ _ (Kept.of_grow (Grow.of_alloc _ _)) ?_
    clear hK K
    generalize hW : World.alloc _ _ = v3
    obtain ⟨bn, hg⟩ := blk1 hW
    clear hW
    have HN3 := hid bn
    have HM3 := hid (HM1.out.grow hg)
    have HG3 := hid (HG1b.out.keep hg)
    have HO3 := hid (HO1.out.keep hg)
    have HB3 := hid (HB2.out.grow hg)
    clear bn HM1 HG1b HO1 hg HB2
    refine chain_only rfl (by rfl) (fun K hK => ?_)
    obtain ⟨Rw, hzo, hlr, hro⟩ := HG3.out
    have HBs := hid (HM3.out.base_le HA.out)
    refine wp_appendZ _ (.tmp 25) (.tmp 38) 50 rfl base 107 (.agg #[.int .u64 0, .int .u64 0, .int .u32 0, .slice none 0 0]) 4 48 Tryz.underlying50 (by kernel_rfl) rfl (by omega) As _ cs Rw rfl hzo _ _ _ rfl HN3.out rfl (by simp [Value.oneCell']) (by have := HLk.out; have := HN.out; unfold maxLen; omega) (by have := HLk.out; have := HN.out; omega) HBs.out ?_
    intro A5 c5 v4 ho9 hg9 _
    refine hK _ _ (kept_row hg9 HKe.out) ?_
    clear hK K
    have HM4 := hid (HM3.out.by_ HA.out hg9 (fun i e => hzo.ge e))
    have HG4 : Hid (GR rgK v4 base 107 A5 ((sgImg (L1.take k)).length + 1) c5 (sgImg (L1.take (k + 1)))) := hid (by
     rw [HSk.out]
     exact GR.snoc hzo hlr hro ⟨Ax, _, cx, HRk.out Ax _ cx, HBy.out ▸ HO3.out⟩ (by decide) ho9 hg9)
    have HB4 := hid (HB3.out.grownBy hg9 (fun e => by have := hzo.ge e.symm; have := HG1.out; have := HA.out.b; have := HA.out.a2; omega))
    clear ho9 hg9 hzo hlr hro HBs HB3 HM3 HG3 HO3 HN3
    have hle : (sgImg (L1.take k)).length + 1 = (sgImg (L1.take (k + 1))).length := by rw [HSk.out, List.length_append]; rfl
    rw [hle] at HG4 ⊢
    clear hle
    repeat ((first | (refine chain_take rfl (by rfl) ?_ (fun W hG => ?_) ?_; rotate_left; (go_simp; rfl)) | refine chain_skip rfl (by rfl) ?_); simp only [Act.put, List.setIfInBounds_toArray, List.set_cons_zero, List.set_cons_succ])
    refine chain_done (last_op rfl (by rfl) (fun K hK => ?_))
    have c9 := HM4.out.x.at 1
    have s9 := HM4.out.x.soft 1
    go_simp
    refine hK _ _ ?_
    clear hK K c9 s9
    have e9 := setCell_eq_setRow v4 g3 1 _ 52 (0, 0) (.slice A5 (sgImg (L1.take (k + 1))).length c5) HM4.out.x
    have HM5 := hid (HM4.out.set HA.out (.slice A5 (sgImg (L1.take (k + 1))).length c5))
    have HG5 := hid (HG4.out.set (show g3 < base by have := HA.out.b; omega) #[.int .u64 (f7 : Nat), .slice A5 (sgImg (L1.take (k + 1))).length c5])
    have HB5 := hid (HB4.out.other (show g1 ≠ g3 by have := HG1.out; have := HA.out.a2; omega) #[.int .u64 (f7 : Nat), .slice A5 (sgImg (L1.take (k + 1))).length c5])
    rw [e9]
    clear e9 HM4 HG4 HB4
    go_wp2
    go_roundw
    case rel => exact ⟨k + 1, A5, c5, by omega, by go_num, HB5.out, HM5.out, HG5.out⟩
    case measure => simp [intOf]; omega
   ·have d2 : ((s.typ : Int) == 1) = false := by simp; omega
    rw [if_neg ht, List.append_nil] at HSk
    have hgr := Grow.of_alloc wr (.cells #[.int .u32 (s.typ : Nat), .int .u32 (s.flags : Nat), .int .u64 (s.vaddr : Nat), .int .u64 (s.paddr : Nat), .int .u64 (s.memsz : Nat), .int .u64 (s.align : Nat), .int .i64 s.pl.inn, .int .u64 (s.pl.off : Nat), .int .u64 (s.pl.size : Nat), .slice B1 k1 e1] 70)
    have HM5 := hid (HMa.out.grow hgr)
    have HG5 := hid (HGa.out.keep hgr)
    have HB5 := hid (HBa.out.grow hgr)
    rw [← HSk.out] at HM5 HG5
    clear hgr ht
    go_wp2
    go_roundw
    case rel => exact ⟨k + 1, As, cs, by omega, by go_num, HB5.out, HM5.out, HG5.out⟩
    case measure => simp [intOf]; omega
  ·have e : k = n1 := by omega
   rw [e, HE.out] at HMa HGa
   have d1 : decide ((k : Int) < (n1 : Int)) = false := decide_eq_false (by omega)
   clear e HLk
   have m8 := HBa.out.at 8
   obtain ⟨x0, x1⟩ := HMa.out.x.c2
   go_wp2_with (refine wpList_store_row rfl 52 (.tmp 2) (.tmp 41) rfl g2 _ rfl rfl _ _ HMa.out.z (by kernel_rfl) rfl (by simp [Value.oneCell']) ?_)
   clear x0 x1 m8
   refine bodyPost_ret (results_cell_row rfl _ _ g2 _ _ (0, 0) _ rfl (HMa.out.z.set _) Tryz.underlying52 rfl (by kernel_rfl)) rfl ?_
   exact ⟨As, cs, rfl, (HGa.out.set (show g2 < base by have := HA.out.b; have := HA.out.a2; omega) _).mono (by have := HA.out.b; have := HA.out.a2; have := HA.out.w2; omega), Grow.set HMa.out.g HA.out.w2 _⟩
theorem word_any (wide big : Bool) (w : World) : Calls Tryz.prog 98 #[.agg #[.bool wide, .bool big]] w fun e w' => e = .returned (.int .i64 (byWide wide 4 8 : Nat)) ∧ Grow w w' := by
 cases wide
 ·go_enter Tryz.func98, Tryz.ntmps98
  go_wp2
  go_ret
  exact ⟨rfl, Grow.of_alloc _ _⟩
 ·go_enter Tryz.func98, Tryz.ntmps98
  go_wp2
  go_ret
  exact ⟨rfl, Grow.of_alloc _ _⟩
theorem headRow_any (wide big : Bool) (w : World) : Calls Tryz.prog 43 #[.agg #[.bool wide, .bool big]] w fun e w' =>
  ∃ g, e = .returned (.slice (some ⟨g, 0, none⟩) 13 13) ∧ Blk w' g 3 (i64s (hRow wide)) ∧ w.heap.size ≤ g ∧ Grow w w' := by
 go_enter Tryz.func43, Tryz.ntmps43
 go_wp2_with fail
 refine (word_any wide big _).mono ?_
 rintro e w1 ⟨rfl, hg⟩
 have HG := hid ((Grow.of_alloc _ _).trans hg)
 clear hg
 go_wp2
 go_ret
 exact ⟨w1.heap.size, rfl, Blk.new _ _ _, HG.out.size, HG.out.trans (Grow.of_alloc _ _)⟩
def horn (r : List UInt8) (k : Nat) : Nat := num (r.take k).reverse
theorem horn_zero (r : List UInt8) : horn r 0 = 0 := by simp [horn, num]
theorem horn_succ (r : List UInt8) (k : Nat) (h : k < r.length) : horn r (k + 1) = 256 * horn r k + r[k].toNat := by
 unfold horn
 rw [take_snoc' r k h, List.reverse_append]
 simp [num]; omega
theorem horn_lt (r : List UInt8) (k : Nat) (h : k ≤ r.length) : horn r k < 256 ^ k := by
 have := num_lt (r.take k).reverse
 rw [List.length_reverse, List.length_take, Nat.min_eq_left h] at this
 exact this
theorem horn_le (r : List UInt8) (k : Nat) (h : k ≤ r.length) (h8 : k ≤ 8) : horn r k ≤ 18446744073709551615 := by
 have h1 := horn_lt r k h
 have h2 : (256 : Nat) ^ k ≤ 256 ^ 8 := Nat.pow_le_pow_right (by omega) h8
 have h3 : (256 : Nat) ^ 8 = 18446744073709551616 := by decide
 omega
set_option maxHeartbeats 400000 in
theorem refGet_yes (b off c : Nat) (l : List UInt8) (p n : Nat) (big : Bool) (w : World) (hw : wid n = true) (hp : p + n ≤ l.length) (hl : l.length ≤ c) (hc : c ≤ maxLen)
  (hcell : ∀ j (h : j < l.length), w.cell? ⟨b, off + j, none⟩ = some (.int .u8 (l[j].toNat : Int))) :
  Calls Tryz.prog 99 #[.slice (some ⟨b, off, none⟩) l.length c, .int .u64 p, .int .i64 n, .bool big] w fun e w' =>
   e = .returned (.tuple #[.int .u64 (getB ((l.drop p).take n) big : Nat), .bool true]) ∧ w = w' := by
 unfold maxLen at hc
 have hn8 : n ≤ 8 := by have := wid_cases hw; omega
 obtain ⟨q, hq⟩ : ∃ q, q = (l.drop p).take n := ⟨_, rfl⟩
 have hql : q.length = n := by rw [hq]; simp; omega
 have hqc : ∀ j (h : j < q.length), w.cell? ⟨b, off + (p + j), none⟩ = some (.int .u8 (q[j].toNat : Int)) := by
  intro j h
  rw [hcell (p + j) (by omega)]
  simp [hq]
 rw [← hq]
 obtain ⟨r, hr⟩ : ∃ r, r = ord (!big) q := ⟨_, rfl⟩
 have hrl : r.length = n := by rw [hr, length_ord, hql]
 have E := hid (show getB q big = horn r n by
  rw [horn, ← hrl, List.take_length, hr]; cases big <;> simp [getB, ord])
 have H := hid hw
 have HL := hid hrl
 cases big
 ·have HC : Hid (∀ k (h : k < r.length), w.cell? ⟨b, off + (p + n - 1 - k), none⟩ = some (.int .u8 (r[k].toNat : Int))) := by
   intro k h
   have e : p + n - 1 - k = p + (n - 1 - k) := by omega
   rw [e, hqc (n - 1 - k) (by omega)]
   congr 3
   subst hr
   simp [ord, hql]
  have hlen : decide (l.length < p) = false := decide_eq_false (by omega)
  clear hw hcell hqc hql hq hr hrl
  go_enter Tryz.func99, Tryz.ntmps99
  go_wp2_with (go_at_call 141; refine (wide_any _ _).mono ?_; rintro e w' ⟨rfl, rfl⟩; rw [H.out])
  clear hlen
  go_loop [12, 13] (fun v i => ∃ k : Nat, k ≤ n ∧ i = .int .i64 k ∧ v = .int .u64 (horn r k : Nat)) (fun _ i => n - (intOf i).toNat)
  case atStart => exact ⟨0, Nat.zero_le _, rfl, by rw [horn_zero]; rfl⟩
  case round =>
   obtain ⟨k, hk, rfl, rfl⟩ := hrel
   by_cases hlt : k < n
   ·have hkr : k < r.length := by rw [HL.out]; exact hlt
    have hs := horn_succ r k hkr
    have hx := horn_le r (k + 1) (by omega) (by omega)
    have hcl := HC.out k hkr
    generalize r[k] = u at hs hcl
    have hu : u.toNat ≤ 255 := by have := u.toNat_lt; omega
    generalize hxk : horn r k = x at hs ⊢
    rw [hs] at hx
    have HS := hid hs
    have i0 : (0 : Int) ≤ (p : Int) + (n : Int) - 1 - (k : Int) := by omega
    have i1 : (p : Int) + (n : Int) - 1 - (k : Int) < (l.length : Int) := by omega
    have i2 : ((p : Int) + (n : Int) - 1 - (k : Int)).toNat = p + n - 1 - k := by omega
    clear hs hkr hxk
    go_wp2
    go_round
    case rel => exact ⟨k + 1, by omega, by go_num, by rw [HS.out]; go_num⟩
    case measure => simp [intOf]; omega
   ·have HE : Hid (getB q false = horn r k) := by
     have e : k = n := by omega
     rw [E.out, e]
     exact hid rfl
    go_wp2
    go_ret2
    exact ⟨by rw [HE.out]; rfl, rfl⟩
 ·have HC : Hid (∀ k (h : k < r.length), w.cell? ⟨b, off + (p + k), none⟩ = some (.int .u8 (r[k].toNat : Int))) := by
   intro k h
   rw [hqc k (by omega)]
   congr 3
   subst hr
   simp
  have hlen : decide (l.length < p) = false := decide_eq_false (by omega)
  clear hw hcell hqc hql hq hr hrl
  go_enter Tryz.func99, Tryz.ntmps99
  go_wp2_with (go_at_call 141; refine (wide_any _ _).mono ?_; rintro e w' ⟨rfl, rfl⟩; rw [H.out])
  clear hlen
  go_loop [12, 13] (fun v i => ∃ k : Nat, k ≤ n ∧ i = .int .i64 k ∧ v = .int .u64 (horn r k : Nat)) (fun _ i => n - (intOf i).toNat)
  case atStart => exact ⟨0, Nat.zero_le _, rfl, by rw [horn_zero]; rfl⟩
  case round =>
   obtain ⟨k, hk, rfl, rfl⟩ := hrel
   by_cases hlt : k < n
   ·have hkr : k < r.length := by rw [HL.out]; exact hlt
    have hs := horn_succ r k hkr
    have hx := horn_le r (k + 1) (by omega) (by omega)
    have hcl := HC.out k hkr
    generalize r[k] = u at hs hcl
    have hu : u.toNat ≤ 255 := by have := u.toNat_lt; omega
    generalize hxk : horn r k = x at hs ⊢
    rw [hs] at hx
    have HS := hid hs
    have i0 : (0 : Int) ≤ (p : Int) + (k : Int) := by omega
    have i1 : (p : Int) + (k : Int) < (l.length : Int) := by omega
    have i2 : ((p : Int) + (k : Int)).toNat = p + k := by omega
    clear hs hkr hxk
    go_wp2
    go_round
    case rel => exact ⟨k + 1, by omega, by go_num, by rw [HS.out]; go_num⟩
    case measure => simp [intOf]; omega
   ·have HE : Hid (getB q true = horn r k) := by
     have e : k = n := by omega
     rw [E.out, e]
     exact hid rfl
    go_wp2
    go_ret2
    exact ⟨by rw [HE.out]; rfl, rfl⟩
theorem refGet_no (A : Option Addr) (len c : Nat) (p n : Int) (big : Bool) (w : World) (hl : len ≤ c) (hc : c ≤ maxLen) (hp : 0 ≤ p) (h : wid n = false ∨ (wid n = true ∧ wthn p n len = false)) :
  Calls Tryz.prog 99 #[.slice A len c, .int .u64 p, .int .i64 n, .bool big] w fun e w' =>
   e = .returned (.tuple #[.int .u64 0, .bool false]) ∧ w = w' := by
 unfold maxLen at hc
 rcases h with h | ⟨h, ht⟩
 ·have H := hid h
  clear h
  go_enter Tryz.func99, Tryz.ntmps99
  go_wp2_with (go_at_call 141; refine (wide_any _ _).mono ?_; rintro e w' ⟨rfl, rfl⟩; rw [H.out])
  go_ret2
  exact ⟨rfl, rfl⟩
 ·obtain ⟨N, rfl⟩ : ∃ N : Nat, n = N := ⟨n.toNat, by have := wid_cases h; omega⟩
  have hn8 : N ≤ 8 := by have := wid_cases h; omega
  have hlt : ¬ p + N ≤ len := of_decide_eq_false ht
  have H := hid h
  clear h ht
  by_cases h1 : (len : Int) < p
  ·go_enter Tryz.func99, Tryz.ntmps99
   go_wp2_with (go_at_call 141; refine (wide_any _ _).mono ?_; rintro e w' ⟨rfl, rfl⟩; rw [H.out])
   go_ret2
   exact ⟨rfl, rfl⟩
  ·have h2 : (len : Int) - p < N := by omega
   go_enter Tryz.func99, Tryz.ntmps99
   go_wp2_with (go_at_call 141; refine (wide_any _ _).mono ?_; rintro e w' ⟨rfl, rfl⟩; rw [H.out])
   go_ret2
   exact ⟨rfl, rfl⟩
theorem refGet_any (A : Option Addr) (len c : Nat) (l : List UInt8) (B : Nat) (p n : Int) (big : Bool) (w : World) (h : RB w B A len c l) (hp : 0 ≤ p) :
  Calls Tryz.prog 99 #[.slice A len c, .int .u64 p, .int .i64 n, .bool big] w fun e w' =>
   e = .returned (.tuple #[.int .u64 (gotV l p n big : Nat), .bool (gotB l p n)]) ∧ w = w' := by
 have hl := h.len
 cases hg : gotB l p n
 ·have e : gotV l p n big = 0 := by simp [gotV, hg]
  rw [e]
  refine refGet_no A len c p n big w h.cap h.max hp ?_
  rw [hl]
  cases hw : wid n
  ·exact .inl rfl
  ·exact .inr ⟨rfl, by simpa [gotB, hw] using hg⟩
 ·have hw : wid n = true ∧ wthn p n l.length = true := by simpa [gotB] using hg
  obtain ⟨N, rfl⟩ : ∃ N : Nat, n = N := ⟨n.toNat, by have := wid_cases hw.1; omega⟩
  obtain ⟨K, rfl⟩ : ∃ N : Nat, p = N := ⟨p.toNat, by omega⟩
  have hN := wid_cases hw.1
  have hpn := of_decide_eq_true hw.2
  obtain ⟨b, off, rfl, _, hcell⟩ := h.pos (by omega)
  have e : gotV l K N big = getB ((l.drop K).take N) big := by simp [gotV, hg]
  rw [e, hl]
  exact refGet_yes b off c l K N big w hw.1 (by omega) (by have := h.cap; omega) h.max hcell
def Numbed (l : List UInt8) (big : Bool) (p : Nat) (ns : List Nat) (w : World) (e : Ending) (w' : World) : Prop :=
 (p + sumN ns ≤ l.length ∧ ∃ A2 c2, e = .returned (.tuple #[.slice A2 ns.length c2, .bool true]) ∧ ON w' w.heap.size 28 .u64 A2 ns.length c2 (nums l big p ns) ∧ Grow w w') ∨
 (l.length < p + sumN ns ∧ e = .returned (.tuple #[.slice none 0 0, .bool false]) ∧ Grow w w')
set_option maxHeartbeats 400000 in
theorem numbersRef_any (A : Option Addr) (len c : Nat) (l : List UInt8) (p : Nat) (A' : Option Addr) (n' c' : Nat) (ns : List Nat) (big : Bool) (w : World)
  (h : RB w w.heap.size A len c l) (h' : NS w w.heap.size .i64 A' n' c' ns) (hp : p < 18446744073709551616) (hw : ∀ k (h : k < ns.length), wid ns[k] = true) (h0 : 0 < ns.length) (hfew : ns.length ≤ 100) :
  Calls Tryz.prog 44 #[.slice A len c, .int .u64 p, .slice A' n' c', .bool big] w (Numbed l big p ns w) := by
 have hn' := h'.len
 have hn : len = l.length := h.len
 have hmx := h.max
 have hcp := h.cap
 unfold maxLen at hmx
 have HN := hid hn
 have HN' := hid hn'
 have HR := hid h
 have HS := hid h'
 have HW := hid hw
 have hn100 : n' ≤ 100 := by omega
 have hn0 : 0 < n' := by omega
 clear h h' hw hn hn' hfew h0
 obtain ⟨b', off', rfl, hb1', hc1'⟩ := HS.out.pos hn0
 have HC := hid hc1'
 clear hc1'
 go_enter Tryz.func44, Tryz.ntmps44
 go_wp2_with fail
 go_loopw [1, 10, 11] (fun a x i wr => ∃ (k : Nat) (A2 : Option Addr) (c2 at' : Nat), k ≤ n' ∧ i = .int .i64 k ∧ a = .int .u64 at' ∧ x = .slice A2 k c2 ∧ at' = p + sumN (ns.take k) ∧ at' < 18446744073709551616 ∧ (0 < k → at' ≤ len) ∧
  ON wr w.heap.size 28 .u64 A2 k c2 (nums l big p (ns.take k)) ∧ Below w.heap.size w wr) (fun _ _ i _ => n' - (intOf i).toNat)
 case atStart => exact ⟨0, none, 0, p, Nat.zero_le _, rfl, rfl, rfl, rfl, hp, fun h => absurd h (Nat.lt_irrefl 0), ON.nil, Below.refl _ _⟩
 case round =>
  obtain ⟨k, A2, c2, at', hk, rfl, rfl, rfl, ha, ha64, hal, ho, hb⟩ := hrel
  by_cases hlt : k < n'
  ·have hkq : k < ns.length := by rw [← HN'.out]; exact hlt
   have y2 : wr.cell? ⟨b', off' + k, none⟩ = some (.int .i64 (ns[k] : Int)) := (hb.cell hb1').trans (HC.out k hkq)
   have HM := hid (nums_succ l big ns p k hkq)
   have HU := hid (sumN_succ ns k hkq)
   have HWk := hid (HW.out k hkq)
   have HLE := hid (sumN_le ns (k + 1))
   have HA := hid ha
   have HAL := hid hal
   have HO := hid ho
   have HG := hid hb
   rw [← HA.out] at HM
   have hw8 : ns[k] ≤ 8 := by have := wid_cases HWk.out; omega
   have HC2 : Hid (w.cell? ⟨b', off' + k, none⟩ = some (.int .i64 (ns[k] : Int))) := HC.out k hkq
   generalize ns[k] = m at y2 HM HU HWk hw8 HC2
   have z1 : (0 : Int) ≤ (k : Int) := by omega
   have z3 : (k : Int) < (n' : Int) := by omega
   clear ha hal ho hb
   have HR1 : Hid (RB wr w.heap.size A len c l) := HR.out.belowAt HG.out (Nat.le_refl _)
   go_wp2_with fail
   refine (refGet_any A len c l _ at' m big _ HR1.out (by omega)).mono ?_
   rintro e w2 ⟨rfl, rfl⟩
   clear y2
   have hg : gotB l at' m = decide (at' + m ≤ len) := by
    simp only [gotB, HWk.out, Bool.true_and, wthn, HN.out]
    rw [Bool.eq_iff_iff, decide_eq_true_iff, decide_eq_true_iff]; omega
   by_cases hin : at' + m ≤ len
   ·have hv : gotV l at' m big = getB ((l.drop at').take m) big := by
     simp only [gotV, hg, hin, decide_true, if_true, Int.toNat_natCast]
    have hgt : gotB l at' m = true := by rw [hg]; exact decide_eq_true hin
    rw [hgt, hv]
    generalize getB ((l.drop at').take m) big = v at HM ⊢
    have HIN := hid hin
    clear hin hg hgt hv HR1
    go_wp2_with (at_builtin; refine wpList_append1 _ rfl (.tmp 33) (.tmp 35) 36 rfl w.heap.size 28 .u64 8 Tryz.underlying36 (by kernel_rfl) A2 k c2 _ rfl (HO.out.keep (Grow.of_alloc _ _)) wr.heap.size _ v rfl (Blk.new _ _ _) (by unfold maxLen; omega) (by omega) (by have := HG.out.size; simp; omega) ?_; intro A3 c3 w3 ho3 hb3; have HG3 : Hid (Below w.heap.size w w3) := (HG.out.trans ((Grow.of_alloc wr _).mono HG.out.size)).trans hb3; have HO3 := hid ho3; have y3 : w3.cell? ⟨b', off' + k, none⟩ = some (.int .i64 (m : Int)) := (HG3.out.cell hb1').trans (HC2.out); have hin2 := HIN.out; clear ho3 hb3)
    go_roundw
    case rel => exact ⟨k + 1, A3, c3, at' + m, by omega, by go_num, by go_num, rfl, by rw [HU.out, HA.out]; omega, by omega, fun _ => HIN.out, by rw [HM.out]; exact HO3.out, HG3.out⟩
    case measure => simp [intOf]; omega
   ·have hgt : gotB l at' m = false := by rw [hg]; exact decide_eq_false hin
    rw [hgt]
    have HF : Hid (l.length < p + sumN ns) := by
     have e2 := HU.out; have e3 := HA.out; have e4 := HN.out
     have e1 : sumN (ns.take k) + m ≤ sumN ns := by rw [← e2]; exact HLE.out
     exact hid (by omega)
    clear hin hg hgt
    go_wp2
    go_ret2
    exact .inr ⟨HF.out, rfl, HG.out⟩
  ·have HK : Hid (ns.take k = ns) := by
    have e : k = n' := by omega
    rw [e, HN'.out]
    exact List.take_length
   have HKn : Hid (k = ns.length) := by rw [← HN'.out]; exact (by omega : k = n')
   rw [HK.out] at ho ha
   have HF : Hid (p + sumN ns ≤ l.length) := by
    have e4 := HN.out
    rw [← ha, ← e4]; exact hal (by omega)
   have HO := hid ho
   have HG := hid hb
   clear ho hb ha hal
   go_wp2
   go_ret2
   exact .inl ⟨HF.out, A2, c2, by rw [← HKn.out]; rfl, by rw [← HKn.out]; exact HO.out, HG.out⟩
theorem sumRef_any (A : Option Addr) (n c : Nat) (ns : List Nat) (w : World) (h : NS w w.heap.size .i64 A n c ns) (hn : ns.length ≤ 100) (hw : ∀ k (h : k < ns.length), ns[k] ≤ 8) :
  Calls Tryz.prog 45 #[.slice A n c] w fun e w' => e = .returned (.int .i64 (sumN ns : Nat)) ∧ w = w' := by
 have HN := hid h.len
 have HS := hid h
 have HW := hid hw
 have hn100 : n ≤ 100 := by rw [h.len]; exact hn
 clear h hw hn
 go_enter Tryz.func45, Tryz.ntmps45
 go_wp2_with fail
 go_loop [3, 4] (fun x i => ∃ k s : Nat, k ≤ n ∧ i = .int .i64 k ∧ x = .int .i64 s ∧ s = sumN (ns.take k) ∧ s ≤ 8 * k) (fun _ i => n - (intOf i).toNat)
 case atStart => exact ⟨0, 0, Nat.zero_le _, rfl, rfl, rfl, by omega⟩
 case round =>
  obtain ⟨k, s, hk, rfl, rfl, hs, hs8⟩ := hrel
  have HSum := hid hs
  clear hs
  by_cases hlt : k < n
  ·have hkq : k < ns.length := by rw [← HN.out]; exact hlt
   obtain ⟨b, off, rfl, hb1, hc1⟩ := HS.out.pos (by omega)
   have y := hc1 k hkq
   have HU := hid (sumN_succ ns k hkq)
   have hm := HW.out k hkq
   generalize ns[k] = m at y HU hm
   have z1 : (0 : Int) ≤ (k : Int) := by omega
   have z2 : (k : Int) < (n : Int) := by omega
   clear hc1 hkq
   go_wp2
   go_round
   case rel => exact ⟨k + 1, s + m, by omega, by go_num, by go_num, by rw [HU.out, HSum.out], by omega⟩
   case measure => simp [intOf]; omega
  ·have HK : Hid (s = sumN ns) := by
    have e : k = n := by omega
    rw [HSum.out, e, HN.out]
    exact congrArg sumN List.take_length
   go_wp2
   go_ret
   exact ⟨by rw [← HK.out]; rfl, rfl⟩
end Go.Proofs.YtfglppjilcaafaaGreatDoor
