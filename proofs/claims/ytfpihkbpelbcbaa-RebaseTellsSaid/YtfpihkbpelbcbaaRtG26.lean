/-
  Several texts in one: The contract of the document's own Same at two readings of one model; The walk of RebaseTells; From what the frame tells of a slice of bytes that came in to RB; What came in as a number, and as a slice of bytes, opened; What came in as a form, opened.
-/
import Derived.Test.YtfpihkbpelbcbaaRtG2
import Derived.Test.YtfpihkbpelbcbaaRtG4
import Derived.Test.YtfpihkbpelbcbaaRtG1
import Derived.Test.YtfpihkbpelbcbaaRtG3
import Derived.Test.YtfpihkbpelbcbaaRows
import Derived.Laws.Bits64b
import Derived.Laws.Bits128
import Derived.WalkKit
import Derived.Lib.Hide
import Derived.Test.YtfpihkbpelbcbaaRtG16
import Derived.Test.YtfpihkbpelbcbaaRtG23
import Derived.Test.YtfpihkbpelbcbaaRtG25
import Derived.Test.YtfpihkbpelbcbaaRtG15
import Derived.OpenShut
import Derived.Deep.SlicePairs
import Derived.Lib.SmallJoins
namespace Go.Proofs.Ytfpihkbpelbcbaa
open Go.Lib (hid)
open Go.RowKit
set_option maxRecDepth 100000
set_option linter.unusedVariables false
set_option maxHeartbeats 4000000 in
theorem rSamePlace_any (p : Pl) (A A' : Option Addr) (n c n' c' : Nat) (w : World) (h : RB w w.heap.size A n c p.own) (h' : RB w w.heap.size A' n' c' p.own) :
  Calls Try.prog 31 #[.agg (plC p (.slice A n c)), .agg (plC p (.slice A' n' c'))] w fun e w' => e = .returned (.bool true) ∧ Grow w w' := by
 have hs1 := (h.grow ((Grow.of_alloc w (.cells (plC p (.slice A n c)) 46)).trans (Grow.of_alloc _ (.cells (plC p (.slice A' n' c')) 46)))).conv (Nat.le_refl _) _ (Grow.refl _)
 have hs2 := (h'.grow ((Grow.of_alloc w (.cells (plC p (.slice A n c)) 46)).trans (Grow.of_alloc _ (.cells (plC p (.slice A' n' c')) 46)))).conv (Nat.le_refl _) _ (Grow.refl _)
 unfold plC at hs1 hs2 ⊢
 clear h h'
 generalize p.inn = i at *
 generalize p.off = o at *
 generalize p.size = z at *
 go_enter Try.func31, Try.ntmps31
 go_wp2
 go_ret
 exact ⟨rfl, (Grow.of_alloc _ _).trans (Grow.of_alloc _ _)⟩
set_option maxHeartbeats 20000000 in
theorem rSame_any (m : Md) (A1 A2 A3 A4 : Option Addr) (n1 c1 n2 c2 n3 c3 n4 c4 : Nat) (w : World) (g1 : ZR sgK w w.heap.size A1 n1 c1 m.segs) (g2 : ZR seK w w.heap.size A2 n2 c2 m.secs) (g3 : ZR sgK w w.heap.size A3 n3 c3 m.segs) (g4 : ZR seK w w.heap.size A4 n4 c4 m.secs) :
  Calls Try.prog 9 #[.agg (mdC m (.slice A1 n1 c1) (.slice A2 n2 c2)), .agg (mdC m (.slice A3 n3 c3) (.slice A4 n4 c4))] w fun e w' => e = .returned (.bool true) ∧ Grow w w' := by
 obtain rfl : n1 = n3 := g1.len.trans g3.len.symm
 obtain rfl : n2 = n4 := g2.len.trans g4.len.symm
 have H1 := hid g1
 have H2 := hid g2
 have H3 := hid g3
 have H4 := hid g4
 have HL1 := hid g1.len
 have HL2 := hid g2.len
 have a1 := g1.cap
 have a2 := g1.max
 have a3 := g2.cap
 have a4 := g2.max
 have a5 := g3.cap
 have a6 := g3.max
 have a7 := g4.cap
 have a8 := g4.max
 unfold maxLen at a2 a4 a6 a8
 unfold mdC
 clear g1 g2 g3 g4
 generalize m.segs = L1 at *
 generalize m.secs = L2 at *
 generalize m.wide = f0
 generalize m.big = f1
 generalize m.osabi = f2
 generalize m.abi = f3
 generalize m.typ = f4
 generalize m.mach = f5
 generalize m.flags = f6
 generalize m.entry = f7
 generalize m.str = f10
 go_enter Try.func9, Try.ntmps9
 apply wp_seq_k
 intro K hK
 have HK := hid hK
 clear hK
 go_wp2
 apply HK.out
 clear HK
 clear K
 generalize hW : World.alloc _ _ = W0
 obtain ⟨b1, b2, hg0⟩ := blk2 hW
 clear hW
 have HX := hid b1
 have HY := hid b2
 have HW := hid hg0
 clear b1 b2 hg0
 generalize w.heap.size + 1 = gy at HY ⊢
 obtain ⟨gx, hgx⟩ : ∃ g, g = w.heap.size := ⟨_, rfl⟩
 rw [← hgx] at HX ⊢
 clear hgx
 obtain ⟨x0, x1, x2, x3, x4, x5, x6, x7, x8, x9, x10⟩ := HX.out.c11
 obtain ⟨y0, y1, y2, y3, y4, y5, y6, y7, y8, y9, y10⟩ := HY.out.c11
 go_wp2_with fail
 clear x0 x1 x2 x3 x4 x5 x6 x7 x8 x9 x10 y0 y1 y2 y3 y4 y5 y6 y7 y8 y9 y10
 go_loopw [5] (fun i wr => ∃ k : Nat, k ≤ n1 ∧ i = .int .i64 k ∧ Blk wr gx 32 #[.bool f0, .bool f1, .int .u8 (f2 : Nat), .int .u8 (f3 : Nat), .int .u16 (f4 : Nat), .int .u16 (f5 : Nat), .int .u32 (f6 : Nat), .int .u64 (f7 : Nat), .slice A1 n1 c1, .slice A2 n2 c2, .int .i64 f10] ∧ Blk wr gy 32 #[.bool f0, .bool f1, .int .u8 (f2 : Nat), .int .u8 (f3 : Nat), .int .u16 (f4 : Nat), .int .u16 (f5 : Nat), .int .u32 (f6 : Nat), .int .u64 (f7 : Nat), .slice A3 n1 c3, .slice A4 n2 c4, .int .i64 f10] ∧ Grow w wr) (fun i _ => n1 - (intOf i).toNat)
 case atStart => exact ⟨0, Nat.zero_le _, rfl, HX.out, HY.out, HW.out⟩
 case round =>
  obtain ⟨k, hk, rfl, hx, hy, hg⟩ := hrel
  have HX1 := hid hx
  have HY1 := hid hy
  have HW1 := hid hg
  clear hx hy hg HX HY HW
  by_cases hlt : k < n1
  ·have hkl : k < L1.length := by rw [← HL1.out]; exact hlt
   obtain ⟨b, off, hAA, hb⟩ := H1.out.pos (by omega)
   obtain ⟨bb, off2, hAB, hbb⟩ := H3.out.pos (by omega)
   subst hAA
   subst hAB
   obtain ⟨B1, k1, e1, -, p, g1⟩ := H1.out.at hkl
   obtain ⟨B3, k3, e3, -, r, g3⟩ := H3.out.at hkl
   have p' : ∀ i v, (sgC L1[k] (.slice B1 k1 e1))[i]? = some v → wr.cell? ⟨b, off + k * 10 + i, none⟩ = some v := fun i v hv => (Below.cell HW1.out hb).trans (p i v hv)
   have r' : ∀ i v, (sgC L1[k] (.slice B3 k3 e3))[i]? = some v → wr.cell? ⟨bb, off2 + k * 10 + i, none⟩ = some v := fun i v hv => (Below.cell HW1.out hbb).trans (r i v hv)
   have HSp := hid (fun W (hW : Grow w W) => rSamePlace_any L1[k].pl B1 B3 k1 e1 k3 e3 W ((g1.belowAt hW (Nat.le_refl _)).more hW.size) ((g3.belowAt hW (Nat.le_refl _)).more hW.size))
   have HB := hid (Nat.lt_of_lt_of_le hb HW1.out.size)
   have HBB := hid (Nat.lt_of_lt_of_le hbb HW1.out.size)
   unfold sgC at p' r'
   unfold plC at HSp
   clear p r g1 g3
   generalize L1[k] = s at p' r' HSp
   clear hkl
   have s0 : wr.cell? ⟨b, off + k * 10, none⟩ = _ := p' 0 _ rfl
   have s1 : wr.cell? ⟨b, off + k * 10 + 1, none⟩ = _ := p' 1 _ rfl
   have s2 : wr.cell? ⟨b, off + k * 10 + 2, none⟩ = _ := p' 2 _ rfl
   have s3 : wr.cell? ⟨b, off + k * 10 + 3, none⟩ = _ := p' 3 _ rfl
   have s4 : wr.cell? ⟨b, off + k * 10 + 4, none⟩ = _ := p' 4 _ rfl
   have s5 : wr.cell? ⟨b, off + k * 10 + 5, none⟩ = _ := p' 5 _ rfl
   have s6 : wr.cell? ⟨b, off + k * 10 + 6, none⟩ = _ := p' 6 _ rfl
   have s7 : wr.cell? ⟨b, off + k * 10 + 7, none⟩ = _ := p' 7 _ rfl
   have s8 : wr.cell? ⟨b, off + k * 10 + 8, none⟩ = _ := p' 8 _ rfl
   have s9 : wr.cell? ⟨b, off + k * 10 + 9, none⟩ = _ := p' 9 _ rfl
   have t0 : wr.cell? ⟨bb, off2 + k * 10, none⟩ = _ := r' 0 _ rfl
   have t1 : wr.cell? ⟨bb, off2 + k * 10 + 1, none⟩ = _ := r' 1 _ rfl
   have t2 : wr.cell? ⟨bb, off2 + k * 10 + 2, none⟩ = _ := r' 2 _ rfl
   have t3 : wr.cell? ⟨bb, off2 + k * 10 + 3, none⟩ = _ := r' 3 _ rfl
   have t4 : wr.cell? ⟨bb, off2 + k * 10 + 4, none⟩ = _ := r' 4 _ rfl
   have t5 : wr.cell? ⟨bb, off2 + k * 10 + 5, none⟩ = _ := r' 5 _ rfl
   have t6 : wr.cell? ⟨bb, off2 + k * 10 + 6, none⟩ = _ := r' 6 _ rfl
   have t7 : wr.cell? ⟨bb, off2 + k * 10 + 7, none⟩ = _ := r' 7 _ rfl
   have t8 : wr.cell? ⟨bb, off2 + k * 10 + 8, none⟩ = _ := r' 8 _ rfl
   have t9 : wr.cell? ⟨bb, off2 + k * 10 + 9, none⟩ = _ := r' 9 _ rfl
   have r2 : ∀ i v, (#[.int .u32 (s.typ : Nat), .int .u32 (s.flags : Nat), .int .u64 (s.vaddr : Nat), .int .u64 (s.paddr : Nat), .int .u64 (s.memsz : Nat), .int .u64 (s.align : Nat), .int .i64 s.pl.inn, .int .u64 (s.pl.off : Nat), .int .u64 (s.pl.size : Nat), .slice B3 k3 e3] : Array Value)[i]? = some v → (wr.alloc (.cells #[.int .u32 (s.typ : Nat), .int .u32 (s.flags : Nat), .int .u64 (s.vaddr : Nat), .int .u64 (s.paddr : Nat), .int .u64 (s.memsz : Nat), .int .u64 (s.align : Nat), .int .i64 s.pl.inn, .int .u64 (s.pl.off : Nat), .int .u64 (s.pl.size : Nat), .slice B1 k1 e1] 48)).cell? ⟨bb, off2 + k * 10 + i, none⟩ = some v := fun i v hv => (Below.cell (Grow.of_alloc wr _) HBB.out).trans (r' i v hv)
   have u0 : (wr.alloc (.cells #[.int .u32 (s.typ : Nat), .int .u32 (s.flags : Nat), .int .u64 (s.vaddr : Nat), .int .u64 (s.paddr : Nat), .int .u64 (s.memsz : Nat), .int .u64 (s.align : Nat), .int .i64 s.pl.inn, .int .u64 (s.pl.off : Nat), .int .u64 (s.pl.size : Nat), .slice B1 k1 e1] 48)).cell? ⟨bb, off2 + k * 10, none⟩ = _ := r2 0 _ rfl
   have u1 : (wr.alloc (.cells #[.int .u32 (s.typ : Nat), .int .u32 (s.flags : Nat), .int .u64 (s.vaddr : Nat), .int .u64 (s.paddr : Nat), .int .u64 (s.memsz : Nat), .int .u64 (s.align : Nat), .int .i64 s.pl.inn, .int .u64 (s.pl.off : Nat), .int .u64 (s.pl.size : Nat), .slice B1 k1 e1] 48)).cell? ⟨bb, off2 + k * 10 + 1, none⟩ = _ := r2 1 _ rfl
   have u2 : (wr.alloc (.cells #[.int .u32 (s.typ : Nat), .int .u32 (s.flags : Nat), .int .u64 (s.vaddr : Nat), .int .u64 (s.paddr : Nat), .int .u64 (s.memsz : Nat), .int .u64 (s.align : Nat), .int .i64 s.pl.inn, .int .u64 (s.pl.off : Nat), .int .u64 (s.pl.size : Nat), .slice B1 k1 e1] 48)).cell? ⟨bb, off2 + k * 10 + 2, none⟩ = _ := r2 2 _ rfl
   have u3 : (wr.alloc (.cells #[.int .u32 (s.typ : Nat), .int .u32 (s.flags : Nat), .int .u64 (s.vaddr : Nat), .int .u64 (s.paddr : Nat), .int .u64 (s.memsz : Nat), .int .u64 (s.align : Nat), .int .i64 s.pl.inn, .int .u64 (s.pl.off : Nat), .int .u64 (s.pl.size : Nat), .slice B1 k1 e1] 48)).cell? ⟨bb, off2 + k * 10 + 3, none⟩ = _ := r2 3 _ rfl
   have u4 : (wr.alloc (.cells #[.int .u32 (s.typ : Nat), .int .u32 (s.flags : Nat), .int .u64 (s.vaddr : Nat), .int .u64 (s.paddr : Nat), .int .u64 (s.memsz : Nat), .int .u64 (s.align : Nat), .int .i64 s.pl.inn, .int .u64 (s.pl.off : Nat), .int .u64 (s.pl.size : Nat), .slice B1 k1 e1] 48)).cell? ⟨bb, off2 + k * 10 + 4, none⟩ = _ := r2 4 _ rfl
   have u5 : (wr.alloc (.cells #[.int .u32 (s.typ : Nat), .int .u32 (s.flags : Nat), .int .u64 (s.vaddr : Nat), .int .u64 (s.paddr : Nat), .int .u64 (s.memsz : Nat), .int .u64 (s.align : Nat), .int .i64 s.pl.inn, .int .u64 (s.pl.off : Nat), .int .u64 (s.pl.size : Nat), .slice B1 k1 e1] 48)).cell? ⟨bb, off2 + k * 10 + 5, none⟩ = _ := r2 5 _ rfl
   have u6 : (wr.alloc (.cells #[.int .u32 (s.typ : Nat), .int .u32 (s.flags : Nat), .int .u64 (s.vaddr : Nat), .int .u64 (s.paddr : Nat), .int .u64 (s.memsz : Nat), .int .u64 (s.align : Nat), .int .i64 s.pl.inn, .int .u64 (s.pl.off : Nat), .int .u64 (s.pl.size : Nat), .slice B1 k1 e1] 48)).cell? ⟨bb, off2 + k * 10 + 6, none⟩ = _ := r2 6 _ rfl
   have u7 : (wr.alloc (.cells #[.int .u32 (s.typ : Nat), .int .u32 (s.flags : Nat), .int .u64 (s.vaddr : Nat), .int .u64 (s.paddr : Nat), .int .u64 (s.memsz : Nat), .int .u64 (s.align : Nat), .int .i64 s.pl.inn, .int .u64 (s.pl.off : Nat), .int .u64 (s.pl.size : Nat), .slice B1 k1 e1] 48)).cell? ⟨bb, off2 + k * 10 + 7, none⟩ = _ := r2 7 _ rfl
   have u8 : (wr.alloc (.cells #[.int .u32 (s.typ : Nat), .int .u32 (s.flags : Nat), .int .u64 (s.vaddr : Nat), .int .u64 (s.paddr : Nat), .int .u64 (s.memsz : Nat), .int .u64 (s.align : Nat), .int .i64 s.pl.inn, .int .u64 (s.pl.off : Nat), .int .u64 (s.pl.size : Nat), .slice B1 k1 e1] 48)).cell? ⟨bb, off2 + k * 10 + 8, none⟩ = _ := r2 8 _ rfl
   have u9 : (wr.alloc (.cells #[.int .u32 (s.typ : Nat), .int .u32 (s.flags : Nat), .int .u64 (s.vaddr : Nat), .int .u64 (s.paddr : Nat), .int .u64 (s.memsz : Nat), .int .u64 (s.align : Nat), .int .i64 s.pl.inn, .int .u64 (s.pl.off : Nat), .int .u64 (s.pl.size : Nat), .slice B1 k1 e1] 48)).cell? ⟨bb, off2 + k * 10 + 9, none⟩ = _ := r2 9 _ rfl
   have m8 := HX1.out.at 8
   have y8 := HY1.out.at 8
   have y8a := (HY1.out.grow (Grow.of_alloc wr (.cells #[.int .u32 (s.typ : Nat), .int .u32 (s.flags : Nat), .int .u64 (s.vaddr : Nat), .int .u64 (s.paddr : Nat), .int .u64 (s.memsz : Nat), .int .u64 (s.align : Nat), .int .i64 s.pl.inn, .int .u64 (s.pl.off : Nat), .int .u64 (s.pl.size : Nat), .slice B1 k1 e1] 48))).at 8
   clear p' r' r2
   have w0 : (0 : Int) ≤ (k : Int) := by omega
   have w1 : (k : Int) < (n1 : Int) := by omega
   have d1 : decide ((k : Int) < (n1 : Int)) = true := decide_eq_true (by omega)
   go_wp2_with fail
   generalize hW : World.alloc _ _ = W5
   obtain ⟨b5, b6, hg⟩ := blk2 hW
   clear hW d1 m8 y8 y8a s0 s1 s2 s3 s4 s5 s6 s7 s8 s9 t0 t1 t2 t3 t4 t5 t6 t7 t8 t9 u0 u1 u2 u3 u4 u5 u6 u7 u8 u9
   have HX2 := hid (HX1.out.grow hg)
   have HY2 := hid (HY1.out.grow hg)
   have HW2 : Hid (Grow w W5) := hid (HW1.out.trans hg)
   have H5 := hid b5
   have H6 := hid b6
   clear b5 b6 hg HX1 HY1 HW1
   generalize wr.heap.size + 1 = g6 at H6 ⊢
   generalize wr.heap.size = g5 at H5 ⊢
   refine (HSp.out _ HW2.out).mono ?_
   rintro e w6 ⟨rfl, hg⟩
   have HX3 := hid (HX2.out.grow hg)
   have HY3 := hid (HY2.out.grow hg)
   have HW3 : Hid (Grow w w6) := hid (HW2.out.trans hg)
   obtain ⟨s0, s1, s2, s3, s4, s5, s6, s7, s8, s9⟩ := (H5.out.grow hg).c10
   obtain ⟨t0, t1, t2, t3, t4, t5, t6, t7, t8, t9⟩ := (H6.out.grow hg).c10
   clear hg HX2 HY2 HW2 H5 H6 HSp
   go_wp2
   go_roundw
   case rel => exact ⟨k + 1, by omega, by go_num, HX3.out, HY3.out, HW3.out⟩
   case measure => simp [intOf]; omega
  ·have d1 : decide ((k : Int) < (n1 : Int)) = false := decide_eq_false (by omega)
   have m8 := HX1.out.at 8
   have m9 := HX1.out.at 9
   have HX := HX1
   have HY := HY1
   have HW := HW1
   clear HX1 HY1 HW1
   generalize wr = wz at *
   go_wp2_with fail
   clear d1 m8 m9
   go_loopw [9] (fun i wr => ∃ k : Nat, k ≤ n2 ∧ i = .int .i64 k ∧ Blk wr gx 32 #[.bool f0, .bool f1, .int .u8 (f2 : Nat), .int .u8 (f3 : Nat), .int .u16 (f4 : Nat), .int .u16 (f5 : Nat), .int .u32 (f6 : Nat), .int .u64 (f7 : Nat), .slice A1 n1 c1, .slice A2 n2 c2, .int .i64 f10] ∧ Blk wr gy 32 #[.bool f0, .bool f1, .int .u8 (f2 : Nat), .int .u8 (f3 : Nat), .int .u16 (f4 : Nat), .int .u16 (f5 : Nat), .int .u32 (f6 : Nat), .int .u64 (f7 : Nat), .slice A3 n1 c3, .slice A4 n2 c4, .int .i64 f10] ∧ Grow w wr) (fun i _ => n2 - (intOf i).toNat)
   case atStart => exact ⟨0, Nat.zero_le _, rfl, HX.out, HY.out, HW.out⟩
   case round =>
    obtain ⟨k, hk, rfl, hx, hy, hg⟩ := hrel
    have HX1 := hid hx
    have HY1 := hid hy
    have HW1 := hid hg
    clear hx hy hg HX HY HW
    by_cases hlt : k < n2
    ·have hkl : k < L2.length := by rw [← HL2.out]; exact hlt
     obtain ⟨b, off, hAA, hb⟩ := H2.out.pos (by omega)
     obtain ⟨bb, off2, hAB, hbb⟩ := H4.out.pos (by omega)
     subst hAA
     subst hAB
     obtain ⟨B1, k1, e1, -, p, g1⟩ := H2.out.at hkl
     obtain ⟨B3, k3, e3, -, r, g3⟩ := H4.out.at hkl
     have p' : ∀ i v, (seC L2[k] (.slice B1 k1 e1))[i]? = some v → wr.cell? ⟨b, off + k * 13 + i, none⟩ = some v := fun i v hv => (Below.cell HW1.out hb).trans (p i v hv)
     have r' : ∀ i v, (seC L2[k] (.slice B3 k3 e3))[i]? = some v → wr.cell? ⟨bb, off2 + k * 13 + i, none⟩ = some v := fun i v hv => (Below.cell HW1.out hbb).trans (r i v hv)
     have HSp := hid (fun W (hW : Grow w W) => rSamePlace_any L2[k].pl B1 B3 k1 e1 k3 e3 W ((g1.belowAt hW (Nat.le_refl _)).more hW.size) ((g3.belowAt hW (Nat.le_refl _)).more hW.size))
     have HB := hid (Nat.lt_of_lt_of_le hb HW1.out.size)
     have HBB := hid (Nat.lt_of_lt_of_le hbb HW1.out.size)
     unfold seC at p' r'
     unfold plC at HSp
     clear p r g1 g3
     generalize L2[k] = s at p' r' HSp
     clear hkl
     have s0 : wr.cell? ⟨b, off + k * 13, none⟩ = _ := p' 0 _ rfl
     have s1 : wr.cell? ⟨b, off + k * 13 + 1, none⟩ = _ := p' 1 _ rfl
     have s2 : wr.cell? ⟨b, off + k * 13 + 2, none⟩ = _ := p' 2 _ rfl
     have s3 : wr.cell? ⟨b, off + k * 13 + 3, none⟩ = _ := p' 3 _ rfl
     have s4 : wr.cell? ⟨b, off + k * 13 + 4, none⟩ = _ := p' 4 _ rfl
     have s5 : wr.cell? ⟨b, off + k * 13 + 5, none⟩ = _ := p' 5 _ rfl
     have s6 : wr.cell? ⟨b, off + k * 13 + 6, none⟩ = _ := p' 6 _ rfl
     have s7 : wr.cell? ⟨b, off + k * 13 + 7, none⟩ = _ := p' 7 _ rfl
     have s8 : wr.cell? ⟨b, off + k * 13 + 8, none⟩ = _ := p' 8 _ rfl
     have s9 : wr.cell? ⟨b, off + k * 13 + 9, none⟩ = _ := p' 9 _ rfl
     have s10 : wr.cell? ⟨b, off + k * 13 + 10, none⟩ = _ := p' 10 _ rfl
     have s11 : wr.cell? ⟨b, off + k * 13 + 11, none⟩ = _ := p' 11 _ rfl
     have s12 : wr.cell? ⟨b, off + k * 13 + 12, none⟩ = _ := p' 12 _ rfl
     have t0 : wr.cell? ⟨bb, off2 + k * 13, none⟩ = _ := r' 0 _ rfl
     have t1 : wr.cell? ⟨bb, off2 + k * 13 + 1, none⟩ = _ := r' 1 _ rfl
     have t2 : wr.cell? ⟨bb, off2 + k * 13 + 2, none⟩ = _ := r' 2 _ rfl
     have t3 : wr.cell? ⟨bb, off2 + k * 13 + 3, none⟩ = _ := r' 3 _ rfl
     have t4 : wr.cell? ⟨bb, off2 + k * 13 + 4, none⟩ = _ := r' 4 _ rfl
     have t5 : wr.cell? ⟨bb, off2 + k * 13 + 5, none⟩ = _ := r' 5 _ rfl
     have t6 : wr.cell? ⟨bb, off2 + k * 13 + 6, none⟩ = _ := r' 6 _ rfl
     have t7 : wr.cell? ⟨bb, off2 + k * 13 + 7, none⟩ = _ := r' 7 _ rfl
     have t8 : wr.cell? ⟨bb, off2 + k * 13 + 8, none⟩ = _ := r' 8 _ rfl
     have t9 : wr.cell? ⟨bb, off2 + k * 13 + 9, none⟩ = _ := r' 9 _ rfl
     have t10 : wr.cell? ⟨bb, off2 + k * 13 + 10, none⟩ = _ := r' 10 _ rfl
     have t11 : wr.cell? ⟨bb, off2 + k * 13 + 11, none⟩ = _ := r' 11 _ rfl
     have t12 : wr.cell? ⟨bb, off2 + k * 13 + 12, none⟩ = _ := r' 12 _ rfl
     have r2 : ∀ i v, (#[.int .u32 (s.name : Nat), .int .u32 (s.typ : Nat), .int .u64 (s.flags : Nat), .int .u64 (s.addr : Nat), .int .u64 (s.size : Nat), .int .u32 (s.link : Nat), .int .u32 (s.info : Nat), .int .u64 (s.align : Nat), .int .u64 (s.entsize : Nat), .int .i64 s.pl.inn, .int .u64 (s.pl.off : Nat), .int .u64 (s.pl.size : Nat), .slice B3 k3 e3] : Array Value)[i]? = some v → (wr.alloc (.cells #[.int .u32 (s.name : Nat), .int .u32 (s.typ : Nat), .int .u64 (s.flags : Nat), .int .u64 (s.addr : Nat), .int .u64 (s.size : Nat), .int .u32 (s.link : Nat), .int .u32 (s.info : Nat), .int .u64 (s.align : Nat), .int .u64 (s.entsize : Nat), .int .i64 s.pl.inn, .int .u64 (s.pl.off : Nat), .int .u64 (s.pl.size : Nat), .slice B1 k1 e1] 50)).cell? ⟨bb, off2 + k * 13 + i, none⟩ = some v := fun i v hv => (Below.cell (Grow.of_alloc wr _) HBB.out).trans (r' i v hv)
     have u0 : (wr.alloc (.cells #[.int .u32 (s.name : Nat), .int .u32 (s.typ : Nat), .int .u64 (s.flags : Nat), .int .u64 (s.addr : Nat), .int .u64 (s.size : Nat), .int .u32 (s.link : Nat), .int .u32 (s.info : Nat), .int .u64 (s.align : Nat), .int .u64 (s.entsize : Nat), .int .i64 s.pl.inn, .int .u64 (s.pl.off : Nat), .int .u64 (s.pl.size : Nat), .slice B1 k1 e1] 50)).cell? ⟨bb, off2 + k * 13, none⟩ = _ := r2 0 _ rfl
     have u1 : (wr.alloc (.cells #[.int .u32 (s.name : Nat), .int .u32 (s.typ : Nat), .int .u64 (s.flags : Nat), .int .u64 (s.addr : Nat), .int .u64 (s.size : Nat), .int .u32 (s.link : Nat), .int .u32 (s.info : Nat), .int .u64 (s.align : Nat), .int .u64 (s.entsize : Nat), .int .i64 s.pl.inn, .int .u64 (s.pl.off : Nat), .int .u64 (s.pl.size : Nat), .slice B1 k1 e1] 50)).cell? ⟨bb, off2 + k * 13 + 1, none⟩ = _ := r2 1 _ rfl
     have u2 : (wr.alloc (.cells #[.int .u32 (s.name : Nat), .int .u32 (s.typ : Nat), .int .u64 (s.flags : Nat), .int .u64 (s.addr : Nat), .int .u64 (s.size : Nat), .int .u32 (s.link : Nat), .int .u32 (s.info : Nat), .int .u64 (s.align : Nat), .int .u64 (s.entsize : Nat), .int .i64 s.pl.inn, .int .u64 (s.pl.off : Nat), .int .u64 (s.pl.size : Nat), .slice B1 k1 e1] 50)).cell? ⟨bb, off2 + k * 13 + 2, none⟩ = _ := r2 2 _ rfl
     have u3 : (wr.alloc (.cells #[.int .u32 (s.name : Nat), .int .u32 (s.typ : Nat), .int .u64 (s.flags : Nat), .int .u64 (s.addr : Nat), .int .u64 (s.size : Nat), .int .u32 (s.link : Nat), .int .u32 (s.info : Nat), .int .u64 (s.align : Nat), .int .u64 (s.entsize : Nat), .int .i64 s.pl.inn, .int .u64 (s.pl.off : Nat), .int .u64 (s.pl.size : Nat), .slice B1 k1 e1] 50)).cell? ⟨bb, off2 + k * 13 + 3, none⟩ = _ := r2 3 _ rfl
     have u4 : (wr.alloc (.cells #[.int .u32 (s.name : Nat), .int .u32 (s.typ : Nat), .int .u64 (s.flags : Nat), .int .u64 (s.addr : Nat), .int .u64 (s.size : Nat), .int .u32 (s.link : Nat), .int .u32 (s.info : Nat), .int .u64 (s.align : Nat), .int .u64 (s.entsize : Nat), .int .i64 s.pl.inn, .int .u64 (s.pl.off : Nat), .int .u64 (s.pl.size : Nat), .slice B1 k1 e1] 50)).cell? ⟨bb, off2 + k * 13 + 4, none⟩ = _ := r2 4 _ rfl
     have u5 : (wr.alloc (.cells #[.int .u32 (s.name : Nat), .int .u32 (s.typ : Nat), .int .u64 (s.flags : Nat), .int .u64 (s.addr : Nat), .int .u64 (s.size : Nat), .int .u32 (s.link : Nat), .int .u32 (s.info : Nat), .int .u64 (s.align : Nat), .int .u64 (s.entsize : Nat), .int .i64 s.pl.inn, .int .u64 (s.pl.off : Nat), .int .u64 (s.pl.size : Nat), .slice B1 k1 e1] 50)).cell? ⟨bb, off2 + k * 13 + 5, none⟩ = _ := r2 5 _ rfl
     have u6 : (wr.alloc (.cells #[.int .u32 (s.name : Nat), .int .u32 (s.typ : Nat), .int .u64 (s.flags : Nat), .int .u64 (s.addr : Nat), .int .u64 (s.size : Nat), .int .u32 (s.link : Nat), .int .u32 (s.info : Nat), .int .u64 (s.align : Nat), .int .u64 (s.entsize : Nat), .int .i64 s.pl.inn, .int .u64 (s.pl.off : Nat), .int .u64 (s.pl.size : Nat), .slice B1 k1 e1] 50)).cell? ⟨bb, off2 + k * 13 + 6, none⟩ = _ := r2 6 _ rfl
     have u7 : (wr.alloc (.cells #[.int .u32 (s.name : Nat), .int .u32 (s.typ : Nat), .int .u64 (s.flags : Nat), .int .u64 (s.addr : Nat), .int .u64 (s.size : Nat), .int .u32 (s.link : Nat), .int .u32 (s.info : Nat), .int .u64 (s.align : Nat), .int .u64 (s.entsize : Nat), .int .i64 s.pl.inn, .int .u64 (s.pl.off : Nat), .int .u64 (s.pl.size : Nat), .slice B1 k1 e1] 50)).cell? ⟨bb, off2 + k * 13 + 7, none⟩ = _ := r2 7 _ rfl
     have u8 : (wr.alloc (.cells #[.int .u32 (s.name : Nat), .int .u32 (s.typ : Nat), .int .u64 (s.flags : Nat), .int .u64 (s.addr : Nat), .int .u64 (s.size : Nat), .int .u32 (s.link : Nat), .int .u32 (s.info : Nat), .int .u64 (s.align : Nat), .int .u64 (s.entsize : Nat), .int .i64 s.pl.inn, .int .u64 (s.pl.off : Nat), .int .u64 (s.pl.size : Nat), .slice B1 k1 e1] 50)).cell? ⟨bb, off2 + k * 13 + 8, none⟩ = _ := r2 8 _ rfl
     have u9 : (wr.alloc (.cells #[.int .u32 (s.name : Nat), .int .u32 (s.typ : Nat), .int .u64 (s.flags : Nat), .int .u64 (s.addr : Nat), .int .u64 (s.size : Nat), .int .u32 (s.link : Nat), .int .u32 (s.info : Nat), .int .u64 (s.align : Nat), .int .u64 (s.entsize : Nat), .int .i64 s.pl.inn, .int .u64 (s.pl.off : Nat), .int .u64 (s.pl.size : Nat), .slice B1 k1 e1] 50)).cell? ⟨bb, off2 + k * 13 + 9, none⟩ = _ := r2 9 _ rfl
     have u10 : (wr.alloc (.cells #[.int .u32 (s.name : Nat), .int .u32 (s.typ : Nat), .int .u64 (s.flags : Nat), .int .u64 (s.addr : Nat), .int .u64 (s.size : Nat), .int .u32 (s.link : Nat), .int .u32 (s.info : Nat), .int .u64 (s.align : Nat), .int .u64 (s.entsize : Nat), .int .i64 s.pl.inn, .int .u64 (s.pl.off : Nat), .int .u64 (s.pl.size : Nat), .slice B1 k1 e1] 50)).cell? ⟨bb, off2 + k * 13 + 10, none⟩ = _ := r2 10 _ rfl
     have u11 : (wr.alloc (.cells #[.int .u32 (s.name : Nat), .int .u32 (s.typ : Nat), .int .u64 (s.flags : Nat), .int .u64 (s.addr : Nat), .int .u64 (s.size : Nat), .int .u32 (s.link : Nat), .int .u32 (s.info : Nat), .int .u64 (s.align : Nat), .int .u64 (s.entsize : Nat), .int .i64 s.pl.inn, .int .u64 (s.pl.off : Nat), .int .u64 (s.pl.size : Nat), .slice B1 k1 e1] 50)).cell? ⟨bb, off2 + k * 13 + 11, none⟩ = _ := r2 11 _ rfl
     have u12 : (wr.alloc (.cells #[.int .u32 (s.name : Nat), .int .u32 (s.typ : Nat), .int .u64 (s.flags : Nat), .int .u64 (s.addr : Nat), .int .u64 (s.size : Nat), .int .u32 (s.link : Nat), .int .u32 (s.info : Nat), .int .u64 (s.align : Nat), .int .u64 (s.entsize : Nat), .int .i64 s.pl.inn, .int .u64 (s.pl.off : Nat), .int .u64 (s.pl.size : Nat), .slice B1 k1 e1] 50)).cell? ⟨bb, off2 + k * 13 + 12, none⟩ = _ := r2 12 _ rfl
     have m8 := HX1.out.at 9
     have y8 := HY1.out.at 9
     have y8a := (HY1.out.grow (Grow.of_alloc wr (.cells #[.int .u32 (s.name : Nat), .int .u32 (s.typ : Nat), .int .u64 (s.flags : Nat), .int .u64 (s.addr : Nat), .int .u64 (s.size : Nat), .int .u32 (s.link : Nat), .int .u32 (s.info : Nat), .int .u64 (s.align : Nat), .int .u64 (s.entsize : Nat), .int .i64 s.pl.inn, .int .u64 (s.pl.off : Nat), .int .u64 (s.pl.size : Nat), .slice B1 k1 e1] 50))).at 9
     clear p' r' r2
     have w0 : (0 : Int) ≤ (k : Int) := by omega
     have w1 : (k : Int) < (n2 : Int) := by omega
     have d1 : decide ((k : Int) < (n2 : Int)) = true := decide_eq_true (by omega)
     go_wp2_with fail
     generalize hW : World.alloc _ _ = W5
     obtain ⟨b5, b6, hg⟩ := blk2 hW
     clear hW d1 m8 y8 y8a s0 s1 s2 s3 s4 s5 s6 s7 s8 s9 s10 s11 s12 t0 t1 t2 t3 t4 t5 t6 t7 t8 t9 t10 t11 t12 u0 u1 u2 u3 u4 u5 u6 u7 u8 u9 u10 u11 u12
     have HX2 := hid (HX1.out.grow hg)
     have HY2 := hid (HY1.out.grow hg)
     have HW2 : Hid (Grow w W5) := hid (HW1.out.trans hg)
     have H5 := hid b5
     have H6 := hid b6
     clear b5 b6 hg HX1 HY1 HW1
     generalize wr.heap.size + 1 = g6 at H6 ⊢
     generalize wr.heap.size = g5 at H5 ⊢
     refine (HSp.out _ HW2.out).mono ?_
     rintro e w6 ⟨rfl, hg⟩
     have HX3 := hid (HX2.out.grow hg)
     have HY3 := hid (HY2.out.grow hg)
     have HW3 : Hid (Grow w w6) := hid (HW2.out.trans hg)
     obtain ⟨s0, s1, s2, s3, s4, s5, s6, s7, s8, s9, s10, s11, s12⟩ := (H5.out.grow hg).c13
     obtain ⟨t0, t1, t2, t3, t4, t5, t6, t7, t8, t9, t10, t11, t12⟩ := (H6.out.grow hg).c13
     clear hg HX2 HY2 HW2 H5 H6 HSp
     go_wp2
     go_roundw
     case rel => exact ⟨k + 1, by omega, by go_num, HX3.out, HY3.out, HW3.out⟩
     case measure => simp [intOf]; omega
    ·have d1 : decide ((k : Int) < (n2 : Int)) = false := decide_eq_false (by omega)
     have m9 := HX1.out.at 9
     go_wp2
     go_ret
     exact ⟨rfl, HW1.out⟩
set_option maxRecDepth 100000
set_option linter.unusedVariables false
theorem mem_sum {α : Type} (f : α → Nat) : ∀ (l : List α) (a : α), a ∈ l → f a ≤ (l.map f).sum
 | [], a, h => by simp at h
 | b :: l, a, h => by
  rw [List.map_cons, List.sum_cons]
  rcases List.mem_cons.1 h with e | e
  ·subst e; omega
  ·have := mem_sum f l a e; omega
theorem few_all {m : Md} (h : m.few ≠ 0) : m.Small ∧ ∀ s ∈ m.secs, s.pl.own.length ≤ 100000 := by
 have hs : m.sum ≤ 100000 := by
  unfold Md.few at h
  split at h
  ·exact absurd rfl h
  ·split at h
   ·exact absurd rfl h
   ·split at h
    ·exact absurd rfl h
    ·omega
 unfold Md.sum at hs
 refine ⟨fun s h => ?_, fun s h => ?_⟩
 ·have := mem_sum (fun s : Sg => s.pl.own.length) m.segs s h
  omega
 ·have := mem_sum (fun s : Se => s.pl.own.length) m.secs s h
  omega
theorem rbC_le (m : Md) (d : Nat) : m.rbC d ≤ 12 := by
 unfold Md.rbC
 split
 ·split
  ·omega
  ·split <;> omega
 ·omega
set_option maxHeartbeats 8000000 in
theorem rebaseTells_core (m : Md) (ok : m.Ok) (A1 A2 : Option Addr) (n1 c1 n2 c2 : Nat) (d : Nat) (hd : d < 18446744073709551616) (w : World) (g1 : ZR sgK w w.heap.size A1 n1 c1 m.segs) (g2 : ZR seK w w.heap.size A2 n2 c2 m.secs)
  (hs1 : ∀ s ∈ m.segs, s.pl.own.length ≤ reachBytes) (hs2 : ∀ s ∈ m.secs, s.pl.own.length ≤ reachBytes) :
  Calls Try.prog 3 #[.agg (mdC m (.slice A1 n1 c1) (.slice A2 n2 c2)), .int .u64 (d : Int)] w fun e w' => e = .returned (.bool true) ∧ Grow w w' := by
 have hsm := sum_small g1.len g2.len hs1 hs2
 have HF := hid (fun (W : World) (hg : Grow w W) => few_any m A1 A2 n1 c1 n2 c2 W (g1.grow hg) (g2.grow hg) hsm)
 have HC := hid (fun (W : World) (hg : Grow w W) => rCheck_any m ok A1 A2 n1 c1 n2 c2 W (g1.grow hg) (g2.grow hg))
 have HS := hid (fun (h : m.few ≠ 0) (h0 : m.chk = 0) (W : World) (hg : Grow w W) => rebase_any m ok h0 (few_all h).1 (few_all h).2 A1 n1 c1 A2 n2 c2 d W (g1.grow hg) (g2.grow hg) hd)
 have HR := hid (fun (h : m.few ≠ 0) (h0 : m.chk = 0) (W : World) (hg : Grow w W) => rRebase_any m ok h0 (few_all h).1 A1 n1 c1 A2 n2 c2 d W (g1.grow hg) (g2.grow hg) hd)
 have HQ := hid (fun (A3 A4 A5 A6 : Option Addr) (n3 c3 n4 c4 n5 c5 n6 c6 : Nat) (W : World) h3 h4 h5 h6 => rSame_any (m.rbM d) A3 A4 A5 A6 n3 c3 n4 c4 n5 c5 n6 c6 W h3 h4 h5 h6)
 have HCo := hid (fun W => code_of (m.rbC d) (rbC_le m d) W)
 unfold mdC at HF HC HS HR HQ ⊢
 clear g1 g2 ok hs1 hs2 hsm
 generalize m.few = fw at *
 generalize m.chk = ck at *
 generalize m.rbC d = rc at *
 generalize (m.rbM d).segs = L1 at *
 generalize (m.rbM d).secs = L2 at *
 generalize (m.rbM d).wide = h0 at *
 generalize (m.rbM d).big = h1 at *
 generalize (m.rbM d).osabi = h2 at *
 generalize (m.rbM d).abi = h3 at *
 generalize (m.rbM d).typ = h4 at *
 generalize (m.rbM d).mach = h5 at *
 generalize (m.rbM d).flags = h6 at *
 generalize (m.rbM d).entry = h7 at *
 generalize (m.rbM d).str = h10 at *
 generalize m.wide = f0 at *
 generalize m.big = f1 at *
 generalize m.osabi = f2 at *
 generalize m.abi = f3 at *
 generalize m.typ = f4 at *
 generalize m.mach = f5 at *
 generalize m.flags = f6 at *
 generalize m.entry = f7 at *
 generalize m.str = f10 at *
 go_enter Try.func3, Try.ntmps3
 go_wp2_with fail
 generalize hW : World.alloc _ _ = W0
 obtain ⟨b1, hg0⟩ := blk1 hW
 clear hW
 obtain ⟨gm, hgm⟩ : ∃ g, g = w.heap.size := ⟨_, rfl⟩
 rw [← hgm] at b1 ⊢
 have HM0 := hid b1
 have HG0 := hid hg0
 clear b1 hg0 hgm
 refine (up19 _).mono ?_
 rintro e w1 ⟨rfl, hg⟩
 have HM1 := hid (HM0.out.grow hg)
 have HG1 : Hid (Grow w w1) := hid (HG0.out.trans hg)
 clear hg HM0 HG0
 obtain ⟨v0, v1, v2, v3, v4, v5, v6, v7, v8, v9, v10⟩ := HM1.out.c11
 go_wp2_with fail
 clear v0 v1 v2 v3 v4 v5 v6 v7 v8 v9 v10
 refine (HF.out _ HG1.out).mono ?_
 rintro e w2 ⟨rfl, hg⟩
 have HM2 := hid (HM1.out.grow hg)
 have HG2 : Hid (Grow w w2) := hid (HG1.out.trans hg)
 clear hg HM1 HG1 HF
 by_cases hf : fw = 0
 ·have dd : ((fw : Int) == 0) = true := by simp [hf]
  clear hf
  go_wp2
  go_ret
  exact ⟨rfl, HG2.out⟩
 have dd : ((fw : Int) == 0) = false := by simp; omega
 have HS1 := hid (HS.out hf)
 have HR1 := hid (HR.out hf)
 clear HS HR hf
 obtain ⟨v0, v1, v2, v3, v4, v5, v6, v7, v8, v9, v10⟩ := HM2.out.c11
 go_wp2_with fail
 clear v0 v1 v2 v3 v4 v5 v6 v7 v8 v9 v10
 clear dd
 refine (HC.out _ HG2.out).mono ?_
 rintro e w3 ⟨rfl, hg⟩
 have HM3 := hid (HM2.out.grow hg)
 have HG3 : Hid (Grow w w3) := hid (HG2.out.trans hg)
 clear hg HM2 HG2 HC
 by_cases hk : ck = 0
 rotate_left
 ·have dd : ((ck : Int) != 0) = true := by simp; omega
  clear hk
  go_wp2
  go_ret
  exact ⟨rfl, HG3.out⟩
 have dd : ((ck : Int) != 0) = false := by simp [hk]
 have HS2 := hid (HS1.out hk)
 have HR2 := hid (HR1.out hk)
 clear HS1 HR1 hk
 obtain ⟨v0, v1, v2, v3, v4, v5, v6, v7, v8, v9, v10⟩ := HM3.out.c11
 go_wp2_with fail
 clear v0 v1 v2 v3 v4 v5 v6 v7 v8 v9 v10 dd
 refine (HS2.out w3 HG3.out).mono ?_
 rintro e w4 ⟨A3, n3, c3, A4, n4, c4, rfl, z3, z4, hg⟩
 have HM4 := hid (HM3.out.grow hg)
 have HG4 : Hid (Grow w w4) := hid (HG3.out.trans hg)
 have H3 := hid z3
 have H4 := hid z4
 clear z3 z4 hg HM3 HG3 HS2
 have f0' : ∀ o, (w4.alloc o).cell? ⟨gm, 0, none⟩ = some (.bool f0) := fun o => (HM4.out.alloc o).at 0
 have f1' : ∀ o, (w4.alloc o).cell? ⟨gm, 1, none⟩ = some (.bool f1) := fun o => (HM4.out.alloc o).at 1
 have f2' : ∀ o, (w4.alloc o).cell? ⟨gm, 2, none⟩ = some (.int .u8 (f2 : Nat)) := fun o => (HM4.out.alloc o).at 2
 have f3' : ∀ o, (w4.alloc o).cell? ⟨gm, 3, none⟩ = some (.int .u8 (f3 : Nat)) := fun o => (HM4.out.alloc o).at 3
 have f4' : ∀ o, (w4.alloc o).cell? ⟨gm, 4, none⟩ = some (.int .u16 (f4 : Nat)) := fun o => (HM4.out.alloc o).at 4
 have f5' : ∀ o, (w4.alloc o).cell? ⟨gm, 5, none⟩ = some (.int .u16 (f5 : Nat)) := fun o => (HM4.out.alloc o).at 5
 have f6' : ∀ o, (w4.alloc o).cell? ⟨gm, 6, none⟩ = some (.int .u32 (f6 : Nat)) := fun o => (HM4.out.alloc o).at 6
 have f7' : ∀ o, (w4.alloc o).cell? ⟨gm, 7, none⟩ = some (.int .u64 (f7 : Nat)) := fun o => (HM4.out.alloc o).at 7
 have f8' : ∀ o, (w4.alloc o).cell? ⟨gm, 8, none⟩ = some (.slice A1 n1 c1) := fun o => (HM4.out.alloc o).at 8
 have f9' : ∀ o, (w4.alloc o).cell? ⟨gm, 9, none⟩ = some (.slice A2 n2 c2) := fun o => (HM4.out.alloc o).at 9
 have f10' : ∀ o, (w4.alloc o).cell? ⟨gm, 10, none⟩ = some (.int .i64 f10) := fun o => (HM4.out.alloc o).at 10
 go_wp2_with fail
 generalize hW : World.alloc _ _ = W5
 obtain ⟨b5, hg⟩ := blk1 hW
 clear hW f0' f1' f2' f3' f4' f5' f6' f7' f8' f9' f10'
 have HX5 := hid b5
 have HG5 : Hid (Grow w W5) := hid (HG4.out.trans hg)
 have H3' := hid (H3.out.grow hg)
 have H4' := hid (H4.out.grow hg)
 clear b5 hg HM4 HG4 H3 H4
 generalize w4.heap.size = gx at *
 refine (HR2.out W5 HG5.out).mono ?_
 rintro e w6 ⟨A5, n5, c5, A6, n6, c6, rfl, z5, z6, hg⟩
 have HX6 := hid (HX5.out.grow hg)
 have HG6 : Hid (Grow w w6) := hid (HG5.out.trans hg)
 have K3 := hid (H3'.out.grow hg)
 have K4 := hid (H4'.out.grow hg)
 have K5 := hid z5
 have K6 := hid z6
 clear z5 z6 hg HX5 HG5 H3' H4' HR2
 have f0' : ∀ o, (w6.alloc o).cell? ⟨gx, 0, none⟩ = some (.bool h0) := fun o => (HX6.out.alloc o).at 0
 have f1' : ∀ o, (w6.alloc o).cell? ⟨gx, 1, none⟩ = some (.bool h1) := fun o => (HX6.out.alloc o).at 1
 have f2' : ∀ o, (w6.alloc o).cell? ⟨gx, 2, none⟩ = some (.int .u8 (h2 : Nat)) := fun o => (HX6.out.alloc o).at 2
 have f3' : ∀ o, (w6.alloc o).cell? ⟨gx, 3, none⟩ = some (.int .u8 (h3 : Nat)) := fun o => (HX6.out.alloc o).at 3
 have f4' : ∀ o, (w6.alloc o).cell? ⟨gx, 4, none⟩ = some (.int .u16 (h4 : Nat)) := fun o => (HX6.out.alloc o).at 4
 have f5' : ∀ o, (w6.alloc o).cell? ⟨gx, 5, none⟩ = some (.int .u16 (h5 : Nat)) := fun o => (HX6.out.alloc o).at 5
 have f6' : ∀ o, (w6.alloc o).cell? ⟨gx, 6, none⟩ = some (.int .u32 (h6 : Nat)) := fun o => (HX6.out.alloc o).at 6
 have f7' : ∀ o, (w6.alloc o).cell? ⟨gx, 7, none⟩ = some (.int .u64 (h7 : Nat)) := fun o => (HX6.out.alloc o).at 7
 have f8' : ∀ o, (w6.alloc o).cell? ⟨gx, 8, none⟩ = some (.slice A3 n3 c3) := fun o => (HX6.out.alloc o).at 8
 have f9' : ∀ o, (w6.alloc o).cell? ⟨gx, 9, none⟩ = some (.slice A4 n4 c4) := fun o => (HX6.out.alloc o).at 9
 have f10' : ∀ o, (w6.alloc o).cell? ⟨gx, 10, none⟩ = some (.int .i64 h10) := fun o => (HX6.out.alloc o).at 10
 go_wp2_with fail
 generalize hW : World.alloc _ _ = W7
 obtain ⟨b7, hg⟩ := blk1 hW
 clear hW f0' f1' f2' f3' f4' f5' f6' f7' f8' f9' f10' b7
 have HG7 : Hid (Grow w W7) := hid (HG6.out.trans hg)
 refine (HQ.out A3 A4 A5 A6 n3 c3 n4 c4 n5 c5 n6 c6 W7 (K3.out.grow hg) (K4.out.grow hg) (K5.out.grow hg) (K6.out.grow hg)).mono ?_
 clear hg HX6 HG6 K3 K4 K5 K6 HQ
 rintro e w8 ⟨rfl, hg⟩
 have HG8 : Hid (Grow w w8) := hid (HG7.out.trans hg)
 clear hg HG7
 go_wp2_with fail
 refine (HCo.out w8).mono ?_
 rintro e w9 ⟨rfl, rfl⟩
 go_wp2
 go_ret
 exact ⟨rfl, HG8.out⟩
theorem wf_u8 {n : Int} (h : (Lit.int .u8 n).wf = true) : 0 ≤ n ∧ n ≤ 255 := by
 simpa [Lit.wf, IntKind.bits, IntKind.signed] using bounds_u8 h
theorem rb_of_cells (w : World) (x : Addr) (len cap : Nat) (zs : List Int) (hl : len ≤ cap) (hm : cap ≤ maxLen) (hz : zs.length = cap)
  (hcell : ∀ i, i < zs.length → w.cell? (x.add i) = some (.int .u8 (zs.getD i 0))) (hwf : ∀ n ∈ zs, (Lit.int .u8 n).wf = true) :
  RB w w.heap.size (some x) len cap ((zs.take len).map fun n => UInt8.ofNat n.toNat) := by
 refine ⟨by simp; omega, hl, hm, fun hp => ?_⟩
 obtain ⟨b, off, spot⟩ := x
 have h0 := hcell 0 (by omega)
 have hspot : spot = none := by simpa [Addr.add] using World.cell?_spot h0
 subst hspot
 refine ⟨b, off, rfl, ?_, fun j hj => ?_⟩
 ·rcases Nat.lt_or_ge b w.heap.size with h | h
  ·exact h
  ·simp [Addr.add, World.cell?, Array.getElem?_eq_none h] at h0
 ·have hj' : j < len := by simp at hj; omega
  have e2 : (⟨b, off, none⟩ : Addr).add j = ⟨b, off + j, none⟩ := by unfold Addr.add; split <;> simp_all
  rw [← e2, hcell j (by omega)]
  have hjz : j < zs.length := by omega
  have hb := wf_u8 (hwf zs[j] (List.getElem_mem hjz))
  simp only [List.getElem_map, List.getElem_take, List.getD_eq_getElem?_getD, List.getElem?_eq_getElem hjz, Option.getD_some]
  congr 2
  rw [UInt8.toNat_ofNat', Nat.mod_eq_of_lt (by omega)]
  omega
end Go.Proofs.Ytfpihkbpelbcbaa
namespace Go.Proofs.Ytfpihkbpelbcbaa
open Go.Lib (hid)
open Go.ChangeShapes Go.WideShapes Go.RowKit Go.Joins Go.Deep
set_option maxRecDepth 100000
section
variable {H : Type} {enc : TypeId × Value → H} {w : World} {base : Nat} {spare : Nat → Bool} {held : Bool}
theorem open_u64 {r : Reach} {b0 : Nat} {v : Value} {d : DataW H} {p : List MemPlace} (hv : Value.okWide Try.prog w r b0 28 v) (h : DataW.Trod enc Try.prog w base spare held 28 v d p) : ∃ a : Nat, v = .int .u64 a ∧ a < 18446744073709551616 := by
 obtain ⟨x, rfl, _, _, hw⟩ := open_int Try.underlying28 hv h
 have hb := bounds_u64 hw
 exact ⟨x.toNat, by congr 1; omega, by omega⟩
end
set_option maxRecDepth 100000
section
variable {H : Type} {enc : TypeId × Value → H} {w : World} {base : Nat} {spare : Nat → Bool} {held : Bool}
theorem form_of_cells {n : Nat} {c0 c1 : Value} {y : DataW H × List MemPlace} (hf : DataW.trod enc Try.prog w base spare held n 23 [c0, c1] = some y) : ∃ wide big : Bool, c0 = .bool wide ∧ c1 = .bool big := by
 obtain ⟨x0, x1, m, _, _, k0, k1⟩ := trod_struct2 Try.underlying23 hf
 have k0' : DataW.trod enc Try.prog w base spare held m 4 [c0] = some x0 := by
  simpa [show Program.cellsOf Try.prog 4 = 1 by kernel_rfl] using k0
 have k1' : DataW.trod enc Try.prog w base spare held m 4 [c1] = some x1 := by
  simpa [show Program.cellsOf Try.prog 4 = 1 by kernel_rfl] using k1
 obtain ⟨wide, e0, _⟩ := DataW.trod_bool Try.underlying4 k0'
 obtain ⟨big, e1, _⟩ := DataW.trod_bool Try.underlying4 k1'
 injection e0 with e0
 injection e1 with e1
 exact ⟨wide, big, e0, e1⟩
end
end Go.Proofs.Ytfpihkbpelbcbaa
