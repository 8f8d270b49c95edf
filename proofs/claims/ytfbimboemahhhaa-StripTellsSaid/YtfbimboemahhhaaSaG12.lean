/-
  Several texts in one: The contract of the document's own Same at two readings of one model; The walk of StripTells.
-/
import Derived.Test.YtfbimboemahhhaaSaG2
import Derived.Test.YtfbimboemahhhaaSaG1
import Derived.Test.YtfbimboemahhhaaRows
import Derived.Laws.Bits64b
import Derived.Laws.Bits128
import Derived.WalkKit
import Derived.Lib.Hide
import Derived.Test.YtfbimboemahhhaaSaG6
import Derived.Test.YtfbimboemahhhaaSaG8
import Derived.Test.YtfbimboemahhhaaSaG11
namespace Go.Proofs.Ytfbimboemahhhaa
open Go.Lib (hid)
open Go.RowKit
set_option maxRecDepth 100000
set_option linter.unusedVariables false
set_option maxHeartbeats 4000000 in
theorem rSamePlace_any (p : Pl) (A A' : Option Addr) (n c n' c' : Nat) (w : World) (h : RB w w.heap.size A n c p.own) (h' : RB w w.heap.size A' n' c' p.own) :
  Calls Try.prog 23 #[.agg (plC p (.slice A n c)), .agg (plC p (.slice A' n' c'))] w fun e w' => e = .returned (.bool true) ∧ Grow w w' := by
 have hs1 := (h.grow ((Grow.of_alloc w (.cells (plC p (.slice A n c)) 51)).trans (Grow.of_alloc _ (.cells (plC p (.slice A' n' c')) 51)))).conv (Nat.le_refl _) _ (Grow.refl _)
 have hs2 := (h'.grow ((Grow.of_alloc w (.cells (plC p (.slice A n c)) 51)).trans (Grow.of_alloc _ (.cells (plC p (.slice A' n' c')) 51)))).conv (Nat.le_refl _) _ (Grow.refl _)
 unfold plC at hs1 hs2 ⊢
 clear h h'
 generalize p.inn = i at *
 generalize p.off = o at *
 generalize p.size = z at *
 go_enter Try.func23, Try.ntmps23
 go_wp2
 go_ret
 exact ⟨rfl, (Grow.of_alloc _ _).trans (Grow.of_alloc _ _)⟩
set_option maxHeartbeats 20000000 in
theorem rSame_any (m : Md) (A1 A2 A3 A4 : Option Addr) (n1 c1 n2 c2 n3 c3 n4 c4 : Nat) (w : World) (g1 : ZR sgK w w.heap.size A1 n1 c1 m.segs) (g2 : ZR seK w w.heap.size A2 n2 c2 m.secs) (g3 : ZR sgK w w.heap.size A3 n3 c3 m.segs) (g4 : ZR seK w w.heap.size A4 n4 c4 m.secs) :
  Calls Try.prog 8 #[.agg (mdC m (.slice A1 n1 c1) (.slice A2 n2 c2)), .agg (mdC m (.slice A3 n3 c3) (.slice A4 n4 c4))] w fun e w' => e = .returned (.bool true) ∧ Grow w w' := by
 obtain rfl : n1 = n3 := g1.len.trans g3.len.symm
 obtain rfl : n2 = n4 := g2.len.trans g4.len.symm
 have H1 := hid g1
 have H2 := hid g2
 have H3 := hid g3
 have H4 := hid g4
 have HL1 := hid g1.len
 have HL2 := hid g2.len
 have a1 := g1.cap
 have a2 := g1.max
 have a3 := g2.cap
 have a4 := g2.max
 have a5 := g3.cap
 have a6 := g3.max
 have a7 := g4.cap
 have a8 := g4.max
 unfold maxLen at a2 a4 a6 a8
 unfold mdC
 clear g1 g2 g3 g4
 generalize m.segs = L1 at *
 generalize m.secs = L2 at *
 generalize m.wide = f0
 generalize m.big = f1
 generalize m.osabi = f2
 generalize m.abi = f3
 generalize m.typ = f4
 generalize m.mach = f5
 generalize m.flags = f6
 generalize m.entry = f7
 generalize m.str = f10
 go_enter Try.func8, Try.ntmps8
 apply wp_seq_k
 intro K hK
 have HK := hid hK
 clear hK
 go_wp2
 apply HK.out
 clear HK
 clear K
 generalize hW : World.alloc _ _ = W0
 obtain ⟨b1, b2, hg0⟩ := blk2 hW
 clear hW
 have HX := hid b1
 have HY := hid b2
 have HW := hid hg0
 clear b1 b2 hg0
 generalize w.heap.size + 1 = gy at HY ⊢
 obtain ⟨gx, hgx⟩ : ∃ g, g = w.heap.size := ⟨_, rfl⟩
 rw [← hgx] at HX ⊢
 clear hgx
 obtain ⟨x0, x1, x2, x3, x4, x5, x6, x7, x8, x9, x10⟩ := HX.out.c11
 obtain ⟨y0, y1, y2, y3, y4, y5, y6, y7, y8, y9, y10⟩ := HY.out.c11
 go_wp2_with fail
 clear x0 x1 x2 x3 x4 x5 x6 x7 x8 x9 x10 y0 y1 y2 y3 y4 y5 y6 y7 y8 y9 y10
 go_loopw [5] (fun i wr => ∃ k : Nat, k ≤ n1 ∧ i = .int .i64 k ∧ Blk wr gx 32 #[.bool f0, .bool f1, .int .u8 (f2 : Nat), .int .u8 (f3 : Nat), .int .u16 (f4 : Nat), .int .u16 (f5 : Nat), .int .u32 (f6 : Nat), .int .u64 (f7 : Nat), .slice A1 n1 c1, .slice A2 n2 c2, .int .i64 f10] ∧ Blk wr gy 32 #[.bool f0, .bool f1, .int .u8 (f2 : Nat), .int .u8 (f3 : Nat), .int .u16 (f4 : Nat), .int .u16 (f5 : Nat), .int .u32 (f6 : Nat), .int .u64 (f7 : Nat), .slice A3 n1 c3, .slice A4 n2 c4, .int .i64 f10] ∧ Grow w wr) (fun i _ => n1 - (intOf i).toNat)
 case atStart => exact ⟨0, Nat.zero_le _, rfl, HX.out, HY.out, HW.out⟩
 case round =>
  obtain ⟨k, hk, rfl, hx, hy, hg⟩ := hrel
  have HX1 := hid hx
  have HY1 := hid hy
  have HW1 := hid hg
  clear hx hy hg HX HY HW
  by_cases hlt : k < n1
  ·have hkl : k < L1.length := by rw [← HL1.out]; exact hlt
   obtain ⟨b, off, hAA, hb⟩ := H1.out.pos (by omega)
   obtain ⟨bb, off2, hAB, hbb⟩ := H3.out.pos (by omega)
   subst hAA
   subst hAB
   obtain ⟨B1, k1, e1, -, p, g1⟩ := H1.out.at hkl
   obtain ⟨B3, k3, e3, -, r, g3⟩ := H3.out.at hkl
   have p' : ∀ i v, (sgC L1[k] (.slice B1 k1 e1))[i]? = some v → wr.cell? ⟨b, off + k * 10 + i, none⟩ = some v := fun i v hv => (Below.cell HW1.out hb).trans (p i v hv)
   have r' : ∀ i v, (sgC L1[k] (.slice B3 k3 e3))[i]? = some v → wr.cell? ⟨bb, off2 + k * 10 + i, none⟩ = some v := fun i v hv => (Below.cell HW1.out hbb).trans (r i v hv)
   have HSp := hid (fun W (hW : Grow w W) => rSamePlace_any L1[k].pl B1 B3 k1 e1 k3 e3 W ((g1.belowAt hW (Nat.le_refl _)).more hW.size) ((g3.belowAt hW (Nat.le_refl _)).more hW.size))
   have HB := hid (Nat.lt_of_lt_of_le hb HW1.out.size)
   have HBB := hid (Nat.lt_of_lt_of_le hbb HW1.out.size)
   unfold sgC at p' r'
   unfold plC at HSp
   clear p r g1 g3
   generalize L1[k] = s at p' r' HSp
   clear hkl
   have s0 : wr.cell? ⟨b, off + k * 10, none⟩ = _ := p' 0 _ rfl
   have s1 : wr.cell? ⟨b, off + k * 10 + 1, none⟩ = _ := p' 1 _ rfl
   have s2 : wr.cell? ⟨b, off + k * 10 + 2, none⟩ = _ := p' 2 _ rfl
   have s3 : wr.cell? ⟨b, off + k * 10 + 3, none⟩ = _ := p' 3 _ rfl
   have s4 : wr.cell? ⟨b, off + k * 10 + 4, none⟩ = _ := p' 4 _ rfl
   have s5 : wr.cell? ⟨b, off + k * 10 + 5, none⟩ = _ := p' 5 _ rfl
   have s6 : wr.cell? ⟨b, off + k * 10 + 6, none⟩ = _ := p' 6 _ rfl
   have s7 : wr.cell? ⟨b, off + k * 10 + 7, none⟩ = _ := p' 7 _ rfl
   have s8 : wr.cell? ⟨b, off + k * 10 + 8, none⟩ = _ := p' 8 _ rfl
   have s9 : wr.cell? ⟨b, off + k * 10 + 9, none⟩ = _ := p' 9 _ rfl
   have t0 : wr.cell? ⟨bb, off2 + k * 10, none⟩ = _ := r' 0 _ rfl
   have t1 : wr.cell? ⟨bb, off2 + k * 10 + 1, none⟩ = _ := r' 1 _ rfl
   have t2 : wr.cell? ⟨bb, off2 + k * 10 + 2, none⟩ = _ := r' 2 _ rfl
   have t3 : wr.cell? ⟨bb, off2 + k * 10 + 3, none⟩ = _ := r' 3 _ rfl
   have t4 : wr.cell? ⟨bb, off2 + k * 10 + 4, none⟩ = _ := r' 4 _ rfl
   have t5 : wr.cell? ⟨bb, off2 + k * 10 + 5, none⟩ = _ := r' 5 _ rfl
   have t6 : wr.cell? ⟨bb, off2 + k * 10 + 6, none⟩ = _ := r' 6 _ rfl
   have t7 : wr.cell? ⟨bb, off2 + k * 10 + 7, none⟩ = _ := r' 7 _ rfl
   have t8 : wr.cell? ⟨bb, off2 + k * 10 + 8, none⟩ = _ := r' 8 _ rfl
   have t9 : wr.cell? ⟨bb, off2 + k * 10 + 9, none⟩ = _ := r' 9 _ rfl
   have r2 : ∀ i v, (#[.int .u32 (s.typ : Nat), .int .u32 (s.flags : Nat), .int .u64 (s.vaddr : Nat), .int .u64 (s.paddr : Nat), .int .u64 (s.memsz : Nat), .int .u64 (s.align : Nat), .int .i64 s.pl.inn, .int .u64 (s.pl.off : Nat), .int .u64 (s.pl.size : Nat), .slice B3 k3 e3] : Array Value)[i]? = some v → (wr.alloc (.cells #[.int .u32 (s.typ : Nat), .int .u32 (s.flags : Nat), .int .u64 (s.vaddr : Nat), .int .u64 (s.paddr : Nat), .int .u64 (s.memsz : Nat), .int .u64 (s.align : Nat), .int .i64 s.pl.inn, .int .u64 (s.pl.off : Nat), .int .u64 (s.pl.size : Nat), .slice B1 k1 e1] 55)).cell? ⟨bb, off2 + k * 10 + i, none⟩ = some v := fun i v hv => (Below.cell (Grow.of_alloc wr _) HBB.out).trans (r' i v hv)
   have u0 : (wr.alloc (.cells #[.int .u32 (s.typ : Nat), .int .u32 (s.flags : Nat), .int .u64 (s.vaddr : Nat), .int .u64 (s.paddr : Nat), .int .u64 (s.memsz : Nat), .int .u64 (s.align : Nat), .int .i64 s.pl.inn, .int .u64 (s.pl.off : Nat), .int .u64 (s.pl.size : Nat), .slice B1 k1 e1] 55)).cell? ⟨bb, off2 + k * 10, none⟩ = _ := r2 0 _ rfl
   have u1 : (wr.alloc (.cells #[.int .u32 (s.typ : Nat), .int .u32 (s.flags : Nat), .int .u64 (s.vaddr : Nat), .int .u64 (s.paddr : Nat), .int .u64 (s.memsz : Nat), .int .u64 (s.align : Nat), .int .i64 s.pl.inn, .int .u64 (s.pl.off : Nat), .int .u64 (s.pl.size : Nat), .slice B1 k1 e1] 55)).cell? ⟨bb, off2 + k * 10 + 1, none⟩ = _ := r2 1 _ rfl
   have u2 : (wr.alloc (.cells #[.int .u32 (s.typ : Nat), .int .u32 (s.flags : Nat), .int .u64 (s.vaddr : Nat), .int .u64 (s.paddr : Nat), .int .u64 (s.memsz : Nat), .int .u64 (s.align : Nat), .int .i64 s.pl.inn, .int .u64 (s.pl.off : Nat), .int .u64 (s.pl.size : Nat), .slice B1 k1 e1] 55)).cell? ⟨bb, off2 + k * 10 + 2, none⟩ = _ := r2 2 _ rfl
   have u3 : (wr.alloc (.cells #[.int .u32 (s.typ : Nat), .int .u32 (s.flags : Nat), .int .u64 (s.vaddr : Nat), .int .u64 (s.paddr : Nat), .int .u64 (s.memsz : Nat), .int .u64 (s.align : Nat), .int .i64 s.pl.inn, .int .u64 (s.pl.off : Nat), .int .u64 (s.pl.size : Nat), .slice B1 k1 e1] 55)).cell? ⟨bb, off2 + k * 10 + 3, none⟩ = _ := r2 3 _ rfl
   have u4 : (wr.alloc (.cells #[.int .u32 (s.typ : Nat), .int .u32 (s.flags : Nat), .int .u64 (s.vaddr : Nat), .int .u64 (s.paddr : Nat), .int .u64 (s.memsz : Nat), .int .u64 (s.align : Nat), .int .i64 s.pl.inn, .int .u64 (s.pl.off : Nat), .int .u64 (s.pl.size : Nat), .slice B1 k1 e1] 55)).cell? ⟨bb, off2 + k * 10 + 4, none⟩ = _ := r2 4 _ rfl
   have u5 : (wr.alloc (.cells #[.int .u32 (s.typ : Nat), .int .u32 (s.flags : Nat), .int .u64 (s.vaddr : Nat), .int .u64 (s.paddr : Nat), .int .u64 (s.memsz : Nat), .int .u64 (s.align : Nat), .int .i64 s.pl.inn, .int .u64 (s.pl.off : Nat), .int .u64 (s.pl.size : Nat), .slice B1 k1 e1] 55)).cell? ⟨bb, off2 + k * 10 + 5, none⟩ = _ := r2 5 _ rfl
   have u6 : (wr.alloc (.cells #[.int .u32 (s.typ : Nat), .int .u32 (s.flags : Nat), .int .u64 (s.vaddr : Nat), .int .u64 (s.paddr : Nat), .int .u64 (s.memsz : Nat), .int .u64 (s.align : Nat), .int .i64 s.pl.inn, .int .u64 (s.pl.off : Nat), .int .u64 (s.pl.size : Nat), .slice B1 k1 e1] 55)).cell? ⟨bb, off2 + k * 10 + 6, none⟩ = _ := r2 6 _ rfl
   have u7 : (wr.alloc (.cells #[.int .u32 (s.typ : Nat), .int .u32 (s.flags : Nat), .int .u64 (s.vaddr : Nat), .int .u64 (s.paddr : Nat), .int .u64 (s.memsz : Nat), .int .u64 (s.align : Nat), .int .i64 s.pl.inn, .int .u64 (s.pl.off : Nat), .int .u64 (s.pl.size : Nat), .slice B1 k1 e1] 55)).cell? ⟨bb, off2 + k * 10 + 7, none⟩ = _ := r2 7 _ rfl
   have u8 : (wr.alloc (.cells #[.int .u32 (s.typ : Nat), .int .u32 (s.flags : Nat), .int .u64 (s.vaddr : Nat), .int .u64 (s.paddr : Nat), .int .u64 (s.memsz : Nat), .int .u64 (s.align : Nat), .int .i64 s.pl.inn, .int .u64 (s.pl.off : Nat), .int .u64 (s.pl.size : Nat), .slice B1 k1 e1] 55)).cell? ⟨bb, off2 + k * 10 + 8, none⟩ = _ := r2 8 _ rfl
   have u9 : (wr.alloc (.cells #[.int .u32 (s.typ : Nat), .int .u32 (s.flags : Nat), .int .u64 (s.vaddr : Nat), .int .u64 (s.paddr : Nat), .int .u64 (s.memsz : Nat), .int .u64 (s.align : Nat), .int .i64 s.pl.inn, .int .u64 (s.pl.off : Nat), .int .u64 (s.pl.size : Nat), .slice B1 k1 e1] 55)).cell? ⟨bb, off2 + k * 10 + 9, none⟩ = _ := r2 9 _ rfl
   have m8 := HX1.out.at 8
   have y8 := HY1.out.at 8
   have y8a := (HY1.out.grow (Grow.of_alloc wr (.cells #[.int .u32 (s.typ : Nat), .int .u32 (s.flags : Nat), .int .u64 (s.vaddr : Nat), .int .u64 (s.paddr : Nat), .int .u64 (s.memsz : Nat), .int .u64 (s.align : Nat), .int .i64 s.pl.inn, .int .u64 (s.pl.off : Nat), .int .u64 (s.pl.size : Nat), .slice B1 k1 e1] 55))).at 8
   clear p' r' r2
   have w0 : (0 : Int) ≤ (k : Int) := by omega
   have w1 : (k : Int) < (n1 : Int) := by omega
   have d1 : decide ((k : Int) < (n1 : Int)) = true := decide_eq_true (by omega)
   go_wp2_with fail
   generalize hW : World.alloc _ _ = W5
   obtain ⟨b5, b6, hg⟩ := blk2 hW
   clear hW d1 m8 y8 y8a s0 s1 s2 s3 s4 s5 s6 s7 s8 s9 t0 t1 t2 t3 t4 t5 t6 t7 t8 t9 u0 u1 u2 u3 u4 u5 u6 u7 u8 u9
   have HX2 := hid (HX1.out.grow hg)
   have HY2 := hid (HY1.out.grow hg)
   have HW2 : Hid (Grow w W5) := hid (HW1.out.trans hg)
   have H5 := hid b5
   have H6 := hid b6
   clear b5 b6 hg HX1 HY1 HW1
   generalize wr.heap.size + 1 = g6 at H6 ⊢
   generalize wr.heap.size = g5 at H5 ⊢
   refine (HSp.out _ HW2.out).mono ?_
   rintro e w6 ⟨rfl, hg⟩
   have HX3 := hid (HX2.out.grow hg)
   have HY3 := hid (HY2.out.grow hg)
   have HW3 : Hid (Grow w w6) := hid (HW2.out.trans hg)
   obtain ⟨s0, s1, s2, s3, s4, s5, s6, s7, s8, s9⟩ := (H5.out.grow hg).c10
   obtain ⟨t0, t1, t2, t3, t4, t5, t6, t7, t8, t9⟩ := (H6.out.grow hg).c10
   clear hg HX2 HY2 HW2 H5 H6 HSp
   go_wp2
   go_roundw
   case rel => exact ⟨k + 1, by omega, by go_num, HX3.out, HY3.out, HW3.out⟩
   case measure => simp [intOf]; omega
  ·have d1 : decide ((k : Int) < (n1 : Int)) = false := decide_eq_false (by omega)
   have m8 := HX1.out.at 8
   have m9 := HX1.out.at 9
   have HX := HX1
   have HY := HY1
   have HW := HW1
   clear HX1 HY1 HW1
   generalize wr = wz at *
   go_wp2_with fail
   clear d1 m8 m9
   go_loopw [9] (fun i wr => ∃ k : Nat, k ≤ n2 ∧ i = .int .i64 k ∧ Blk wr gx 32 #[.bool f0, .bool f1, .int .u8 (f2 : Nat), .int .u8 (f3 : Nat), .int .u16 (f4 : Nat), .int .u16 (f5 : Nat), .int .u32 (f6 : Nat), .int .u64 (f7 : Nat), .slice A1 n1 c1, .slice A2 n2 c2, .int .i64 f10] ∧ Blk wr gy 32 #[.bool f0, .bool f1, .int .u8 (f2 : Nat), .int .u8 (f3 : Nat), .int .u16 (f4 : Nat), .int .u16 (f5 : Nat), .int .u32 (f6 : Nat), .int .u64 (f7 : Nat), .slice A3 n1 c3, .slice A4 n2 c4, .int .i64 f10] ∧ Grow w wr) (fun i _ => n2 - (intOf i).toNat)
   case atStart => exact ⟨0, Nat.zero_le _, rfl, HX.out, HY.out, HW.out⟩
   case round =>
    obtain ⟨k, hk, rfl, hx, hy, hg⟩ := hrel
    have HX1 := hid hx
    have HY1 := hid hy
    have HW1 := hid hg
    clear hx hy hg HX HY HW
    by_cases hlt : k < n2
    ·have hkl : k < L2.length := by rw [← HL2.out]; exact hlt
     obtain ⟨b, off, hAA, hb⟩ := H2.out.pos (by omega)
     obtain ⟨bb, off2, hAB, hbb⟩ := H4.out.pos (by omega)
     subst hAA
     subst hAB
     obtain ⟨B1, k1, e1, -, p, g1⟩ := H2.out.at hkl
     obtain ⟨B3, k3, e3, -, r, g3⟩ := H4.out.at hkl
     have p' : ∀ i v, (seC L2[k] (.slice B1 k1 e1))[i]? = some v → wr.cell? ⟨b, off + k * 13 + i, none⟩ = some v := fun i v hv => (Below.cell HW1.out hb).trans (p i v hv)
     have r' : ∀ i v, (seC L2[k] (.slice B3 k3 e3))[i]? = some v → wr.cell? ⟨bb, off2 + k * 13 + i, none⟩ = some v := fun i v hv => (Below.cell HW1.out hbb).trans (r i v hv)
     have HSp := hid (fun W (hW : Grow w W) => rSamePlace_any L2[k].pl B1 B3 k1 e1 k3 e3 W ((g1.belowAt hW (Nat.le_refl _)).more hW.size) ((g3.belowAt hW (Nat.le_refl _)).more hW.size))
     have HB := hid (Nat.lt_of_lt_of_le hb HW1.out.size)
     have HBB := hid (Nat.lt_of_lt_of_le hbb HW1.out.size)
     unfold seC at p' r'
     unfold plC at HSp
     clear p r g1 g3
     generalize L2[k] = s at p' r' HSp
     clear hkl
     have s0 : wr.cell? ⟨b, off + k * 13, none⟩ = _ := p' 0 _ rfl
     have s1 : wr.cell? ⟨b, off + k * 13 + 1, none⟩ = _ := p' 1 _ rfl
     have s2 : wr.cell? ⟨b, off + k * 13 + 2, none⟩ = _ := p' 2 _ rfl
     have s3 : wr.cell? ⟨b, off + k * 13 + 3, none⟩ = _ := p' 3 _ rfl
     have s4 : wr.cell? ⟨b, off + k * 13 + 4, none⟩ = _ := p' 4 _ rfl
     have s5 : wr.cell? ⟨b, off + k * 13 + 5, none⟩ = _ := p' 5 _ rfl
     have s6 : wr.cell? ⟨b, off + k * 13 + 6, none⟩ = _ := p' 6 _ rfl
     have s7 : wr.cell? ⟨b, off + k * 13 + 7, none⟩ = _ := p' 7 _ rfl
     have s8 : wr.cell? ⟨b, off + k * 13 + 8, none⟩ = _ := p' 8 _ rfl
     have s9 : wr.cell? ⟨b, off + k * 13 + 9, none⟩ = _ := p' 9 _ rfl
     have s10 : wr.cell? ⟨b, off + k * 13 + 10, none⟩ = _ := p' 10 _ rfl
     have s11 : wr.cell? ⟨b, off + k * 13 + 11, none⟩ = _ := p' 11 _ rfl
     have s12 : wr.cell? ⟨b, off + k * 13 + 12, none⟩ = _ := p' 12 _ rfl
     have t0 : wr.cell? ⟨bb, off2 + k * 13, none⟩ = _ := r' 0 _ rfl
     have t1 : wr.cell? ⟨bb, off2 + k * 13 + 1, none⟩ = _ := r' 1 _ rfl
     have t2 : wr.cell? ⟨bb, off2 + k * 13 + 2, none⟩ = _ := r' 2 _ rfl
     have t3 : wr.cell? ⟨bb, off2 + k * 13 + 3, none⟩ = _ := r' 3 _ rfl
     have t4 : wr.cell? ⟨bb, off2 + k * 13 + 4, none⟩ = _ := r' 4 _ rfl
     have t5 : wr.cell? ⟨bb, off2 + k * 13 + 5, none⟩ = _ := r' 5 _ rfl
     have t6 : wr.cell? ⟨bb, off2 + k * 13 + 6, none⟩ = _ := r' 6 _ rfl
     have t7 : wr.cell? ⟨bb, off2 + k * 13 + 7, none⟩ = _ := r' 7 _ rfl
     have t8 : wr.cell? ⟨bb, off2 + k * 13 + 8, none⟩ = _ := r' 8 _ rfl
     have t9 : wr.cell? ⟨bb, off2 + k * 13 + 9, none⟩ = _ := r' 9 _ rfl
     have t10 : wr.cell? ⟨bb, off2 + k * 13 + 10, none⟩ = _ := r' 10 _ rfl
     have t11 : wr.cell? ⟨bb, off2 + k * 13 + 11, none⟩ = _ := r' 11 _ rfl
     have t12 : wr.cell? ⟨bb, off2 + k * 13 + 12, none⟩ = _ := r' 12 _ rfl
     have r2 : ∀ i v, (#[.int .u32 (s.name : Nat), .int .u32 (s.typ : Nat), .int .u64 (s.flags : Nat), .int .u64 (s.addr : Nat), .int .u64 (s.size : Nat), .int .u32 (s.link : Nat), .int .u32 (s.info : Nat), .int .u64 (s.align : Nat), .int .u64 (s.entsize : Nat), .int .i64 s.pl.inn, .int .u64 (s.pl.off : Nat), .int .u64 (s.pl.size : Nat), .slice B3 k3 e3] : Array Value)[i]? = some v → (wr.alloc (.cells #[.int .u32 (s.name : Nat), .int .u32 (s.typ : Nat), .int .u64 (s.flags : Nat), .int .u64 (s.addr : Nat), .int .u64 (s.size : Nat), .int .u32 (s.link : Nat), .int .u32 (s.info : Nat), .int .u64 (s.align : Nat), .int .u64 (s.entsize : Nat), .int .i64 s.pl.inn, .int .u64 (s.pl.off : Nat), .int .u64 (s.pl.size : Nat), .slice B1 k1 e1] 53)).cell? ⟨bb, off2 + k * 13 + i, none⟩ = some v := fun i v hv => (Below.cell (Grow.of_alloc wr _) HBB.out).trans (r' i v hv)
     have u0 : (wr.alloc (.cells #[.int .u32 (s.name : Nat), .int .u32 (s.typ : Nat), .int .u64 (s.flags : Nat), .int .u64 (s.addr : Nat), .int .u64 (s.size : Nat), .int .u32 (s.link : Nat), .int .u32 (s.info : Nat), .int .u64 (s.align : Nat), .int .u64 (s.entsize : Nat), .int .i64 s.pl.inn, .int .u64 (s.pl.off : Nat), .int .u64 (s.pl.size : Nat), .slice B1 k1 e1] 53)).cell? ⟨bb, off2 + k * 13, none⟩ = _ := r2 0 _ rfl
     have u1 : (wr.alloc (.cells #[.int .u32 (s.name : Nat), .int .u32 (s.typ : Nat), .int .u64 (s.flags : Nat), .int .u64 (s.addr : Nat), .int .u64 (s.size : Nat), .int .u32 (s.link : Nat), .int .u32 (s.info : Nat), .int .u64 (s.align : Nat), .int .u64 (s.entsize : Nat), .int .i64 s.pl.inn, .int .u64 (s.pl.off : Nat), .int .u64 (s.pl.size : Nat), .slice B1 k1 e1] 53)).cell? ⟨bb, off2 + k * 13 + 1, none⟩ = _ := r2 1 _ rfl
     have u2 : (wr.alloc (.cells #[.int .u32 (s.name : Nat), .int .u32 (s.typ : Nat), .int .u64 (s.flags : Nat), .int .u64 (s.addr : Nat), .int .u64 (s.size : Nat), .int .u32 (s.link : Nat), .int .u32 (s.info : Nat), .int .u64 (s.align : Nat), .int .u64 (s.entsize : Nat), .int .i64 s.pl.inn, .int .u64 (s.pl.off : Nat), .int .u64 (s.pl.size : Nat), .slice B1 k1 e1] 53)).cell? ⟨bb, off2 + k * 13 + 2, none⟩ = _ := r2 2 _ rfl
     have u3 : (wr.alloc (.cells #[.int .u32 (s.name : Nat), .int .u32 (s.typ : Nat), .int .u64 (s.flags : Nat), .int .u64 (s.addr : Nat), .int .u64 (s.size : Nat), .int .u32 (s.link : Nat), .int .u32 (s.info : Nat), .int .u64 (s.align : Nat), .int .u64 (s.entsize : Nat), .int .i64 s.pl.inn, .int .u64 (s.pl.off : Nat), .int .u64 (s.pl.size : Nat), .slice B1 k1 e1] 53)).cell? ⟨bb, off2 + k * 13 + 3, none⟩ = _ := r2 3 _ rfl
     have u4 : (wr.alloc (.cells #[.int .u32 (s.name : Nat), .int .u32 (s.typ : Nat), .int .u64 (s.flags : Nat), .int .u64 (s.addr : Nat), .int .u64 (s.size : Nat), .int .u32 (s.link : Nat), .int .u32 (s.info : Nat), .int .u64 (s.align : Nat), .int .u64 (s.entsize : Nat), .int .i64 s.pl.inn, .int .u64 (s.pl.off : Nat), .int .u64 (s.pl.size : Nat), .slice B1 k1 e1] 53)).cell? ⟨bb, off2 + k * 13 + 4, none⟩ = _ := r2 4 _ rfl
     have u5 : (wr.alloc (.cells #[.int .u32 (s.name : Nat), .int .u32 (s.typ : Nat), .int .u64 (s.flags : Nat), .int .u64 (s.addr : Nat), .int .u64 (s.size : Nat), .int .u32 (s.link : Nat), .int .u32 (s.info : Nat), .int .u64 (s.align : Nat), .int .u64 (s.entsize : Nat), .int .i64 s.pl.inn, .int .u64 (s.pl.off : Nat), .int .u64 (s.pl.size : Nat), .slice B1 k1 e1] 53)).cell? ⟨bb, off2 + k * 13 + 5, none⟩ = _ := r2 5 _ rfl
     have u6 : (wr.alloc (.cells #[.int .u32 (s.name : Nat), .int .u32 (s.typ : Nat), .int .u64 (s.flags : Nat), .int .u64 (s.addr : Nat), .int .u64 (s.size : Nat), .int .u32 (s.link : Nat), .int .u32 (s.info : Nat), .int .u64 (s.align : Nat), .int .u64 (s.entsize : Nat), .int .i64 s.pl.inn, .int .u64 (s.pl.off : Nat), .int .u64 (s.pl.size : Nat), .slice B1 k1 e1] 53)).cell? ⟨bb, off2 + k * 13 + 6, none⟩ = _ := r2 6 _ rfl
     have u7 : (wr.alloc (.cells #[.int .u32 (s.name : Nat), .int .u32 (s.typ : Nat), .int .u64 (s.flags : Nat), .int .u64 (s.addr : Nat), .int .u64 (s.size : Nat), .int .u32 (s.link : Nat), .int .u32 (s.info : Nat), .int .u64 (s.align : Nat), .int .u64 (s.entsize : Nat), .int .i64 s.pl.inn, .int .u64 (s.pl.off : Nat), .int .u64 (s.pl.size : Nat), .slice B1 k1 e1] 53)).cell? ⟨bb, off2 + k * 13 + 7, none⟩ = _ := r2 7 _ rfl
     have u8 : (wr.alloc (.cells #[.int .u32 (s.name : Nat), .int .u32 (s.typ : Nat), .int .u64 (s.flags : Nat), .int .u64 (s.addr : Nat), .int .u64 (s.size : Nat), .int .u32 (s.link : Nat), .int .u32 (s.info : Nat), .int .u64 (s.align : Nat), .int .u64 (s.entsize : Nat), .int .i64 s.pl.inn, .int .u64 (s.pl.off : Nat), .int .u64 (s.pl.size : Nat), .slice B1 k1 e1] 53)).cell? ⟨bb, off2 + k * 13 + 8, none⟩ = _ := r2 8 _ rfl
     have u9 : (wr.alloc (.cells #[.int .u32 (s.name : Nat), .int .u32 (s.typ : Nat), .int .u64 (s.flags : Nat), .int .u64 (s.addr : Nat), .int .u64 (s.size : Nat), .int .u32 (s.link : Nat), .int .u32 (s.info : Nat), .int .u64 (s.align : Nat), .int .u64 (s.entsize : Nat), .int .i64 s.pl.inn, .int .u64 (s.pl.off : Nat), .int .u64 (s.pl.size : Nat), .slice B1 k1 e1] 53)).cell? ⟨bb, off2 + k * 13 + 9, none⟩ = _ := r2 9 _ rfl
     have u10 : (wr.alloc (.cells #[.int .u32 (s.name : Nat), .int .u32 (s.typ : Nat), .int .u64 (s.flags : Nat), .int .u64 (s.addr : Nat), .int .u64 (s.size : Nat), .int .u32 (s.link : Nat), .int .u32 (s.info : Nat), .int .u64 (s.align : Nat), .int .u64 (s.entsize : Nat), .int .i64 s.pl.inn, .int .u64 (s.pl.off : Nat), .int .u64 (s.pl.size : Nat), .slice B1 k1 e1] 53)).cell? ⟨bb, off2 + k * 13 + 10, none⟩ = _ := r2 10 _ rfl
     have u11 : (wr.alloc (.cells #[.int .u32 (s.name : Nat), .int .u32 (s.typ : Nat), .int .u64 (s.flags : Nat), .int .u64 (s.addr : Nat), .int .u64 (s.size : Nat), .int .u32 (s.link : Nat), .int .u32 (s.info : Nat), .int .u64 (s.align : Nat), .int .u64 (s.entsize : Nat), .int .i64 s.pl.inn, .int .u64 (s.pl.off : Nat), .int .u64 (s.pl.size : Nat), .slice B1 k1 e1] 53)).cell? ⟨bb, off2 + k * 13 + 11, none⟩ = _ := r2 11 _ rfl
     have u12 : (wr.alloc (.cells #[.int .u32 (s.name : Nat), .int .u32 (s.typ : Nat), .int .u64 (s.flags : Nat), .int .u64 (s.addr : Nat), .int .u64 (s.size : Nat), .int .u32 (s.link : Nat), .int .u32 (s.info : Nat), .int .u64 (s.align : Nat), .int .u64 (s.entsize : Nat), .int .i64 s.pl.inn, .int .u64 (s.pl.off : Nat), .int .u64 (s.pl.size : Nat), .slice B1 k1 e1] 53)).cell? ⟨bb, off2 + k * 13 + 12, none⟩ = _ := r2 12 _ rfl
     have m8 := HX1.out.at 9
     have y8 := HY1.out.at 9
     have y8a := (HY1.out.grow (Grow.of_alloc wr (.cells #[.int .u32 (s.name : Nat), .int .u32 (s.typ : Nat), .int .u64 (s.flags : Nat), .int .u64 (s.addr : Nat), .int .u64 (s.size : Nat), .int .u32 (s.link : Nat), .int .u32 (s.info : Nat), .int .u64 (s.align : Nat), .int .u64 (s.entsize : Nat), .int .i64 s.pl.inn, .int .u64 (s.pl.off : Nat), .int .u64 (s.pl.size : Nat), .slice B1 k1 e1] 53))).at 9
     clear p' r' r2
     have w0 : (0 : Int) ≤ (k : Int) := by omega
     have w1 : (k : Int) < (n2 : Int) := by omega
     have d1 : decide ((k : Int) < (n2 : Int)) = true := decide_eq_true (by omega)
     go_wp2_with fail
     generalize hW : World.alloc _ _ = W5
     obtain ⟨b5, b6, hg⟩ := blk2 hW
     clear hW d1 m8 y8 y8a s0 s1 s2 s3 s4 s5 s6 s7 s8 s9 s10 s11 s12 t0 t1 t2 t3 t4 t5 t6 t7 t8 t9 t10 t11 t12 u0 u1 u2 u3 u4 u5 u6 u7 u8 u9 u10 u11 u12
     have HX2 := hid (HX1.out.grow hg)
     have HY2 := hid (HY1.out.grow hg)
     have HW2 : Hid (Grow w W5) := hid (HW1.out.trans hg)
     have H5 := hid b5
     have H6 := hid b6
     clear b5 b6 hg HX1 HY1 HW1
     generalize wr.heap.size + 1 = g6 at H6 ⊢
     generalize wr.heap.size = g5 at H5 ⊢
     refine (HSp.out _ HW2.out).mono ?_
     rintro e w6 ⟨rfl, hg⟩
     have HX3 := hid (HX2.out.grow hg)
     have HY3 := hid (HY2.out.grow hg)
     have HW3 : Hid (Grow w w6) := hid (HW2.out.trans hg)
     obtain ⟨s0, s1, s2, s3, s4, s5, s6, s7, s8, s9, s10, s11, s12⟩ := (H5.out.grow hg).c13
     obtain ⟨t0, t1, t2, t3, t4, t5, t6, t7, t8, t9, t10, t11, t12⟩ := (H6.out.grow hg).c13
     clear hg HX2 HY2 HW2 H5 H6 HSp
     go_wp2
     go_roundw
     case rel => exact ⟨k + 1, by omega, by go_num, HX3.out, HY3.out, HW3.out⟩
     case measure => simp [intOf]; omega
    ·have d1 : decide ((k : Int) < (n2 : Int)) = false := decide_eq_false (by omega)
     have m9 := HX1.out.at 9
     go_wp2
     go_ret
     exact ⟨rfl, HW1.out⟩
set_option maxRecDepth 100000
set_option linter.unusedVariables false
set_option maxHeartbeats 8000000 in
theorem stripTells_core (m : Md) (ok : m.Ok) (A1 A2 : Option Addr) (n1 c1 n2 c2 : Nat) (w : World) (g1 : ZR sgK w w.heap.size A1 n1 c1 m.segs) (g2 : ZR seK w w.heap.size A2 n2 c2 m.secs)
  (hs1 : ∀ s ∈ m.segs, s.pl.own.length ≤ reachBytes) (hs2 : ∀ s ∈ m.secs, s.pl.own.length ≤ reachBytes) :
  Calls Try.prog 3 #[.agg (mdC m (.slice A1 n1 c1) (.slice A2 n2 c2))] w fun e w' => e = .returned (.bool true) ∧ Grow w w' := by
 have hsm := sum_small g1.len g2.len hs1 hs2
 have hr : reachBytes ≤ 140737488355328 := by decide
 have hb1 : ∀ s ∈ m.segs, s.pl.own.length ≤ 140737488355328 := fun s hs => Nat.le_trans (hs1 s hs) hr
 have hb2 : ∀ s ∈ m.secs, s.pl.own.length ≤ 140737488355328 := fun s hs => Nat.le_trans (hs2 s hs) hr
 have HF := hid (fun (W : World) (hg : Grow w W) => few_any m A1 A2 n1 c1 n2 c2 W (g1.grow hg) (g2.grow hg) hsm)
 have HC := hid (fun (W : World) (hg : Grow w W) => rCheck_any m ok A1 A2 n1 c1 n2 c2 W (g1.grow hg) (g2.grow hg))
 have HS := hid (fun (h : m.chk = 0) (W : World) (hg : Grow w W) => strip_any m ok A1 A2 n1 c1 n2 c2 W (g1.grow hg) (g2.grow hg) (strs_le hb1 hb2) (by have := (chk_few h).1; have := g1.len; omega) (by have := (chk_few h).2; have := g2.len; omega) hb1 hb2)
 have HR := hid (fun (h : m.chk = 0) (W : World) (hg : Grow w W) => rStrip_any m ok h A1 A2 n1 c1 n2 c2 W (g2.grow hg) hb2 (by have := (chk_few h).2; have := g2.len; omega))
 have HQ := hid (fun (A3 A4 A5 : Option Addr) (c3 c4 c5 : Nat) (W : World) h3 h4 h1 h5 => rSame_any m.strip A3 A4 A1 A5 n1 c3 n2 c4 n1 c1 n2 c5 W h3 h4 h1 h5)
 have HG := hid (fun (h : m.chk = 0) (W : World) (hg : Grow w W) => goes_any m ok A1 A2 n1 c1 n2 c2 W (g1.grow hg) (g2.grow hg) (strs_le hb1 hb2) (by have := (chk_few h).2; have := g2.len; omega))
 have HH := hid (fun (h : m.chk = 0) (W : World) (hg : Grow w W) => rGoes_any m ok h (.slice A1 n1 c1) A2 n2 c2 W (g2.grow hg) hb2 (by have := (chk_few h).2; have := g2.len; omega))
 have HBl := hid (fun A A' c c' W h h' => bools_any A A' n2 c c' m.goes W h h')
 have HZ1 := hid g1
 have hmx : n2 ≤ maxLen := Nat.le_trans g2.cap g2.max
 have HW1 := hid (fun (g : Nat) (W : World) (h : W.rowIs g 4 n2 (bvl m.goes)) => BR.of_row h hmx)
 have HW2 := hid (fun (A : Option Addr) (c : Nat) (W : World) (b : Nat) (h : ZO W b 4 1 A n2 c (bRow m.goes n2)) => BR.of_rows h)
 have es : m.strip.segs = m.segs := rfl
 unfold mdC at HF HC HS HR HQ HG HH ⊢
 have x0 : m.strip.wide = m.wide := rfl
 have x1 : m.strip.big = m.big := rfl
 have x2 : m.strip.osabi = m.osabi := rfl
 have x3 : m.strip.abi = m.abi := rfl
 have x4 : m.strip.typ = m.typ := rfl
 have x5 : m.strip.mach = m.mach := rfl
 have x6 : m.strip.flags = m.flags := rfl
 have x7 : m.strip.entry = m.entry := rfl
 have x10 : m.strip.str = m.str := rfl
 rw [es, x0, x1, x2, x3, x4, x5, x6, x7, x10] at HQ
 clear g1 g2 ok hs1 hs2 hsm hb1 hb2 hr hmx es x0 x1 x2 x3 x4 x5 x6 x7 x10
 generalize m.few = fw at *
 generalize m.chk = ck at *
 generalize bRow m.goes n2 = Bw at *
 generalize m.goes = Gg at *
 generalize m.strip.secs = Lx at *
 generalize m.segs = L1 at *
 generalize m.secs = L2 at *
 generalize m.wide = f0 at *
 generalize m.big = f1 at *
 generalize m.osabi = f2 at *
 generalize m.abi = f3 at *
 generalize m.typ = f4 at *
 generalize m.mach = f5 at *
 generalize m.flags = f6 at *
 generalize m.entry = f7 at *
 generalize m.str = f10 at *
 go_enter Try.func3, Try.ntmps3
 go_wp2_with fail
 generalize hW : World.alloc _ _ = W0
 obtain ⟨b1, hg0⟩ := blk1 hW
 clear hW
 obtain ⟨gm, hgm⟩ : ∃ g, g = w.heap.size := ⟨_, rfl⟩
 rw [← hgm] at b1 ⊢
 have HM0 := hid b1
 have HG0 := hid hg0
 clear b1 hg0 hgm
 refine (up18 _).mono ?_
 rintro e w1 ⟨rfl, hg⟩
 have HM1 := hid (HM0.out.grow hg)
 have HG1 : Hid (Grow w w1) := hid (HG0.out.trans hg)
 clear hg HM0 HG0
 obtain ⟨v0, v1, v2, v3, v4, v5, v6, v7, v8, v9, v10⟩ := HM1.out.c11
 go_wp2_with fail
 clear v0 v1 v2 v3 v4 v5 v6 v7 v8 v9 v10
 refine (HF.out _ HG1.out).mono ?_
 rintro e w2 ⟨rfl, hg⟩
 have HM2 := hid (HM1.out.grow hg)
 have HG2 : Hid (Grow w w2) := hid (HG1.out.trans hg)
 clear hg HM1 HG1 HF
 by_cases hf : fw = 0
 ·have d : ((fw : Int) == 0) = true := by simp [hf]
  clear hf
  go_wp2
  go_ret
  exact ⟨rfl, HG2.out⟩
 have d : ((fw : Int) == 0) = false := by simp; omega
 clear hf
 obtain ⟨v0, v1, v2, v3, v4, v5, v6, v7, v8, v9, v10⟩ := HM2.out.c11
 go_wp2_with fail
 clear v0 v1 v2 v3 v4 v5 v6 v7 v8 v9 v10
 clear d
 refine (HC.out _ HG2.out).mono ?_
 rintro e w3 ⟨rfl, hg⟩
 have HM3 := hid (HM2.out.grow hg).drew
 have HG3 : Hid (Grow w w3) := hid (HG2.out.trans hg)
 clear hg HM2 HG2 HC
 by_cases hk : ck = 0
 rotate_left
 ·have d : ((ck : Int) != 0) = true := by simp; omega
  clear hk
  go_wp2
  go_ret
  exact ⟨rfl, HG3.out⟩
 have d : ((ck : Int) != 0) = false := by simp [hk]
 have HS1 := hid (HS.out hk)
 have HR1 := hid (HR.out hk)
 have HGo := hid (HG.out hk)
 have HHo := hid (HH.out hk)
 clear HS HR HG HH
 clear hk
 go_wp2_with fail
 clear d
 refine wp_region_chain [(0, true), (2, true), (1, false), (3, false), (4, false), (5, true)] (by kernel_rfl) (by kernel_rfl) (by kernel_rfl) ?_
 have HG4 : Hid (Grow w w3.drew) := hid (HG3.out.trans (Grow.of_drew _))
 clear HG3
 generalize w3.drew = v0 at HM3 HG4 ⊢
 have q0 : ∀ W, Grow v0 W → W.cell? ⟨gm, 0, none⟩ = some (.bool f0) := fun W hW => (HM3.out.grow hW).at 0
 have q1 : ∀ W, Grow v0 W → W.cell? ⟨gm, 1, none⟩ = some (.bool f1) := fun W hW => (HM3.out.grow hW).at 1
 have q2 : ∀ W, Grow v0 W → W.cell? ⟨gm, 2, none⟩ = some (.int .u8 (f2 : Nat)) := fun W hW => (HM3.out.grow hW).at 2
 have q3 : ∀ W, Grow v0 W → W.cell? ⟨gm, 3, none⟩ = some (.int .u8 (f3 : Nat)) := fun W hW => (HM3.out.grow hW).at 3
 have q4 : ∀ W, Grow v0 W → W.cell? ⟨gm, 4, none⟩ = some (.int .u16 (f4 : Nat)) := fun W hW => (HM3.out.grow hW).at 4
 have q5 : ∀ W, Grow v0 W → W.cell? ⟨gm, 5, none⟩ = some (.int .u16 (f5 : Nat)) := fun W hW => (HM3.out.grow hW).at 5
 have q6 : ∀ W, Grow v0 W → W.cell? ⟨gm, 6, none⟩ = some (.int .u32 (f6 : Nat)) := fun W hW => (HM3.out.grow hW).at 6
 have q7 : ∀ W, Grow v0 W → W.cell? ⟨gm, 7, none⟩ = some (.int .u64 (f7 : Nat)) := fun W hW => (HM3.out.grow hW).at 7
 have q8 : ∀ W, Grow v0 W → W.cell? ⟨gm, 8, none⟩ = some (.slice A1 n1 c1) := fun W hW => (HM3.out.grow hW).at 8
 have q9 : ∀ W, Grow v0 W → W.cell? ⟨gm, 9, none⟩ = some (.slice A2 n2 c2) := fun W hW => (HM3.out.grow hW).at 9
 have q10 : ∀ W, Grow v0 W → W.cell? ⟨gm, 10, none⟩ = some (.int .i64 f10) := fun W hW => (HM3.out.grow hW).at 10
 repeat ((first | (refine chain_take rfl (by rfl) ?_ (fun W hG => ?_) ?_; rotate_left; (go_simp; rfl)) | refine chain_skip rfl (by rfl) ?_); simp only [Act.put, List.setIfInBounds_toArray, List.set_cons_zero, List.set_cons_succ])
 clear q0 q1 q2 q3 q4 q5 q6 q7 q8 q9 q10
 refine chain_only rfl (by rfl) (fun K hK => ?_)
 go_simp
 refine (HS1.out _ HG4.out).mono ?_
 rintro e w4 ⟨A3, c3, A4, c4, rfl, h3, h4, hg⟩
 refine hK _ _ hg ?_
 clear hK K
 have HM4 := hid (HM3.out.grow hg)
 have HG5 : Hid (Grow w w4) := hid (HG4.out.trans hg)
 have H3 := hid h3
 have H4 := hid h4
 clear h3 h4 hg HM3 HG4 HS1
 repeat ((first | (refine chain_take rfl (by rfl) ?_ (fun W hG => ?_) ?_; rotate_left; (go_simp; rfl)) | refine chain_skip rfl (by rfl) ?_); simp only [Act.put, List.setIfInBounds_toArray, List.set_cons_zero, List.set_cons_succ])
 refine chain_only rfl (by rfl) (fun K hK => ?_)
 go_simp
 refine (HR1.out _ HG5.out).mono ?_
 rintro e w5 ⟨A5, c5, rfl, h5, hg⟩
 refine hK _ _ hg ?_
 clear hK K
 have HM5 := hid (HM4.out.grow hg)
 have HG6 : Hid (Grow w w5) := hid (HG5.out.trans hg)
 have H3' := hid (H3.out.grow hg)
 have H4' := hid (H4.out.grow hg)
 have H5 := hid h5
 clear h5 hg HM4 HG5 HR1 H3 H4
 repeat ((first | (refine chain_take rfl (by rfl) ?_ (fun W hG => ?_) ?_; rotate_left; (go_simp; rfl)) | refine chain_skip rfl (by rfl) ?_); simp only [Act.put, List.setIfInBounds_toArray, List.set_cons_zero, List.set_cons_succ])
 refine chain_only rfl (by rfl) (fun K hK => ?_)
 go_simp
 refine (HQ.out A3 A4 A5 c3 c4 c5 _ H3'.out H4'.out (HZ1.out.grow HG6.out) H5.out).mono ?_
 rintro e w6 ⟨rfl, hg⟩
 refine hK _ _ hg ?_
 clear hK K
 have HM6 := hid (HM5.out.grow hg).drew
 have HG7 : Hid (Grow w w6.drew) := hid ((HG6.out.trans hg).trans (Grow.of_drew _))
 clear hg HM5 HG6 H3' H4' H5 HQ HZ1
 repeat ((first | (refine chain_take rfl (by rfl) ?_ (fun W hG => ?_) ?_; rotate_left; (go_simp; rfl)) | refine chain_skip rfl (by rfl) ?_); simp only [Act.put, List.setIfInBounds_toArray, List.set_cons_zero, List.set_cons_succ])
 refine chain_done ?_
 go_wp2_with fail
 refine wp_region_chain [(0, true), (1, true), (2, true), (4, true), (3, false), (5, false), (6, false), (7, true), (8, true), (9, true), (10, true), (11, true), (12, true)] (by kernel_rfl) (by kernel_rfl) (by kernel_rfl) ?_
 generalize w6.drew = v0 at HM6 HG7 ⊢
 have q0 : ∀ W, Grow v0 W → W.cell? ⟨gm, 0, none⟩ = some (.bool f0) := fun W hW => (HM6.out.grow hW).at 0
 have q1 : ∀ W, Grow v0 W → W.cell? ⟨gm, 1, none⟩ = some (.bool f1) := fun W hW => (HM6.out.grow hW).at 1
 have q2 : ∀ W, Grow v0 W → W.cell? ⟨gm, 2, none⟩ = some (.int .u8 (f2 : Nat)) := fun W hW => (HM6.out.grow hW).at 2
 have q3 : ∀ W, Grow v0 W → W.cell? ⟨gm, 3, none⟩ = some (.int .u8 (f3 : Nat)) := fun W hW => (HM6.out.grow hW).at 3
 have q4 : ∀ W, Grow v0 W → W.cell? ⟨gm, 4, none⟩ = some (.int .u16 (f4 : Nat)) := fun W hW => (HM6.out.grow hW).at 4
 have q5 : ∀ W, Grow v0 W → W.cell? ⟨gm, 5, none⟩ = some (.int .u16 (f5 : Nat)) := fun W hW => (HM6.out.grow hW).at 5
 have q6 : ∀ W, Grow v0 W → W.cell? ⟨gm, 6, none⟩ = some (.int .u32 (f6 : Nat)) := fun W hW => (HM6.out.grow hW).at 6
 have q7 : ∀ W, Grow v0 W → W.cell? ⟨gm, 7, none⟩ = some (.int .u64 (f7 : Nat)) := fun W hW => (HM6.out.grow hW).at 7
 have q8 : ∀ W, Grow v0 W → W.cell? ⟨gm, 8, none⟩ = some (.slice A1 n1 c1) := fun W hW => (HM6.out.grow hW).at 8
 have q9 : ∀ W, Grow v0 W → W.cell? ⟨gm, 9, none⟩ = some (.slice A2 n2 c2) := fun W hW => (HM6.out.grow hW).at 9
 have q10 : ∀ W, Grow v0 W → W.cell? ⟨gm, 10, none⟩ = some (.int .i64 f10) := fun W hW => (HM6.out.grow hW).at 10
 repeat ((first | (refine chain_take rfl (by rfl) ?_ (fun W hG => ?_) ?_; rotate_left; (go_simp; rfl)) | refine chain_skip rfl (by rfl) ?_); simp only [Act.put, List.setIfInBounds_toArray, List.set_cons_zero, List.set_cons_succ])
 clear q0 q1 q2 q3 q4 q5 q6 q7 q8 q9 q10
 refine chain_only rfl (by rfl) (fun K hK => ?_)
 go_simp
 refine (HGo.out _ HG7.out).mono ?_
 rintro e w7 ⟨ga, rfl, -, hr, hg⟩
 refine hK _ _ hg ?_
 clear hK K
 have HG8 : Hid (Grow w w7) := hid (HG7.out.trans hg)
 have HA := hid (HW1.out ga w7 hr)
 clear hr hg HM6 HG7 HGo
 repeat ((first | (refine chain_take rfl (by rfl) ?_ (fun W hG => ?_) ?_; rotate_left; (go_simp; rfl)) | refine chain_skip rfl (by rfl) ?_); simp only [Act.put, List.setIfInBounds_toArray, List.set_cons_zero, List.set_cons_succ])
 refine chain_only rfl (by rfl) (fun K hK => ?_)
 go_simp
 refine (HHo.out _ HG8.out).mono ?_
 rintro e w8 ⟨A6, c6, rfl, hz, hg⟩
 refine hK _ _ hg ?_
 clear hK K
 have HG9 : Hid (Grow w w8) := hid (HG8.out.trans hg)
 have HA' := hid (HA.out.grow hg)
 have HB := hid (HW2.out A6 c6 w8 _ hz)
 clear hz hg HG8 HHo HA
 repeat ((first | (refine chain_take rfl (by rfl) ?_ (fun W hG => ?_) ?_; rotate_left; (go_simp; rfl)) | refine chain_skip rfl (by rfl) ?_); simp only [Act.put, List.setIfInBounds_toArray, List.set_cons_zero, List.set_cons_succ])
 refine chain_only rfl (by rfl) (fun K hK => ?_)
 go_simp
 refine (HBl.out _ _ _ _ _ HA'.out HB.out).mono ?_
 rintro e w9 ⟨rfl, hg⟩
 refine hK _ _ hg ?_
 clear hK K
 have HG10 : Hid (Grow w w9) := hid (HG9.out.trans hg)
 clear hg HG9 HA' HB
 repeat ((first | (refine chain_take rfl (by rfl) ?_ (fun W hG => ?_) ?_; rotate_left; (go_simp; rfl)) | refine chain_skip rfl (by rfl) ?_); simp only [Act.put, List.setIfInBounds_toArray, List.set_cons_zero, List.set_cons_succ])
 refine chain_done ?_
 go_wp2
 go_ret
 exact ⟨rfl, HG10.out⟩
end Go.Proofs.Ytfbimboemahhhaa
