/-
  Several texts in one: The contract of the document's own Same at two readings of one model; Small facts of a model's number; The walk of TopTotal; From what the frame tells of a slice of bytes that came in to RB; What came in as a number, and as a slice of bytes, opened; What came in as a model, opened.
-/
import Derived.Test.YtfglppjilcaafaaGreatDoorTtH4
import Derived.Test.YtfglppjilcaafaaGreatDoorTtH9
import Derived.Test.YtfglppjilcaafaaGreatDoorTtH1
import Derived.Test.YtfglppjilcaafaaGreatDoorTtH8
import Derived.Test.YtfglppjilcaafaaGreatDoorTtH7
import Derived.Test.YtfglppjilcaafaaGreatDoorTtH10
import Derived.Test.YtfglppjilcaafaaGreatDoorRows
import Derived.WalkKit
import Derived.Lib.Hide
import Derived.Test.YtfglppjilcaafaaGreatDoorTtH28
import Derived.Test.YtfglppjilcaafaaGreatDoorTtH2
import Derived.OpenShut
import Derived.Deep.SlicePairs
import Derived.Lib.SmallJoins
import Derived.Test.YtfglppjilcaafaaGreatDoorTtH3
import Derived.Deep.Slices
import Derived.SizedLaws
namespace Go.Proofs.YtfglppjilcaafaaGreatDoor
open Go.Lib (hid)
open Go.RowKit
set_option maxRecDepth 100000
set_option linter.unusedVariables false
set_option maxHeartbeats 4000000 in
theorem rSamePlace_any (p : Pl) (A A' : Option Addr) (n c n' c' : Nat) (w : World) (h : RB w w.heap.size A n c p.own) (h' : RB w w.heap.size A' n' c' p.own) :
  Calls Tryz.prog 31 #[.agg (plC p (.slice A n c)), .agg (plC p (.slice A' n' c'))] w fun e w' => e = .returned (.bool true) ∧ Grow w w' := by
 have hs1 := (h.grow ((Grow.of_alloc w (.cells (plC p (.slice A n c)) 68)).trans (Grow.of_alloc _ (.cells (plC p (.slice A' n' c')) 68)))).conv (Nat.le_refl _) _ (Grow.refl _)
 have hs2 := (h'.grow ((Grow.of_alloc w (.cells (plC p (.slice A n c)) 68)).trans (Grow.of_alloc _ (.cells (plC p (.slice A' n' c')) 68)))).conv (Nat.le_refl _) _ (Grow.refl _)
 unfold plC at hs1 hs2 ⊢
 clear h h'
 generalize p.inn = i at *
 generalize p.off = o at *
 generalize p.size = z at *
 go_enter Tryz.func31, Tryz.ntmps31
 go_wp2
 go_ret
 exact ⟨rfl, (Grow.of_alloc _ _).trans (Grow.of_alloc _ _)⟩
set_option maxHeartbeats 20000000 in
theorem rSame_any (m : Md) (A1 A2 A3 A4 : Option Addr) (n1 c1 n2 c2 n3 c3 n4 c4 : Nat) (w : World) (g1 : ZR sgK w w.heap.size A1 n1 c1 m.segs) (g2 : ZR seK w w.heap.size A2 n2 c2 m.secs) (g3 : ZR sgK w w.heap.size A3 n3 c3 m.segs) (g4 : ZR seK w w.heap.size A4 n4 c4 m.secs) :
  Calls Tryz.prog 11 #[.agg (mdC m (.slice A1 n1 c1) (.slice A2 n2 c2)), .agg (mdC m (.slice A3 n3 c3) (.slice A4 n4 c4))] w fun e w' => e = .returned (.bool true) ∧ Grow w w' := by
 obtain rfl : n1 = n3 := g1.len.trans g3.len.symm
 obtain rfl : n2 = n4 := g2.len.trans g4.len.symm
 have H1 := hid g1
 have H2 := hid g2
 have H3 := hid g3
 have H4 := hid g4
 have HL1 := hid g1.len
 have HL2 := hid g2.len
 have a1 := g1.cap
 have a2 := g1.max
 have a3 := g2.cap
 have a4 := g2.max
 have a5 := g3.cap
 have a6 := g3.max
 have a7 := g4.cap
 have a8 := g4.max
 unfold maxLen at a2 a4 a6 a8
 unfold mdC
 clear g1 g2 g3 g4
 generalize m.segs = L1 at *
 generalize m.secs = L2 at *
 generalize m.wide = f0
 generalize m.big = f1
 generalize m.osabi = f2
 generalize m.abi = f3
 generalize m.typ = f4
 generalize m.mach = f5
 generalize m.flags = f6
 generalize m.entry = f7
 generalize m.str = f10
 go_enter Tryz.func11, Tryz.ntmps11
 apply wp_seq_k
 intro K hK
 have HK := hid hK
 clear hK
 go_wp2
 apply HK.out
 clear HK
 clear K
 generalize hW : World.alloc _ _ = W0
 obtain ⟨b1, b2, hg0⟩ := blk2 hW
 clear hW
 have HX := hid b1
 have HY := hid b2
 have HW := hid hg0
 clear b1 b2 hg0
 generalize w.heap.size + 1 = gy at HY ⊢
 obtain ⟨gx, hgx⟩ : ∃ g, g = w.heap.size := ⟨_, rfl⟩
 rw [← hgx] at HX ⊢
 clear hgx
 obtain ⟨x0, x1, x2, x3, x4, x5, x6, x7, x8, x9, x10⟩ := HX.out.c11
 obtain ⟨y0, y1, y2, y3, y4, y5, y6, y7, y8, y9, y10⟩ := HY.out.c11
 go_wp2_with fail
 clear x0 x1 x2 x3 x4 x5 x6 x7 x8 x9 x10 y0 y1 y2 y3 y4 y5 y6 y7 y8 y9 y10
 go_loopw [5] (fun i wr => ∃ k : Nat, k ≤ n1 ∧ i = .int .i64 k ∧ Blk wr gx 32 #[.bool f0, .bool f1, .int .u8 (f2 : Nat), .int .u8 (f3 : Nat), .int .u16 (f4 : Nat), .int .u16 (f5 : Nat), .int .u32 (f6 : Nat), .int .u64 (f7 : Nat), .slice A1 n1 c1, .slice A2 n2 c2, .int .i64 f10] ∧ Blk wr gy 32 #[.bool f0, .bool f1, .int .u8 (f2 : Nat), .int .u8 (f3 : Nat), .int .u16 (f4 : Nat), .int .u16 (f5 : Nat), .int .u32 (f6 : Nat), .int .u64 (f7 : Nat), .slice A3 n1 c3, .slice A4 n2 c4, .int .i64 f10] ∧ Grow w wr) (fun i _ => n1 - (intOf i).toNat)
 case atStart => exact ⟨0, Nat.zero_le _, rfl, HX.out, HY.out, HW.out⟩
 case round =>
  obtain ⟨k, hk, rfl, hx, hy, hg⟩ := hrel
  have HX1 := hid hx
  have HY1 := hid hy
  have HW1 := hid hg
  clear hx hy hg HX HY HW
  by_cases hlt : k < n1
  ·have hkl : k < L1.length := by rw [← HL1.out]; exact hlt
   obtain ⟨b, off, hAA, hb⟩ := H1.out.pos (by omega)
   obtain ⟨bb, off2, hAB, hbb⟩ := H3.out.pos (by omega)
   subst hAA
   subst hAB
   obtain ⟨B1, k1, e1, -, p, g1⟩ := H1.out.at hkl
   obtain ⟨B3, k3, e3, -, r, g3⟩ := H3.out.at hkl
   have p' : ∀ i v, (sgC L1[k] (.slice B1 k1 e1))[i]? = some v → wr.cell? ⟨b, off + k * 10 + i, none⟩ = some v := fun i v hv => (Below.cell HW1.out hb).trans (p i v hv)
   have r' : ∀ i v, (sgC L1[k] (.slice B3 k3 e3))[i]? = some v → wr.cell? ⟨bb, off2 + k * 10 + i, none⟩ = some v := fun i v hv => (Below.cell HW1.out hbb).trans (r i v hv)
   have HSp := hid (fun W (hW : Grow w W) => rSamePlace_any L1[k].pl B1 B3 k1 e1 k3 e3 W ((g1.belowAt hW (Nat.le_refl _)).more hW.size) ((g3.belowAt hW (Nat.le_refl _)).more hW.size))
   have HB := hid (Nat.lt_of_lt_of_le hb HW1.out.size)
   have HBB := hid (Nat.lt_of_lt_of_le hbb HW1.out.size)
   unfold sgC at p' r'
   unfold plC at HSp
   clear p r g1 g3
   generalize L1[k] = s at p' r' HSp
   clear hkl
   have s0 : wr.cell? ⟨b, off + k * 10, none⟩ = _ := p' 0 _ rfl
   have s1 : wr.cell? ⟨b, off + k * 10 + 1, none⟩ = _ := p' 1 _ rfl
   have s2 : wr.cell? ⟨b, off + k * 10 + 2, none⟩ = _ := p' 2 _ rfl
   have s3 : wr.cell? ⟨b, off + k * 10 + 3, none⟩ = _ := p' 3 _ rfl
   have s4 : wr.cell? ⟨b, off + k * 10 + 4, none⟩ = _ := p' 4 _ rfl
   have s5 : wr.cell? ⟨b, off + k * 10 + 5, none⟩ = _ := p' 5 _ rfl
   have s6 : wr.cell? ⟨b, off + k * 10 + 6, none⟩ = _ := p' 6 _ rfl
   have s7 : wr.cell? ⟨b, off + k * 10 + 7, none⟩ = _ := p' 7 _ rfl
   have s8 : wr.cell? ⟨b, off + k * 10 + 8, none⟩ = _ := p' 8 _ rfl
   have s9 : wr.cell? ⟨b, off + k * 10 + 9, none⟩ = _ := p' 9 _ rfl
   have t0 : wr.cell? ⟨bb, off2 + k * 10, none⟩ = _ := r' 0 _ rfl
   have t1 : wr.cell? ⟨bb, off2 + k * 10 + 1, none⟩ = _ := r' 1 _ rfl
   have t2 : wr.cell? ⟨bb, off2 + k * 10 + 2, none⟩ = _ := r' 2 _ rfl
   have t3 : wr.cell? ⟨bb, off2 + k * 10 + 3, none⟩ = _ := r' 3 _ rfl
   have t4 : wr.cell? ⟨bb, off2 + k * 10 + 4, none⟩ = _ := r' 4 _ rfl
   have t5 : wr.cell? ⟨bb, off2 + k * 10 + 5, none⟩ = _ := r' 5 _ rfl
   have t6 : wr.cell? ⟨bb, off2 + k * 10 + 6, none⟩ = _ := r' 6 _ rfl
   have t7 : wr.cell? ⟨bb, off2 + k * 10 + 7, none⟩ = _ := r' 7 _ rfl
   have t8 : wr.cell? ⟨bb, off2 + k * 10 + 8, none⟩ = _ := r' 8 _ rfl
   have t9 : wr.cell? ⟨bb, off2 + k * 10 + 9, none⟩ = _ := r' 9 _ rfl
   have r2 : ∀ i v, (#[.int .u32 (s.typ : Nat), .int .u32 (s.flags : Nat), .int .u64 (s.vaddr : Nat), .int .u64 (s.paddr : Nat), .int .u64 (s.memsz : Nat), .int .u64 (s.align : Nat), .int .i64 s.pl.inn, .int .u64 (s.pl.off : Nat), .int .u64 (s.pl.size : Nat), .slice B3 k3 e3] : Array Value)[i]? = some v → (wr.alloc (.cells #[.int .u32 (s.typ : Nat), .int .u32 (s.flags : Nat), .int .u64 (s.vaddr : Nat), .int .u64 (s.paddr : Nat), .int .u64 (s.memsz : Nat), .int .u64 (s.align : Nat), .int .i64 s.pl.inn, .int .u64 (s.pl.off : Nat), .int .u64 (s.pl.size : Nat), .slice B1 k1 e1] 70)).cell? ⟨bb, off2 + k * 10 + i, none⟩ = some v := fun i v hv => (Below.cell (Grow.of_alloc wr _) HBB.out).trans (r' i v hv)
   have u0 : (wr.alloc (.cells #[.int .u32 (s.typ : Nat), .int .u32 (s.flags : Nat), .int .u64 (s.vaddr : Nat), .int .u64 (s.paddr : Nat), .int .u64 (s.memsz : Nat), .int .u64 (s.align : Nat), .int .i64 s.pl.inn, .int .u64 (s.pl.off : Nat), .int .u64 (s.pl.size : Nat), .slice B1 k1 e1] 70)).cell? ⟨bb, off2 + k * 10, none⟩ = _ := r2 0 _ rfl
   have u1 : (wr.alloc (.cells #[.int .u32 (s.typ : Nat), .int .u32 (s.flags : Nat), .int .u64 (s.vaddr : Nat), .int .u64 (s.paddr : Nat), .int .u64 (s.memsz : Nat), .int .u64 (s.align : Nat), .int .i64 s.pl.inn, .int .u64 (s.pl.off : Nat), .int .u64 (s.pl.size : Nat), .slice B1 k1 e1] 70)).cell? ⟨bb, off2 + k * 10 + 1, none⟩ = _ := r2 1 _ rfl
   have u2 : (wr.alloc (.cells #[.int .u32 (s.typ : Nat), .int .u32 (s.flags : Nat), .int .u64 (s.vaddr : Nat), .int .u64 (s.paddr : Nat), .int .u64 (s.memsz : Nat), .int .u64 (s.align : Nat), .int .i64 s.pl.inn, .int .u64 (s.pl.off : Nat), .int .u64 (s.pl.size : Nat), .slice B1 k1 e1] 70)).cell? ⟨bb, off2 + k * 10 + 2, none⟩ = _ := r2 2 _ rfl
   have u3 : (wr.alloc (.cells #[.int .u32 (s.typ : Nat), .int .u32 (s.flags : Nat), .int .u64 (s.vaddr : Nat), .int .u64 (s.paddr : Nat), .int .u64 (s.memsz : Nat), .int .u64 (s.align : Nat), .int .i64 s.pl.inn, .int .u64 (s.pl.off : Nat), .int .u64 (s.pl.size : Nat), .slice B1 k1 e1] 70)).cell? ⟨bb, off2 + k * 10 + 3, none⟩ = _ := r2 3 _ rfl
   have u4 : (wr.alloc (.cells #[.int .u32 (s.typ : Nat), .int .u32 (s.flags : Nat), .int .u64 (s.vaddr : Nat), .int .u64 (s.paddr : Nat), .int .u64 (s.memsz : Nat), .int .u64 (s.align : Nat), .int .i64 s.pl.inn, .int .u64 (s.pl.off : Nat), .int .u64 (s.pl.size : Nat), .slice B1 k1 e1] 70)).cell? ⟨bb, off2 + k * 10 + 4, none⟩ = _ := r2 4 _ rfl
   have u5 : (wr.alloc (.cells #[.int .u32 (s.typ : Nat), .int .u32 (s.flags : Nat), .int .u64 (s.vaddr : Nat), .int .u64 (s.paddr : Nat), .int .u64 (s.memsz : Nat), .int .u64 (s.align : Nat), .int .i64 s.pl.inn, .int .u64 (s.pl.off : Nat), .int .u64 (s.pl.size : Nat), .slice B1 k1 e1] 70)).cell? ⟨bb, off2 + k * 10 + 5, none⟩ = _ := r2 5 _ rfl
   have u6 : (wr.alloc (.cells #[.int .u32 (s.typ : Nat), .int .u32 (s.flags : Nat), .int .u64 (s.vaddr : Nat), .int .u64 (s.paddr : Nat), .int .u64 (s.memsz : Nat), .int .u64 (s.align : Nat), .int .i64 s.pl.inn, .int .u64 (s.pl.off : Nat), .int .u64 (s.pl.size : Nat), .slice B1 k1 e1] 70)).cell? ⟨bb, off2 + k * 10 + 6, none⟩ = _ := r2 6 _ rfl
   have u7 : (wr.alloc (.cells #[.int .u32 (s.typ : Nat), .int .u32 (s.flags : Nat), .int .u64 (s.vaddr : Nat), .int .u64 (s.paddr : Nat), .int .u64 (s.memsz : Nat), .int .u64 (s.align : Nat), .int .i64 s.pl.inn, .int .u64 (s.pl.off : Nat), .int .u64 (s.pl.size : Nat), .slice B1 k1 e1] 70)).cell? ⟨bb, off2 + k * 10 + 7, none⟩ = _ := r2 7 _ rfl
   have u8 : (wr.alloc (.cells #[.int .u32 (s.typ : Nat), .int .u32 (s.flags : Nat), .int .u64 (s.vaddr : Nat), .int .u64 (s.paddr : Nat), .int .u64 (s.memsz : Nat), .int .u64 (s.align : Nat), .int .i64 s.pl.inn, .int .u64 (s.pl.off : Nat), .int .u64 (s.pl.size : Nat), .slice B1 k1 e1] 70)).cell? ⟨bb, off2 + k * 10 + 8, none⟩ = _ := r2 8 _ rfl
   have u9 : (wr.alloc (.cells #[.int .u32 (s.typ : Nat), .int .u32 (s.flags : Nat), .int .u64 (s.vaddr : Nat), .int .u64 (s.paddr : Nat), .int .u64 (s.memsz : Nat), .int .u64 (s.align : Nat), .int .i64 s.pl.inn, .int .u64 (s.pl.off : Nat), .int .u64 (s.pl.size : Nat), .slice B1 k1 e1] 70)).cell? ⟨bb, off2 + k * 10 + 9, none⟩ = _ := r2 9 _ rfl
   have m8 := HX1.out.at 8
   have y8 := HY1.out.at 8
   have y8a := (HY1.out.grow (Grow.of_alloc wr (.cells #[.int .u32 (s.typ : Nat), .int .u32 (s.flags : Nat), .int .u64 (s.vaddr : Nat), .int .u64 (s.paddr : Nat), .int .u64 (s.memsz : Nat), .int .u64 (s.align : Nat), .int .i64 s.pl.inn, .int .u64 (s.pl.off : Nat), .int .u64 (s.pl.size : Nat), .slice B1 k1 e1] 70))).at 8
   clear p' r' r2
   have w0 : (0 : Int) ≤ (k : Int) := by omega
   have w1 : (k : Int) < (n1 : Int) := by omega
   have d1 : decide ((k : Int) < (n1 : Int)) = true := decide_eq_true (by omega)
   go_wp2_with fail
   generalize hW : World.alloc _ _ = W5
   obtain ⟨b5, b6, hg⟩ := blk2 hW
   clear hW d1 m8 y8 y8a s0 s1 s2 s3 s4 s5 s6 s7 s8 s9 t0 t1 t2 t3 t4 t5 t6 t7 t8 t9 u0 u1 u2 u3 u4 u5 u6 u7 u8 u9
   have HX2 := hid (HX1.out.grow hg)
   have HY2 := hid (HY1.out.grow hg)
   have HW2 : Hid (Grow w W5) := hid (HW1.out.trans hg)
   have H5 := hid b5
   have H6 := hid b6
   clear b5 b6 hg HX1 HY1 HW1
   generalize wr.heap.size + 1 = g6 at H6 ⊢
   generalize wr.heap.size = g5 at H5 ⊢
   refine (HSp.out _ HW2.out).mono ?_
   rintro e w6 ⟨rfl, hg⟩
   have HX3 := hid (HX2.out.grow hg)
   have HY3 := hid (HY2.out.grow hg)
   have HW3 : Hid (Grow w w6) := hid (HW2.out.trans hg)
   obtain ⟨s0, s1, s2, s3, s4, s5, s6, s7, s8, s9⟩ := (H5.out.grow hg).c10
   obtain ⟨t0, t1, t2, t3, t4, t5, t6, t7, t8, t9⟩ := (H6.out.grow hg).c10
   clear hg HX2 HY2 HW2 H5 H6 HSp
   go_wp2
   go_roundw
   case rel => exact ⟨k + 1, by omega, by go_num, HX3.out, HY3.out, HW3.out⟩
   case measure => simp [intOf]; omega
  ·have d1 : decide ((k : Int) < (n1 : Int)) = false := decide_eq_false (by omega)
   have m8 := HX1.out.at 8
   have m9 := HX1.out.at 9
   have HX := HX1
   have HY := HY1
   have HW := HW1
   clear HX1 HY1 HW1
   generalize wr = wz at *
   go_wp2_with fail
   clear d1 m8 m9
   go_loopw [9] (fun i wr => ∃ k : Nat, k ≤ n2 ∧ i = .int .i64 k ∧ Blk wr gx 32 #[.bool f0, .bool f1, .int .u8 (f2 : Nat), .int .u8 (f3 : Nat), .int .u16 (f4 : Nat), .int .u16 (f5 : Nat), .int .u32 (f6 : Nat), .int .u64 (f7 : Nat), .slice A1 n1 c1, .slice A2 n2 c2, .int .i64 f10] ∧ Blk wr gy 32 #[.bool f0, .bool f1, .int .u8 (f2 : Nat), .int .u8 (f3 : Nat), .int .u16 (f4 : Nat), .int .u16 (f5 : Nat), .int .u32 (f6 : Nat), .int .u64 (f7 : Nat), .slice A3 n1 c3, .slice A4 n2 c4, .int .i64 f10] ∧ Grow w wr) (fun i _ => n2 - (intOf i).toNat)
   case atStart => exact ⟨0, Nat.zero_le _, rfl, HX.out, HY.out, HW.out⟩
   case round =>
    obtain ⟨k, hk, rfl, hx, hy, hg⟩ := hrel
    have HX1 := hid hx
    have HY1 := hid hy
    have HW1 := hid hg
    clear hx hy hg HX HY HW
    by_cases hlt : k < n2
    ·have hkl : k < L2.length := by rw [← HL2.out]; exact hlt
     obtain ⟨b, off, hAA, hb⟩ := H2.out.pos (by omega)
     obtain ⟨bb, off2, hAB, hbb⟩ := H4.out.pos (by omega)
     subst hAA
     subst hAB
     obtain ⟨B1, k1, e1, -, p, g1⟩ := H2.out.at hkl
     obtain ⟨B3, k3, e3, -, r, g3⟩ := H4.out.at hkl
     have p' : ∀ i v, (seC L2[k] (.slice B1 k1 e1))[i]? = some v → wr.cell? ⟨b, off + k * 13 + i, none⟩ = some v := fun i v hv => (Below.cell HW1.out hb).trans (p i v hv)
     have r' : ∀ i v, (seC L2[k] (.slice B3 k3 e3))[i]? = some v → wr.cell? ⟨bb, off2 + k * 13 + i, none⟩ = some v := fun i v hv => (Below.cell HW1.out hbb).trans (r i v hv)
     have HSp := hid (fun W (hW : Grow w W) => rSamePlace_any L2[k].pl B1 B3 k1 e1 k3 e3 W ((g1.belowAt hW (Nat.le_refl _)).more hW.size) ((g3.belowAt hW (Nat.le_refl _)).more hW.size))
     have HB := hid (Nat.lt_of_lt_of_le hb HW1.out.size)
     have HBB := hid (Nat.lt_of_lt_of_le hbb HW1.out.size)
     unfold seC at p' r'
     unfold plC at HSp
     clear p r g1 g3
     generalize L2[k] = s at p' r' HSp
     clear hkl
     have s0 : wr.cell? ⟨b, off + k * 13, none⟩ = _ := p' 0 _ rfl
     have s1 : wr.cell? ⟨b, off + k * 13 + 1, none⟩ = _ := p' 1 _ rfl
     have s2 : wr.cell? ⟨b, off + k * 13 + 2, none⟩ = _ := p' 2 _ rfl
     have s3 : wr.cell? ⟨b, off + k * 13 + 3, none⟩ = _ := p' 3 _ rfl
     have s4 : wr.cell? ⟨b, off + k * 13 + 4, none⟩ = _ := p' 4 _ rfl
     have s5 : wr.cell? ⟨b, off + k * 13 + 5, none⟩ = _ := p' 5 _ rfl
     have s6 : wr.cell? ⟨b, off + k * 13 + 6, none⟩ = _ := p' 6 _ rfl
     have s7 : wr.cell? ⟨b, off + k * 13 + 7, none⟩ = _ := p' 7 _ rfl
     have s8 : wr.cell? ⟨b, off + k * 13 + 8, none⟩ = _ := p' 8 _ rfl
     have s9 : wr.cell? ⟨b, off + k * 13 + 9, none⟩ = _ := p' 9 _ rfl
     have s10 : wr.cell? ⟨b, off + k * 13 + 10, none⟩ = _ := p' 10 _ rfl
     have s11 : wr.cell? ⟨b, off + k * 13 + 11, none⟩ = _ := p' 11 _ rfl
     have s12 : wr.cell? ⟨b, off + k * 13 + 12, none⟩ = _ := p' 12 _ rfl
     have t0 : wr.cell? ⟨bb, off2 + k * 13, none⟩ = _ := r' 0 _ rfl
     have t1 : wr.cell? ⟨bb, off2 + k * 13 + 1, none⟩ = _ := r' 1 _ rfl
     have t2 : wr.cell? ⟨bb, off2 + k * 13 + 2, none⟩ = _ := r' 2 _ rfl
     have t3 : wr.cell? ⟨bb, off2 + k * 13 + 3, none⟩ = _ := r' 3 _ rfl
     have t4 : wr.cell? ⟨bb, off2 + k * 13 + 4, none⟩ = _ := r' 4 _ rfl
     have t5 : wr.cell? ⟨bb, off2 + k * 13 + 5, none⟩ = _ := r' 5 _ rfl
     have t6 : wr.cell? ⟨bb, off2 + k * 13 + 6, none⟩ = _ := r' 6 _ rfl
     have t7 : wr.cell? ⟨bb, off2 + k * 13 + 7, none⟩ = _ := r' 7 _ rfl
     have t8 : wr.cell? ⟨bb, off2 + k * 13 + 8, none⟩ = _ := r' 8 _ rfl
     have t9 : wr.cell? ⟨bb, off2 + k * 13 + 9, none⟩ = _ := r' 9 _ rfl
     have t10 : wr.cell? ⟨bb, off2 + k * 13 + 10, none⟩ = _ := r' 10 _ rfl
     have t11 : wr.cell? ⟨bb, off2 + k * 13 + 11, none⟩ = _ := r' 11 _ rfl
     have t12 : wr.cell? ⟨bb, off2 + k * 13 + 12, none⟩ = _ := r' 12 _ rfl
     have r2 : ∀ i v, (#[.int .u32 (s.name : Nat), .int .u32 (s.typ : Nat), .int .u64 (s.flags : Nat), .int .u64 (s.addr : Nat), .int .u64 (s.size : Nat), .int .u32 (s.link : Nat), .int .u32 (s.info : Nat), .int .u64 (s.align : Nat), .int .u64 (s.entsize : Nat), .int .i64 s.pl.inn, .int .u64 (s.pl.off : Nat), .int .u64 (s.pl.size : Nat), .slice B3 k3 e3] : Array Value)[i]? = some v → (wr.alloc (.cells #[.int .u32 (s.name : Nat), .int .u32 (s.typ : Nat), .int .u64 (s.flags : Nat), .int .u64 (s.addr : Nat), .int .u64 (s.size : Nat), .int .u32 (s.link : Nat), .int .u32 (s.info : Nat), .int .u64 (s.align : Nat), .int .u64 (s.entsize : Nat), .int .i64 s.pl.inn, .int .u64 (s.pl.off : Nat), .int .u64 (s.pl.size : Nat), .slice B1 k1 e1] 72)).cell? ⟨bb, off2 + k * 13 + i, none⟩ = some v := fun i v hv => (Below.cell (Grow.of_alloc wr _) HBB.out).trans (r' i v hv)
     have u0 : (wr.alloc (.cells #[.int .u32 (s.name : Nat), .int .u32 (s.typ : Nat), .int .u64 (s.flags : Nat), .int .u64 (s.addr : Nat), .int .u64 (s.size : Nat), .int .u32 (s.link : Nat), .int .u32 (s.info : Nat), .int .u64 (s.align : Nat), .int .u64 (s.entsize : Nat), .int .i64 s.pl.inn, .int .u64 (s.pl.off : Nat), .int .u64 (s.pl.size : Nat), .slice B1 k1 e1] 72)).cell? ⟨bb, off2 + k * 13, none⟩ = _ := r2 0 _ rfl
     have u1 : (wr.alloc (.cells #[.int .u32 (s.name : Nat), .int .u32 (s.typ : Nat), .int .u64 (s.flags : Nat), .int .u64 (s.addr : Nat), .int .u64 (s.size : Nat), .int .u32 (s.link : Nat), .int .u32 (s.info : Nat), .int .u64 (s.align : Nat), .int .u64 (s.entsize : Nat), .int .i64 s.pl.inn, .int .u64 (s.pl.off : Nat), .int .u64 (s.pl.size : Nat), .slice B1 k1 e1] 72)).cell? ⟨bb, off2 + k * 13 + 1, none⟩ = _ := r2 1 _ rfl
     have u2 : (wr.alloc (.cells #[.int .u32 (s.name : Nat), .int .u32 (s.typ : Nat), .int .u64 (s.flags : Nat), .int .u64 (s.addr : Nat), .int .u64 (s.size : Nat), .int .u32 (s.link : Nat), .int .u32 (s.info : Nat), .int .u64 (s.align : Nat), .int .u64 (s.entsize : Nat), .int .i64 s.pl.inn, .int .u64 (s.pl.off : Nat), .int .u64 (s.pl.size : Nat), .slice B1 k1 e1] 72)).cell? ⟨bb, off2 + k * 13 + 2, none⟩ = _ := r2 2 _ rfl
     have u3 : (wr.alloc (.cells #[.int .u32 (s.name : Nat), .int .u32 (s.typ : Nat), .int .u64 (s.flags : Nat), .int .u64 (s.addr : Nat), .int .u64 (s.size : Nat), .int .u32 (s.link : Nat), .int .u32 (s.info : Nat), .int .u64 (s.align : Nat), .int .u64 (s.entsize : Nat), .int .i64 s.pl.inn, .int .u64 (s.pl.off : Nat), .int .u64 (s.pl.size : Nat), .slice B1 k1 e1] 72)).cell? ⟨bb, off2 + k * 13 + 3, none⟩ = _ := r2 3 _ rfl
     have u4 : (wr.alloc (.cells #[.int .u32 (s.name : Nat), .int .u32 (s.typ : Nat), .int .u64 (s.flags : Nat), .int .u64 (s.addr : Nat), .int .u64 (s.size : Nat), .int .u32 (s.link : Nat), .int .u32 (s.info : Nat), .int .u64 (s.align : Nat), .int .u64 (s.entsize : Nat), .int .i64 s.pl.inn, .int .u64 (s.pl.off : Nat), .int .u64 (s.pl.size : Nat), .slice B1 k1 e1] 72)).cell? ⟨bb, off2 + k * 13 + 4, none⟩ = _ := r2 4 _ rfl
     have u5 : (wr.alloc (.cells #[.int .u32 (s.name : Nat), .int .u32 (s.typ : Nat), .int .u64 (s.flags : Nat), .int .u64 (s.addr : Nat), .int .u64 (s.size : Nat), .int .u32 (s.link : Nat), .int .u32 (s.info : Nat), .int .u64 (s.align : Nat), .int .u64 (s.entsize : Nat), .int .i64 s.pl.inn, .int .u64 (s.pl.off : Nat), .int .u64 (s.pl.size : Nat), .slice B1 k1 e1] 72)).cell? ⟨bb, off2 + k * 13 + 5, none⟩ = _ := r2 5 _ rfl
     have u6 : (wr.alloc (.cells #[.int .u32 (s.name : Nat), .int .u32 (s.typ : Nat), .int .u64 (s.flags : Nat), .int .u64 (s.addr : Nat), .int .u64 (s.size : Nat), .int .u32 (s.link : Nat), .int .u32 (s.info : Nat), .int .u64 (s.align : Nat), .int .u64 (s.entsize : Nat), .int .i64 s.pl.inn, .int .u64 (s.pl.off : Nat), .int .u64 (s.pl.size : Nat), .slice B1 k1 e1] 72)).cell? ⟨bb, off2 + k * 13 + 6, none⟩ = _ := r2 6 _ rfl
     have u7 : (wr.alloc (.cells #[.int .u32 (s.name : Nat), .int .u32 (s.typ : Nat), .int .u64 (s.flags : Nat), .int .u64 (s.addr : Nat), .int .u64 (s.size : Nat), .int .u32 (s.link : Nat), .int .u32 (s.info : Nat), .int .u64 (s.align : Nat), .int .u64 (s.entsize : Nat), .int .i64 s.pl.inn, .int .u64 (s.pl.off : Nat), .int .u64 (s.pl.size : Nat), .slice B1 k1 e1] 72)).cell? ⟨bb, off2 + k * 13 + 7, none⟩ = _ := r2 7 _ rfl
     have u8 : (wr.alloc (.cells #[.int .u32 (s.name : Nat), .int .u32 (s.typ : Nat), .int .u64 (s.flags : Nat), .int .u64 (s.addr : Nat), .int .u64 (s.size : Nat), .int .u32 (s.link : Nat), .int .u32 (s.info : Nat), .int .u64 (s.align : Nat), .int .u64 (s.entsize : Nat), .int .i64 s.pl.inn, .int .u64 (s.pl.off : Nat), .int .u64 (s.pl.size : Nat), .slice B1 k1 e1] 72)).cell? ⟨bb, off2 + k * 13 + 8, none⟩ = _ := r2 8 _ rfl
     have u9 : (wr.alloc (.cells #[.int .u32 (s.name : Nat), .int .u32 (s.typ : Nat), .int .u64 (s.flags : Nat), .int .u64 (s.addr : Nat), .int .u64 (s.size : Nat), .int .u32 (s.link : Nat), .int .u32 (s.info : Nat), .int .u64 (s.align : Nat), .int .u64 (s.entsize : Nat), .int .i64 s.pl.inn, .int .u64 (s.pl.off : Nat), .int .u64 (s.pl.size : Nat), .slice B1 k1 e1] 72)).cell? ⟨bb, off2 + k * 13 + 9, none⟩ = _ := r2 9 _ rfl
     have u10 : (wr.alloc (.cells #[.int .u32 (s.name : Nat), .int .u32 (s.typ : Nat), .int .u64 (s.flags : Nat), .int .u64 (s.addr : Nat), .int .u64 (s.size : Nat), .int .u32 (s.link : Nat), .int .u32 (s.info : Nat), .int .u64 (s.align : Nat), .int .u64 (s.entsize : Nat), .int .i64 s.pl.inn, .int .u64 (s.pl.off : Nat), .int .u64 (s.pl.size : Nat), .slice B1 k1 e1] 72)).cell? ⟨bb, off2 + k * 13 + 10, none⟩ = _ := r2 10 _ rfl
     have u11 : (wr.alloc (.cells #[.int .u32 (s.name : Nat), .int .u32 (s.typ : Nat), .int .u64 (s.flags : Nat), .int .u64 (s.addr : Nat), .int .u64 (s.size : Nat), .int .u32 (s.link : Nat), .int .u32 (s.info : Nat), .int .u64 (s.align : Nat), .int .u64 (s.entsize : Nat), .int .i64 s.pl.inn, .int .u64 (s.pl.off : Nat), .int .u64 (s.pl.size : Nat), .slice B1 k1 e1] 72)).cell? ⟨bb, off2 + k * 13 + 11, none⟩ = _ := r2 11 _ rfl
     have u12 : (wr.alloc (.cells #[.int .u32 (s.name : Nat), .int .u32 (s.typ : Nat), .int .u64 (s.flags : Nat), .int .u64 (s.addr : Nat), .int .u64 (s.size : Nat), .int .u32 (s.link : Nat), .int .u32 (s.info : Nat), .int .u64 (s.align : Nat), .int .u64 (s.entsize : Nat), .int .i64 s.pl.inn, .int .u64 (s.pl.off : Nat), .int .u64 (s.pl.size : Nat), .slice B1 k1 e1] 72)).cell? ⟨bb, off2 + k * 13 + 12, none⟩ = _ := r2 12 _ rfl
     have m8 := HX1.out.at 9
     have y8 := HY1.out.at 9
     have y8a := (HY1.out.grow (Grow.of_alloc wr (.cells #[.int .u32 (s.name : Nat), .int .u32 (s.typ : Nat), .int .u64 (s.flags : Nat), .int .u64 (s.addr : Nat), .int .u64 (s.size : Nat), .int .u32 (s.link : Nat), .int .u32 (s.info : Nat), .int .u64 (s.align : Nat), .int .u64 (s.entsize : Nat), .int .i64 s.pl.inn, .int .u64 (s.pl.off : Nat), .int .u64 (s.pl.size : Nat), .slice B1 k1 e1] 72))).at 9
     clear p' r' r2
     have w0 : (0 : Int) ≤ (k : Int) := by omega
     have w1 : (k : Int) < (n2 : Int) := by omega
     have d1 : decide ((k : Int) < (n2 : Int)) = true := decide_eq_true (by omega)
     go_wp2_with fail
     generalize hW : World.alloc _ _ = W5
     obtain ⟨b5, b6, hg⟩ := blk2 hW
     clear hW d1 m8 y8 y8a s0 s1 s2 s3 s4 s5 s6 s7 s8 s9 s10 s11 s12 t0 t1 t2 t3 t4 t5 t6 t7 t8 t9 t10 t11 t12 u0 u1 u2 u3 u4 u5 u6 u7 u8 u9 u10 u11 u12
     have HX2 := hid (HX1.out.grow hg)
     have HY2 := hid (HY1.out.grow hg)
     have HW2 : Hid (Grow w W5) := hid (HW1.out.trans hg)
     have H5 := hid b5
     have H6 := hid b6
     clear b5 b6 hg HX1 HY1 HW1
     generalize wr.heap.size + 1 = g6 at H6 ⊢
     generalize wr.heap.size = g5 at H5 ⊢
     refine (HSp.out _ HW2.out).mono ?_
     rintro e w6 ⟨rfl, hg⟩
     have HX3 := hid (HX2.out.grow hg)
     have HY3 := hid (HY2.out.grow hg)
     have HW3 : Hid (Grow w w6) := hid (HW2.out.trans hg)
     obtain ⟨s0, s1, s2, s3, s4, s5, s6, s7, s8, s9, s10, s11, s12⟩ := (H5.out.grow hg).c13
     obtain ⟨t0, t1, t2, t3, t4, t5, t6, t7, t8, t9, t10, t11, t12⟩ := (H6.out.grow hg).c13
     clear hg HX2 HY2 HW2 H5 H6 HSp
     go_wp2
     go_roundw
     case rel => exact ⟨k + 1, by omega, by go_num, HX3.out, HY3.out, HW3.out⟩
     case measure => simp [intOf]; omega
    ·have d1 : decide ((k : Int) < (n2 : Int)) = false := decide_eq_false (by omega)
     have m9 := HX1.out.at 9
     go_wp2
     go_ret
     exact ⟨rfl, HW1.out⟩
theorem fstC_le {α : Type} {f : α → Nat} {b : Nat} (h : ∀ a, f a ≤ b) : ∀ l : List α, fstC f l ≤ b
 | [] => Nat.zero_le _
 | a :: r => by
  rw [fstC]
  split
  ·exact fstC_le h r
  ·exact h a
theorem Md.chk_le (m : Md) : m.chk ≤ 12 := by
 have h1 : ∀ s, m.segC s ≤ 12 := fun s => by unfold Md.segC; repeat (first | (split; omega) | omega | split)
 have h2 : ∀ s, m.secC s ≤ 12 := fun s => by unfold Md.secC; repeat (first | (split; omega) | omega | split)
 have h3 : m.segsC ≤ 12 := by
  unfold Md.segsC
  split
  ·split <;> omega
  ·exact fstC_le h1 _
 have h4 : m.secsC ≤ 12 := fstC_le h2 _
 have h5 : m.namesC ≤ 12 := by unfold Md.namesC; repeat (first | (split; omega) | omega | split)
 unfold Md.chk
 repeat (first | (split; omega) | omega | split)
theorem Md.planC_le (m : Md) : m.planC ≤ 12 := by
 have := m.chk_le
 unfold Md.planC
 split
 ·exact this
 ·split <;> omega
set_option maxRecDepth 100000
set_option linter.unusedVariables false
theorem hold_le {l : List UInt8} {c p : Nat} {v : Value} (h : HTold l c p v) (h0 : c ≠ 0) : c ≤ 12 ∧ p ≤ l.length := by
 rcases h with ⟨_, h, _⟩ | ⟨_, h, _⟩
 ·have := h.le
  omega
 ·rcases h with ⟨_, rfl, rfl⟩ | ⟨_, _, h, _⟩ | ⟨h1, rfl, k, hk, _, _, rfl⟩
  ·omega
  ·exact absurd h h0
  ·have a := sum_hRow (lWide l)
   have b := sumN_le (hRow (lWide l)) k
   omega
theorem hold_size {l : List UInt8} {v : Value} (h : HTold l 0 0 v) : hSize (lWide l) ≤ l.length := by
 rcases h with ⟨h, _⟩ | ⟨_, h, _⟩
 ·exact absurd rfl h
 ·rcases h with ⟨_, h, _⟩ | ⟨h, _⟩ | ⟨_, h, _⟩
  ·omega
  ·exact h
  ·omega
theorem fstC_some {α : Type} {f : α → Nat} : ∀ {l : List α}, fstC f l ≠ 0 → ∃ a ∈ l, fstC f l = f a ∧ f a ≠ 0
 | [], h => absurd rfl h
 | a :: r, h => by
  rw [fstC] at h ⊢
  by_cases h0 : f a = 0
  ·rw [if_pos h0] at h ⊢
   obtain ⟨b, hb, h1, h2⟩ := fstC_some h
   exact ⟨b, List.mem_cons_of_mem _ hb, h1, h2⟩
  ·rw [if_neg h0]
   exact ⟨a, List.mem_cons_self, rfl, h0⟩
theorem rest_le {l : List UInt8} {c p : Nat} (hs : hSize (lWide l) ≤ l.length) (h : restE l = (c, p)) : c ≤ 12 ∧ p ≤ l.length := by
 have h52 : hSize (lWide l) = byWide (lWide l) 52 64 := rfl
 have hS : oSh (lWide l) ≤ hSize (lWide l) ∧ oPh (lWide l) ≤ hSize (lWide l) ∧ oPn (lWide l) ≤ hSize (lWide l) ∧ oSn (lWide l) ≤ hSize (lWide l) ∧ oSt (lWide l) ≤ hSize (lWide l) := by
  cases lWide l <;> decide
 have c1 : (cntE l).1 ≤ 12 ∧ (cntE l).2 ≤ l.length := by
  have a1 : (scE l).1 ≤ 12 ∧ (scE l).2 ≤ l.length := by
   unfold scE
   repeat (first | (split; (constructor <;> simp only [] <;> omega)) | (constructor <;> simp only [] <;> omega) | split)
  have a2 : (pgE l).1 ≤ 12 ∧ (pgE l).2 ≤ l.length := by
   unfold pgE
   repeat (first | (split; (constructor <;> simp only [] <;> omega)) | (constructor <;> simp only [] <;> omega) | split)
  unfold cntE
  split
  ·exact ⟨by simp only []; omega, by simp only []; omega⟩
  split
  ·exact a1
  split
  ·exact a2
  split
  ·exact ⟨by simp only []; omega, by simp only []; omega⟩
  ·exact ⟨by decide, Nat.zero_le _⟩
 unfold restE at h
 split at h
 ·rw [h] at c1
  exact c1
 ·rename_i hc
  have hc : (cntE l).1 = 0 := by omega
  split at h
  ·have : (tabE l).1 ≤ 12 ∧ (tabE l).2 ≤ l.length := by
    unfold tabE
    split
    ·rename_i h1
     obtain ⟨i, hi, h2, h3⟩ := fstC_some h1
     have := pAt_in hc (List.mem_range.1 hi)
     refine ⟨by simp only []; omega, ?_⟩
     simp only []
     rw [h2]
     unfold pBad
     split <;> omega
    split
    ·rename_i h1
     obtain ⟨i, hi, h2, h3⟩ := fstC_some h1
     have := sAt_in hc (show i + 1 < nS l by have := List.mem_range.1 hi; omega)
     refine ⟨by simp only []; omega, ?_⟩
     simp only []
     rw [h2]
     unfold sBad
     split <;> omega
    ·exact ⟨by decide, Nat.zero_le _⟩
   rw [h] at this
   exact this
  split at h
  ·injection h with h1 h2
   have := (mdF l).planC_le
   omega
  ·injection h with h1 h2
   omega
theorem PTold.bad {l : List UInt8} {c p : Nat} {m : Md} (h : PTold l c p m) (h0 : c ≠ 0) : c ≤ 12 ∧ p ≤ l.length ∧ m = mdN := by
 rcases h with ⟨h1, rfl, rfl, rfl⟩ | ⟨_, h1, h2, rfl⟩ | ⟨_, h1, h2, h3⟩
 ·exact ⟨by decide, by omega, rfl⟩
 ·have := hold_le h2 h1
  exact ⟨this.1, this.2, rfl⟩
 ·have := rest_le (hold_size h1) h2
  rw [if_neg h0] at h3
  exact ⟨this.1, this.2, h3⟩
theorem same0 (A1 A2 : Option Addr) (n1 c1 n2 c2 : Nat) (w : World) (h1 : ZR sgK w w.heap.size A1 n1 c1 mdN.segs) (h2 : ZR seK w w.heap.size A2 n2 c2 mdN.secs) :
  Calls Tryz.prog 11 #[.agg #[.bool false, .bool false, .int .u8 0, .int .u8 0, .int .u16 0, .int .u16 0, .int .u32 0, .int .u64 0, .slice A1 n1 c1, .slice A2 n2 c2, .int .i64 0],
   .agg #[.bool false, .bool false, .int .u8 0, .int .u8 0, .int .u16 0, .int .u16 0, .int .u32 0, .int .u64 0, .slice none 0 0, .slice none 0 0, .int .i64 0]] w fun e w' => e = .returned (.bool true) ∧ Grow w w' :=
 Calls.mono (rSame_any mdN A1 A2 none none n1 c1 n2 c2 0 0 0 0 w h1 h2 ZR.nil ZR.nil) fun e w' h => h
set_option maxHeartbeats 8000000 in
theorem topTotal_core (A : Option Addr) (n c : Nat) (l : List UInt8) (w : World) (hr : RB w w.heap.size A n c l) (hd : Door w) :
  Calls Tryz.prog 5 #[.slice A n c] w fun e w' => e = .returned (.bool true) ∧ Grow w w' := by
 have HP := hid (fun W (hg : Grow w W) => parse_any l A n c W (hr.grow hg) (hd.grow hg))
 have HB := hid (fun c p m (h : PTold l c p m) h0 => h.bad h0)
 have HU := hid (upTop w hd)
 have hlen := hr.len
 have hcap := hr.cap
 have hmax := hr.max
 unfold maxLen at hmax
 rw [← hlen] at HB
 unfold ParseR at HP
 clear hr hd hlen
 go_enter Tryz.func5, Tryz.ntmps5
 go_wp2_with fail
 refine HU.out.mono ?_
 rintro e w1 ⟨rfl, hg⟩
 have HG1 := hid hg
 clear hg HU
 by_cases hbig : 70000 < n
 ·have d1 : decide ((70000 : Int) < (n : Int)) = true := decide_eq_true (by omega)
  go_wp2
  go_ret
  exact ⟨rfl, HG1.out⟩
 have d1 : decide ((70000 : Int) < (n : Int)) = false := decide_eq_false (by omega)
 have HN := hid hbig
 clear hbig
 go_wp2_with fail
 clear d1
 refine (HP.out _ HG1.out).mono ?_
 rintro e w2 ⟨cc, p, m, v, A1, n1, c1, A2, n2, c2, rfl, ht, he, z1, z2, hg⟩
 have HG2 : Hid (Grow w w2) := hid (HG1.out.trans hg)
 clear hg HG1 HP
 by_cases h0 : cc = 0
 ·subst h0
  obtain rfl := he.nil
  clear z1 z2 ht he HB
  obtain ⟨x0, x1, x2, x3, x4, x5, x6, x7, x10, hC, hO⟩ : ∃ x0 x1 x2 x3 x4 x5 x6 x7 x10 : Value, mdC m (.slice A1 n1 c1) (.slice A2 n2 c2) = #[x0, x1, x2, x3, x4, x5, x6, x7, .slice A1 n1 c1, .slice A2 n2 c2, x10] ∧ (#[x0, x1, x2, x3, x4, x5, x6, x7, .slice A1 n1 c1, .slice A2 n2 c2, x10] : Array Value).all (·.oneCell') = true := ⟨_, _, _, _, _, _, _, _, _, rfl, by simp [Value.oneCell']⟩
  have HO := hid hO
  rw [hC]
  clear hC hO
  go_wp2_with (refine wpList_store_row rfl 32 (.tmp 4) (.tmp 17) rfl w2.heap.size _ rfl rfl _ _ (Blk.new _ _ _) (by kernel_rfl) rfl HO.out ?_; rw [World.setRow_alloc_new]; refine Hid.out ?_)
  generalize hW : World.alloc _ _ = W3
  obtain ⟨b1, hg⟩ := blk1 hW
  clear hW b1
  have HG3 : Hid (Grow w W3) := hid (HG2.out.trans hg)
  clear hg
  refine hid ?_
  go_wp2
  go_ret
  exact ⟨rfl, HG3.out⟩
 ·obtain ⟨h12, hp, rfl⟩ := HB.out cc p m ht h0
  have HE2 := hid he
  have HZ2 := hid z1
  have HY2 := hid z2
  have HS := hid (fun W => same0 A1 A2 n1 c1 n2 c2 W)
  have HC : Hid (0 < cc ∧ cc ≤ 12 ∧ p ≤ n ∧ n ≤ 70000) := hid ⟨by omega, h12, hp, by have := HN.out; omega⟩
  have hv : ∃ bb, v = .iface 116 (.pointer (some ⟨bb, 0, none⟩)) := by
   rcases he with ⟨h, _⟩ | ⟨_, b, h, _⟩
   ·exact absurd h h0
   ·exact ⟨b, h⟩
  obtain ⟨bb, rfl⟩ := hv
  clear z1 z2 ht he h0 h12 hp HB HN
  unfold mdC mdN
  simp only []
  go_wp2_with fail
  generalize hW : World.alloc _ _ = W3
  obtain ⟨b1, hg⟩ := blk1 hW
  clear hW
  have HX3 := hid b1
  have HE3 := hid (HE2.out.grow hg)
  have HZ3 := hid (HZ2.out.grow hg)
  have HY3 := hid (HY2.out.grow hg)
  have HG3 : Hid (Grow w W3) := hid (HG2.out.trans hg)
  clear b1 hg HE2 HZ2 HY2 HG2
  generalize w2.heap.size = gx at HX3 ⊢
  refine (spot_any _ cc p W3 HE3.out (by have := HC.out; omega) (by have := HC.out; omega)).mono ?_
  rintro e w4 ⟨rfl, hg⟩
  have HX4 := hid (HX3.out.grow hg)
  have HZ4 := hid (HZ3.out.grow hg)
  have HY4 := hid (HY3.out.grow hg)
  have HG4 : Hid (Grow w w4) := hid (HG3.out.trans hg)
  clear hg HE3 HX3 HZ3 HY3 HG3
  obtain ⟨y0, y1, y2, y3, y4, y5, y6, y7, y8, y9, y10⟩ := HX4.out.c11
  go_wp2_with fail
  clear y0 y1 y2 y3 y4 y5 y6 y7 y8 y9 y10
  refine (HS.out w4 HZ4.out HY4.out).mono ?_
  rintro e w5 ⟨rfl, hg⟩
  have HG5 : Hid (Grow w w5) := hid (HG4.out.trans hg)
  have hc := HC.out
  have d1 : decide ((1 : Int) ≤ (cc : Int)) = true := decide_eq_true (by omega)
  have d2 : decide ((cc : Int) ≤ 12) = true := decide_eq_true (by omega)
  have d3 : decide ((0 : Int) ≤ (p : Int)) = true := decide_eq_true (by omega)
  have d4 : decide ((p : Int) ≤ (n : Int)) = true := decide_eq_true (by omega)
  have e1 : decide (1 ≤ cc) = true := decide_eq_true (by omega)
  have e2 : decide (cc ≤ 12) = true := decide_eq_true (by omega)
  have e4 : decide (p ≤ n) = true := decide_eq_true (by omega)
  clear hg HX4 HZ4 HY4 HG4 hc
  go_wp2
  go_ret
  exact ⟨rfl, HG5.out⟩
theorem wf_u8 {n : Int} (h : (Lit.int .u8 n).wf = true) : 0 ≤ n ∧ n ≤ 255 := by
 simpa [Lit.wf, IntKind.bits, IntKind.signed] using bounds_u8 h
theorem rb_of_cells (w : World) (x : Addr) (len cap : Nat) (zs : List Int) (hl : len ≤ cap) (hm : cap ≤ maxLen) (hz : zs.length = cap)
  (hcell : ∀ i, i < zs.length → w.cell? (x.add i) = some (.int .u8 (zs.getD i 0))) (hwf : ∀ n ∈ zs, (Lit.int .u8 n).wf = true) :
  RB w w.heap.size (some x) len cap ((zs.take len).map fun n => UInt8.ofNat n.toNat) := by
 refine ⟨by simp; omega, hl, hm, fun hp => ?_⟩
 obtain ⟨b, off, spot⟩ := x
 have h0 := hcell 0 (by omega)
 have hspot : spot = none := by simpa [Addr.add] using World.cell?_spot h0
 subst hspot
 refine ⟨b, off, rfl, ?_, fun j hj => ?_⟩
 ·rcases Nat.lt_or_ge b w.heap.size with h | h
  ·exact h
  ·simp [Addr.add, World.cell?, Array.getElem?_eq_none h] at h0
 ·have hj' : j < len := by simp at hj; omega
  have e2 : (⟨b, off, none⟩ : Addr).add j = ⟨b, off + j, none⟩ := by unfold Addr.add; split <;> simp_all
  rw [← e2, hcell j (by omega)]
  have hjz : j < zs.length := by omega
  have hb := wf_u8 (hwf zs[j] (List.getElem_mem hjz))
  simp only [List.getElem_map, List.getElem_take, List.getD_eq_getElem?_getD, List.getElem?_eq_getElem hjz, Option.getD_some]
  congr 2
  rw [UInt8.toNat_ofNat', Nat.mod_eq_of_lt (by omega)]
  omega
end Go.Proofs.YtfglppjilcaafaaGreatDoor
namespace Go.Proofs.YtfglppjilcaafaaGreatDoor
open Go.Lib (hid)
open Go.ChangeShapes Go.WideShapes Go.RowKit Go.Joins Go.Deep
set_option maxRecDepth 100000
section
variable {H : Type} {enc : TypeId × Value → H} {w : World} {base : Nat} {spare : Nat → Bool} {held : Bool}
theorem open_row {b0 : Nat} {r : Reach} {v : Value} {d : DataW H} {p : List MemPlace} (hv : Value.okWide Tryz.prog w r b0 33 v) (h : DataW.Trod enc Tryz.prog w base (fun _ => true) held 33 v d p) :
  ∃ (A : Option Addr) (n c : Nat) (l : List UInt8), v = .slice A n c ∧ RB w w.heap.size A n c l := by
 obtain ⟨A, n, c, rfl⟩ := okWide_slice Tryz.underlying33 hv
 obtain ⟨fuel, hf⟩ := h
 rcases open_ints Tryz.underlying33 Tryz.underlying5 (by kernel_rfl) hf with ⟨hcs, _⟩ | ⟨a, len', cap', zs, hcs, _, hl, hm, hz, hx, hcell, hwz⟩
 ·simp [Value.cells] at hcs
  obtain ⟨rfl, rfl, rfl⟩ := hcs
  exact ⟨none, 0, 0, [], rfl, RB.nil⟩
 ·simp [Value.cells] at hcs
  obtain ⟨rfl, rfl, rfl⟩ := hcs
  simp only [if_true] at hz
  exact ⟨some a, n, c, _, rfl, rb_of_cells w a n c zs hl hm hz hcell hwz⟩
end
set_option maxRecDepth 100000
def Light {H : Type} (t : TypeId) (d : DataW H) : Prop := ∀ q ∈ d.weights Tryz.prog t, q ≤ reachBytes
section
variable {H : Type} {enc : TypeId × Value → H} {w : World} {base : Nat} {held : Bool}
end
end Go.Proofs.YtfglppjilcaafaaGreatDoor
