/-
  Several texts in one: The contract of the document's own Same at two readings of one model; The contract of the statements' Few; Small facts of a model's number; The contract of the document's own Within (layer 1).
-/
import Derived.Test.YtfglppjilcaafaaGreatDoorTbH4
import Derived.Test.YtfglppjilcaafaaGreatDoorTbH9
import Derived.Test.YtfglppjilcaafaaGreatDoorTbH1
import Derived.Test.YtfglppjilcaafaaGreatDoorTbH8
import Derived.Test.YtfglppjilcaafaaGreatDoorTbH7
import Derived.Test.YtfglppjilcaafaaGreatDoorTbH10
import Derived.Test.YtfglppjilcaafaaGreatDoorRows
import Derived.WalkKit
import Derived.Lib.Hide
import Derived.Test.YtfglppjilcaafaaGreatDoorTbH13
namespace Go.Proofs.YtfglppjilcaafaaGreatDoor
open Go.Lib (hid)
open Go.RowKit
set_option maxRecDepth 100000
set_option linter.unusedVariables false
set_option maxHeartbeats 4000000 in
theorem rSamePlace_any (p : Pl) (A A' : Option Addr) (n c n' c' : Nat) (w : World) (h : RB w w.heap.size A n c p.own) (h' : RB w w.heap.size A' n' c' p.own) :
  Calls Tryz.prog 31 #[.agg (plC p (.slice A n c)), .agg (plC p (.slice A' n' c'))] w fun e w' => e = .returned (.bool true) ∧ Grow w w' := by
 have hs1 := (h.grow ((Grow.of_alloc w (.cells (plC p (.slice A n c)) 68)).trans (Grow.of_alloc _ (.cells (plC p (.slice A' n' c')) 68)))).conv (Nat.le_refl _) _ (Grow.refl _)
 have hs2 := (h'.grow ((Grow.of_alloc w (.cells (plC p (.slice A n c)) 68)).trans (Grow.of_alloc _ (.cells (plC p (.slice A' n' c')) 68)))).conv (Nat.le_refl _) _ (Grow.refl _)
 unfold plC at hs1 hs2 ⊢
 clear h h'
 generalize p.inn = i at *
 generalize p.off = o at *
 generalize p.size = z at *
 go_enter Tryz.func31, Tryz.ntmps31
 go_wp2
 go_ret
 exact ⟨rfl, (Grow.of_alloc _ _).trans (Grow.of_alloc _ _)⟩
set_option maxHeartbeats 20000000 in
theorem rSame_any (m : Md) (A1 A2 A3 A4 : Option Addr) (n1 c1 n2 c2 n3 c3 n4 c4 : Nat) (w : World) (g1 : ZR sgK w w.heap.size A1 n1 c1 m.segs) (g2 : ZR seK w w.heap.size A2 n2 c2 m.secs) (g3 : ZR sgK w w.heap.size A3 n3 c3 m.segs) (g4 : ZR seK w w.heap.size A4 n4 c4 m.secs) :
  Calls Tryz.prog 11 #[.agg (mdC m (.slice A1 n1 c1) (.slice A2 n2 c2)), .agg (mdC m (.slice A3 n3 c3) (.slice A4 n4 c4))] w fun e w' => e = .returned (.bool true) ∧ Grow w w' := by
 obtain rfl : n1 = n3 := g1.len.trans g3.len.symm
 obtain rfl : n2 = n4 := g2.len.trans g4.len.symm
 have H1 := hid g1
 have H2 := hid g2
 have H3 := hid g3
 have H4 := hid g4
 have HL1 := hid g1.len
 have HL2 := hid g2.len
 have a1 := g1.cap
 have a2 := g1.max
 have a3 := g2.cap
 have a4 := g2.max
 have a5 := g3.cap
 have a6 := g3.max
 have a7 := g4.cap
 have a8 := g4.max
 unfold maxLen at a2 a4 a6 a8
 unfold mdC
 clear g1 g2 g3 g4
 generalize m.segs = L1 at *
 generalize m.secs = L2 at *
 generalize m.wide = f0
 generalize m.big = f1
 generalize m.osabi = f2
 generalize m.abi = f3
 generalize m.typ = f4
 generalize m.mach = f5
 generalize m.flags = f6
 generalize m.entry = f7
 generalize m.str = f10
 go_enter Tryz.func11, Tryz.ntmps11
 apply wp_seq_k
 intro K hK
 have HK := hid hK
 clear hK
 go_wp2
 apply HK.out
 clear HK
 clear K
 generalize hW : World.alloc _ _ = W0
 obtain ⟨b1, b2, hg0⟩ := blk2 hW
 clear hW
 have HX := hid b1
 have HY := hid b2
 have HW := hid hg0
 clear b1 b2 hg0
 generalize w.heap.size + 1 = gy at HY ⊢
 obtain ⟨gx, hgx⟩ : ∃ g, g = w.heap.size := ⟨_, rfl⟩
 rw [← hgx] at HX ⊢
 clear hgx
 obtain ⟨x0, x1, x2, x3, x4, x5, x6, x7, x8, x9, x10⟩ := HX.out.c11
 obtain ⟨y0, y1, y2, y3, y4, y5, y6, y7, y8, y9, y10⟩ := HY.out.c11
 go_wp2_with fail
 clear x0 x1 x2 x3 x4 x5 x6 x7 x8 x9 x10 y0 y1 y2 y3 y4 y5 y6 y7 y8 y9 y10
 go_loopw [5] (fun i wr => ∃ k : Nat, k ≤ n1 ∧ i = .int .i64 k ∧ Blk wr gx 32 #[.bool f0, .bool f1, .int .u8 (f2 : Nat), .int .u8 (f3 : Nat), .int .u16 (f4 : Nat), .int .u16 (f5 : Nat), .int .u32 (f6 : Nat), .int .u64 (f7 : Nat), .slice A1 n1 c1, .slice A2 n2 c2, .int .i64 f10] ∧ Blk wr gy 32 #[.bool f0, .bool f1, .int .u8 (f2 : Nat), .int .u8 (f3 : Nat), .int .u16 (f4 : Nat), .int .u16 (f5 : Nat), .int .u32 (f6 : Nat), .int .u64 (f7 : Nat), .slice A3 n1 c3, .slice A4 n2 c4, .int .i64 f10] ∧ Grow w wr) (fun i _ => n1 - (intOf i).toNat)
 case atStart => exact ⟨0, Nat.zero_le _, rfl, HX.out, HY.out, HW.out⟩
 case round =>
  obtain ⟨k, hk, rfl, hx, hy, hg⟩ := hrel
  have HX1 := hid hx
  have HY1 := hid hy
  have HW1 := hid hg
  clear hx hy hg HX HY HW
  by_cases hlt : k < n1
  ·have hkl : k < L1.length := by rw [← HL1.out]; exact hlt
   obtain ⟨b, off, hAA, hb⟩ := H1.out.pos (by omega)
   obtain ⟨bb, off2, hAB, hbb⟩ := H3.out.pos (by omega)
   subst hAA
   subst hAB
   obtain ⟨B1, k1, e1, -, p, g1⟩ := H1.out.at hkl
   obtain ⟨B3, k3, e3, -, r, g3⟩ := H3.out.at hkl
   have p' : ∀ i v, (sgC L1[k] (.slice B1 k1 e1))[i]? = some v → wr.cell? ⟨b, off + k * 10 + i, none⟩ = some v := fun i v hv => (Below.cell HW1.out hb).trans (p i v hv)
   have r' : ∀ i v, (sgC L1[k] (.slice B3 k3 e3))[i]? = some v → wr.cell? ⟨bb, off2 + k * 10 + i, none⟩ = some v := fun i v hv => (Below.cell HW1.out hbb).trans (r i v hv)
   have HSp := hid (fun W (hW : Grow w W) => rSamePlace_any L1[k].pl B1 B3 k1 e1 k3 e3 W ((g1.belowAt hW (Nat.le_refl _)).more hW.size) ((g3.belowAt hW (Nat.le_refl _)).more hW.size))
   have HB := hid (Nat.lt_of_lt_of_le hb HW1.out.size)
   have HBB := hid (Nat.lt_of_lt_of_le hbb HW1.out.size)
   unfold sgC at p' r'
   unfold plC at HSp
   clear p r g1 g3
   generalize L1[k] = s at p' r' HSp
   clear hkl
   have s0 : wr.cell? ⟨b, off + k * 10, none⟩ = _ := p' 0 _ rfl
   have s1 : wr.cell? ⟨b, off + k * 10 + 1, none⟩ = _ := p' 1 _ rfl
   have s2 : wr.cell? ⟨b, off + k * 10 + 2, none⟩ = _ := p' 2 _ rfl
   have s3 : wr.cell? ⟨b, off + k * 10 + 3, none⟩ = _ := p' 3 _ rfl
   have s4 : wr.cell? ⟨b, off + k * 10 + 4, none⟩ = _ := p' 4 _ rfl
   have s5 : wr.cell? ⟨b, off + k * 10 + 5, none⟩ = _ := p' 5 _ rfl
   have s6 : wr.cell? ⟨b, off + k * 10 + 6, none⟩ = _ := p' 6 _ rfl
   have s7 : wr.cell? ⟨b, off + k * 10 + 7, none⟩ = _ := p' 7 _ rfl
   have s8 : wr.cell? ⟨b, off + k * 10 + 8, none⟩ = _ := p' 8 _ rfl
   have s9 : wr.cell? ⟨b, off + k * 10 + 9, none⟩ = _ := p' 9 _ rfl
   have t0 : wr.cell? ⟨bb, off2 + k * 10, none⟩ = _ := r' 0 _ rfl
   have t1 : wr.cell? ⟨bb, off2 + k * 10 + 1, none⟩ = _ := r' 1 _ rfl
   have t2 : wr.cell? ⟨bb, off2 + k * 10 + 2, none⟩ = _ := r' 2 _ rfl
   have t3 : wr.cell? ⟨bb, off2 + k * 10 + 3, none⟩ = _ := r' 3 _ rfl
   have t4 : wr.cell? ⟨bb, off2 + k * 10 + 4, none⟩ = _ := r' 4 _ rfl
   have t5 : wr.cell? ⟨bb, off2 + k * 10 + 5, none⟩ = _ := r' 5 _ rfl
   have t6 : wr.cell? ⟨bb, off2 + k * 10 + 6, none⟩ = _ := r' 6 _ rfl
   have t7 : wr.cell? ⟨bb, off2 + k * 10 + 7, none⟩ = _ := r' 7 _ rfl
   have t8 : wr.cell? ⟨bb, off2 + k * 10 + 8, none⟩ = _ := r' 8 _ rfl
   have t9 : wr.cell? ⟨bb, off2 + k * 10 + 9, none⟩ = _ := r' 9 _ rfl
   have r2 : ∀ i v, (#[.int .u32 (s.typ : Nat), .int .u32 (s.flags : Nat), .int .u64 (s.vaddr : Nat), .int .u64 (s.paddr : Nat), .int .u64 (s.memsz : Nat), .int .u64 (s.align : Nat), .int .i64 s.pl.inn, .int .u64 (s.pl.off : Nat), .int .u64 (s.pl.size : Nat), .slice B3 k3 e3] : Array Value)[i]? = some v → (wr.alloc (.cells #[.int .u32 (s.typ : Nat), .int .u32 (s.flags : Nat), .int .u64 (s.vaddr : Nat), .int .u64 (s.paddr : Nat), .int .u64 (s.memsz : Nat), .int .u64 (s.align : Nat), .int .i64 s.pl.inn, .int .u64 (s.pl.off : Nat), .int .u64 (s.pl.size : Nat), .slice B1 k1 e1] 70)).cell? ⟨bb, off2 + k * 10 + i, none⟩ = some v := fun i v hv => (Below.cell (Grow.of_alloc wr _) HBB.out).trans (r' i v hv)
   have u0 : (wr.alloc (.cells #[.int .u32 (s.typ : Nat), .int .u32 (s.flags : Nat), .int .u64 (s.vaddr : Nat), .int .u64 (s.paddr : Nat), .int .u64 (s.memsz : Nat), .int .u64 (s.align : Nat), .int .i64 s.pl.inn, .int .u64 (s.pl.off : Nat), .int .u64 (s.pl.size : Nat), .slice B1 k1 e1] 70)).cell? ⟨bb, off2 + k * 10, none⟩ = _ := r2 0 _ rfl
   have u1 : (wr.alloc (.cells #[.int .u32 (s.typ : Nat), .int .u32 (s.flags : Nat), .int .u64 (s.vaddr : Nat), .int .u64 (s.paddr : Nat), .int .u64 (s.memsz : Nat), .int .u64 (s.align : Nat), .int .i64 s.pl.inn, .int .u64 (s.pl.off : Nat), .int .u64 (s.pl.size : Nat), .slice B1 k1 e1] 70)).cell? ⟨bb, off2 + k * 10 + 1, none⟩ = _ := r2 1 _ rfl
   have u2 : (wr.alloc (.cells #[.int .u32 (s.typ : Nat), .int .u32 (s.flags : Nat), .int .u64 (s.vaddr : Nat), .int .u64 (s.paddr : Nat), .int .u64 (s.memsz : Nat), .int .u64 (s.align : Nat), .int .i64 s.pl.inn, .int .u64 (s.pl.off : Nat), .int .u64 (s.pl.size : Nat), .slice B1 k1 e1] 70)).cell? ⟨bb, off2 + k * 10 + 2, none⟩ = _ := r2 2 _ rfl
   have u3 : (wr.alloc (.cells #[.int .u32 (s.typ : Nat), .int .u32 (s.flags : Nat), .int .u64 (s.vaddr : Nat), .int .u64 (s.paddr : Nat), .int .u64 (s.memsz : Nat), .int .u64 (s.align : Nat), .int .i64 s.pl.inn, .int .u64 (s.pl.off : Nat), .int .u64 (s.pl.size : Nat), .slice B1 k1 e1] 70)).cell? ⟨bb, off2 + k * 10 + 3, none⟩ = _ := r2 3 _ rfl
   have u4 : (wr.alloc (.cells #[.int .u32 (s.typ : Nat), .int .u32 (s.flags : Nat), .int .u64 (s.vaddr : Nat), .int .u64 (s.paddr : Nat), .int .u64 (s.memsz : Nat), .int .u64 (s.align : Nat), .int .i64 s.pl.inn, .int .u64 (s.pl.off : Nat), .int .u64 (s.pl.size : Nat), .slice B1 k1 e1] 70)).cell? ⟨bb, off2 + k * 10 + 4, none⟩ = _ := r2 4 _ rfl
   have u5 : (wr.alloc (.cells #[.int .u32 (s.typ : Nat), .int .u32 (s.flags : Nat), .int .u64 (s.vaddr : Nat), .int .u64 (s.paddr : Nat), .int .u64 (s.memsz : Nat), .int .u64 (s.align : Nat), .int .i64 s.pl.inn, .int .u64 (s.pl.off : Nat), .int .u64 (s.pl.size : Nat), .slice B1 k1 e1] 70)).cell? ⟨bb, off2 + k * 10 + 5, none⟩ = _ := r2 5 _ rfl
   have u6 : (wr.alloc (.cells #[.int .u32 (s.typ : Nat), .int .u32 (s.flags : Nat), .int .u64 (s.vaddr : Nat), .int .u64 (s.paddr : Nat), .int .u64 (s.memsz : Nat), .int .u64 (s.align : Nat), .int .i64 s.pl.inn, .int .u64 (s.pl.off : Nat), .int .u64 (s.pl.size : Nat), .slice B1 k1 e1] 70)).cell? ⟨bb, off2 + k * 10 + 6, none⟩ = _ := r2 6 _ rfl
   have u7 : (wr.alloc (.cells #[.int .u32 (s.typ : Nat), .int .u32 (s.flags : Nat), .int .u64 (s.vaddr : Nat), .int .u64 (s.paddr : Nat), .int .u64 (s.memsz : Nat), .int .u64 (s.align : Nat), .int .i64 s.pl.inn, .int .u64 (s.pl.off : Nat), .int .u64 (s.pl.size : Nat), .slice B1 k1 e1] 70)).cell? ⟨bb, off2 + k * 10 + 7, none⟩ = _ := r2 7 _ rfl
   have u8 : (wr.alloc (.cells #[.int .u32 (s.typ : Nat), .int .u32 (s.flags : Nat), .int .u64 (s.vaddr : Nat), .int .u64 (s.paddr : Nat), .int .u64 (s.memsz : Nat), .int .u64 (s.align : Nat), .int .i64 s.pl.inn, .int .u64 (s.pl.off : Nat), .int .u64 (s.pl.size : Nat), .slice B1 k1 e1] 70)).cell? ⟨bb, off2 + k * 10 + 8, none⟩ = _ := r2 8 _ rfl
   have u9 : (wr.alloc (.cells #[.int .u32 (s.typ : Nat), .int .u32 (s.flags : Nat), .int .u64 (s.vaddr : Nat), .int .u64 (s.paddr : Nat), .int .u64 (s.memsz : Nat), .int .u64 (s.align : Nat), .int .i64 s.pl.inn, .int .u64 (s.pl.off : Nat), .int .u64 (s.pl.size : Nat), .slice B1 k1 e1] 70)).cell? ⟨bb, off2 + k * 10 + 9, none⟩ = _ := r2 9 _ rfl
   have m8 := HX1.out.at 8
   have y8 := HY1.out.at 8
   have y8a := (HY1.out.grow (Grow.of_alloc wr (.cells #[.int .u32 (s.typ : Nat), .int .u32 (s.flags : Nat), .int .u64 (s.vaddr : Nat), .int .u64 (s.paddr : Nat), .int .u64 (s.memsz : Nat), .int .u64 (s.align : Nat), .int .i64 s.pl.inn, .int .u64 (s.pl.off : Nat), .int .u64 (s.pl.size : Nat), .slice B1 k1 e1] 70))).at 8
   clear p' r' r2
   have w0 : (0 : Int) ≤ (k : Int) := by omega
   have w1 : (k : Int) < (n1 : Int) := by omega
   have d1 : decide ((k : Int) < (n1 : Int)) = true := decide_eq_true (by omega)
   go_wp2_with fail
   generalize hW : World.alloc _ _ = W5
   obtain ⟨b5, b6, hg⟩ := blk2 hW
   clear hW d1 m8 y8 y8a s0 s1 s2 s3 s4 s5 s6 s7 s8 s9 t0 t1 t2 t3 t4 t5 t6 t7 t8 t9 u0 u1 u2 u3 u4 u5 u6 u7 u8 u9
   have HX2 := hid (HX1.out.grow hg)
   have HY2 := hid (HY1.out.grow hg)
   have HW2 : Hid (Grow w W5) := hid (HW1.out.trans hg)
   have H5 := hid b5
   have H6 := hid b6
   clear b5 b6 hg HX1 HY1 HW1
   generalize wr.heap.size + 1 = g6 at H6 ⊢
   generalize wr.heap.size = g5 at H5 ⊢
   refine (HSp.out _ HW2.out).mono ?_
   rintro e w6 ⟨rfl, hg⟩
   have HX3 := hid (HX2.out.grow hg)
   have HY3 := hid (HY2.out.grow hg)
   have HW3 : Hid (Grow w w6) := hid (HW2.out.trans hg)
   obtain ⟨s0, s1, s2, s3, s4, s5, s6, s7, s8, s9⟩ := (H5.out.grow hg).c10
   obtain ⟨t0, t1, t2, t3, t4, t5, t6, t7, t8, t9⟩ := (H6.out.grow hg).c10
   clear hg HX2 HY2 HW2 H5 H6 HSp
   go_wp2
   go_roundw
   case rel => exact ⟨k + 1, by omega, by go_num, HX3.out, HY3.out, HW3.out⟩
   case measure => simp [intOf]; omega
  ·have d1 : decide ((k : Int) < (n1 : Int)) = false := decide_eq_false (by omega)
   have m8 := HX1.out.at 8
   have m9 := HX1.out.at 9
   have HX := HX1
   have HY := HY1
   have HW := HW1
   clear HX1 HY1 HW1
   generalize wr = wz at *
   go_wp2_with fail
   clear d1 m8 m9
   go_loopw [9] (fun i wr => ∃ k : Nat, k ≤ n2 ∧ i = .int .i64 k ∧ Blk wr gx 32 #[.bool f0, .bool f1, .int .u8 (f2 : Nat), .int .u8 (f3 : Nat), .int .u16 (f4 : Nat), .int .u16 (f5 : Nat), .int .u32 (f6 : Nat), .int .u64 (f7 : Nat), .slice A1 n1 c1, .slice A2 n2 c2, .int .i64 f10] ∧ Blk wr gy 32 #[.bool f0, .bool f1, .int .u8 (f2 : Nat), .int .u8 (f3 : Nat), .int .u16 (f4 : Nat), .int .u16 (f5 : Nat), .int .u32 (f6 : Nat), .int .u64 (f7 : Nat), .slice A3 n1 c3, .slice A4 n2 c4, .int .i64 f10] ∧ Grow w wr) (fun i _ => n2 - (intOf i).toNat)
   case atStart => exact ⟨0, Nat.zero_le _, rfl, HX.out, HY.out, HW.out⟩
   case round =>
    obtain ⟨k, hk, rfl, hx, hy, hg⟩ := hrel
    have HX1 := hid hx
    have HY1 := hid hy
    have HW1 := hid hg
    clear hx hy hg HX HY HW
    by_cases hlt : k < n2
    ·have hkl : k < L2.length := by rw [← HL2.out]; exact hlt
     obtain ⟨b, off, hAA, hb⟩ := H2.out.pos (by omega)
     obtain ⟨bb, off2, hAB, hbb⟩ := H4.out.pos (by omega)
     subst hAA
     subst hAB
     obtain ⟨B1, k1, e1, -, p, g1⟩ := H2.out.at hkl
     obtain ⟨B3, k3, e3, -, r, g3⟩ := H4.out.at hkl
     have p' : ∀ i v, (seC L2[k] (.slice B1 k1 e1))[i]? = some v → wr.cell? ⟨b, off + k * 13 + i, none⟩ = some v := fun i v hv => (Below.cell HW1.out hb).trans (p i v hv)
     have r' : ∀ i v, (seC L2[k] (.slice B3 k3 e3))[i]? = some v → wr.cell? ⟨bb, off2 + k * 13 + i, none⟩ = some v := fun i v hv => (Below.cell HW1.out hbb).trans (r i v hv)
     have HSp := hid (fun W (hW : Grow w W) => rSamePlace_any L2[k].pl B1 B3 k1 e1 k3 e3 W ((g1.belowAt hW (Nat.le_refl _)).more hW.size) ((g3.belowAt hW (Nat.le_refl _)).more hW.size))
     have HB := hid (Nat.lt_of_lt_of_le hb HW1.out.size)
     have HBB := hid (Nat.lt_of_lt_of_le hbb HW1.out.size)
     unfold seC at p' r'
     unfold plC at HSp
     clear p r g1 g3
     generalize L2[k] = s at p' r' HSp
     clear hkl
     have s0 : wr.cell? ⟨b, off + k * 13, none⟩ = _ := p' 0 _ rfl
     have s1 : wr.cell? ⟨b, off + k * 13 + 1, none⟩ = _ := p' 1 _ rfl
     have s2 : wr.cell? ⟨b, off + k * 13 + 2, none⟩ = _ := p' 2 _ rfl
     have s3 : wr.cell? ⟨b, off + k * 13 + 3, none⟩ = _ := p' 3 _ rfl
     have s4 : wr.cell? ⟨b, off + k * 13 + 4, none⟩ = _ := p' 4 _ rfl
     have s5 : wr.cell? ⟨b, off + k * 13 + 5, none⟩ = _ := p' 5 _ rfl
     have s6 : wr.cell? ⟨b, off + k * 13 + 6, none⟩ = _ := p' 6 _ rfl
     have s7 : wr.cell? ⟨b, off + k * 13 + 7, none⟩ = _ := p' 7 _ rfl
     have s8 : wr.cell? ⟨b, off + k * 13 + 8, none⟩ = _ := p' 8 _ rfl
     have s9 : wr.cell? ⟨b, off + k * 13 + 9, none⟩ = _ := p' 9 _ rfl
     have s10 : wr.cell? ⟨b, off + k * 13 + 10, none⟩ = _ := p' 10 _ rfl
     have s11 : wr.cell? ⟨b, off + k * 13 + 11, none⟩ = _ := p' 11 _ rfl
     have s12 : wr.cell? ⟨b, off + k * 13 + 12, none⟩ = _ := p' 12 _ rfl
     have t0 : wr.cell? ⟨bb, off2 + k * 13, none⟩ = _ := r' 0 _ rfl
     have t1 : wr.cell? ⟨bb, off2 + k * 13 + 1, none⟩ = _ := r' 1 _ rfl
     have t2 : wr.cell? ⟨bb, off2 + k * 13 + 2, none⟩ = _ := r' 2 _ rfl
     have t3 : wr.cell? ⟨bb, off2 + k * 13 + 3, none⟩ = _ := r' 3 _ rfl
     have t4 : wr.cell? ⟨bb, off2 + k * 13 + 4, none⟩ = _ := r' 4 _ rfl
     have t5 : wr.cell? ⟨bb, off2 + k * 13 + 5, none⟩ = _ := r' 5 _ rfl
     have t6 : wr.cell? ⟨bb, off2 + k * 13 + 6, none⟩ = _ := r' 6 _ rfl
     have t7 : wr.cell? ⟨bb, off2 + k * 13 + 7, none⟩ = _ := r' 7 _ rfl
     have t8 : wr.cell? ⟨bb, off2 + k * 13 + 8, none⟩ = _ := r' 8 _ rfl
     have t9 : wr.cell? ⟨bb, off2 + k * 13 + 9, none⟩ = _ := r' 9 _ rfl
     have t10 : wr.cell? ⟨bb, off2 + k * 13 + 10, none⟩ = _ := r' 10 _ rfl
     have t11 : wr.cell? ⟨bb, off2 + k * 13 + 11, none⟩ = _ := r' 11 _ rfl
     have t12 : wr.cell? ⟨bb, off2 + k * 13 + 12, none⟩ = _ := r' 12 _ rfl
     have r2 : ∀ i v, (#[.int .u32 (s.name : Nat), .int .u32 (s.typ : Nat), .int .u64 (s.flags : Nat), .int .u64 (s.addr : Nat), .int .u64 (s.size : Nat), .int .u32 (s.link : Nat), .int .u32 (s.info : Nat), .int .u64 (s.align : Nat), .int .u64 (s.entsize : Nat), .int .i64 s.pl.inn, .int .u64 (s.pl.off : Nat), .int .u64 (s.pl.size : Nat), .slice B3 k3 e3] : Array Value)[i]? = some v → (wr.alloc (.cells #[.int .u32 (s.name : Nat), .int .u32 (s.typ : Nat), .int .u64 (s.flags : Nat), .int .u64 (s.addr : Nat), .int .u64 (s.size : Nat), .int .u32 (s.link : Nat), .int .u32 (s.info : Nat), .int .u64 (s.align : Nat), .int .u64 (s.entsize : Nat), .int .i64 s.pl.inn, .int .u64 (s.pl.off : Nat), .int .u64 (s.pl.size : Nat), .slice B1 k1 e1] 72)).cell? ⟨bb, off2 + k * 13 + i, none⟩ = some v := fun i v hv => (Below.cell (Grow.of_alloc wr _) HBB.out).trans (r' i v hv)
     have u0 : (wr.alloc (.cells #[.int .u32 (s.name : Nat), .int .u32 (s.typ : Nat), .int .u64 (s.flags : Nat), .int .u64 (s.addr : Nat), .int .u64 (s.size : Nat), .int .u32 (s.link : Nat), .int .u32 (s.info : Nat), .int .u64 (s.align : Nat), .int .u64 (s.entsize : Nat), .int .i64 s.pl.inn, .int .u64 (s.pl.off : Nat), .int .u64 (s.pl.size : Nat), .slice B1 k1 e1] 72)).cell? ⟨bb, off2 + k * 13, none⟩ = _ := r2 0 _ rfl
     have u1 : (wr.alloc (.cells #[.int .u32 (s.name : Nat), .int .u32 (s.typ : Nat), .int .u64 (s.flags : Nat), .int .u64 (s.addr : Nat), .int .u64 (s.size : Nat), .int .u32 (s.link : Nat), .int .u32 (s.info : Nat), .int .u64 (s.align : Nat), .int .u64 (s.entsize : Nat), .int .i64 s.pl.inn, .int .u64 (s.pl.off : Nat), .int .u64 (s.pl.size : Nat), .slice B1 k1 e1] 72)).cell? ⟨bb, off2 + k * 13 + 1, none⟩ = _ := r2 1 _ rfl
     have u2 : (wr.alloc (.cells #[.int .u32 (s.name : Nat), .int .u32 (s.typ : Nat), .int .u64 (s.flags : Nat), .int .u64 (s.addr : Nat), .int .u64 (s.size : Nat), .int .u32 (s.link : Nat), .int .u32 (s.info : Nat), .int .u64 (s.align : Nat), .int .u64 (s.entsize : Nat), .int .i64 s.pl.inn, .int .u64 (s.pl.off : Nat), .int .u64 (s.pl.size : Nat), .slice B1 k1 e1] 72)).cell? ⟨bb, off2 + k * 13 + 2, none⟩ = _ := r2 2 _ rfl
     have u3 : (wr.alloc (.cells #[.int .u32 (s.name : Nat), .int .u32 (s.typ : Nat), .int .u64 (s.flags : Nat), .int .u64 (s.addr : Nat), .int .u64 (s.size : Nat), .int .u32 (s.link : Nat), .int .u32 (s.info : Nat), .int .u64 (s.align : Nat), .int .u64 (s.entsize : Nat), .int .i64 s.pl.inn, .int .u64 (s.pl.off : Nat), .int .u64 (s.pl.size : Nat), .slice B1 k1 e1] 72)).cell? ⟨bb, off2 + k * 13 + 3, none⟩ = _ := r2 3 _ rfl
     have u4 : (wr.alloc (.cells #[.int .u32 (s.name : Nat), .int .u32 (s.typ : Nat), .int .u64 (s.flags : Nat), .int .u64 (s.addr : Nat), .int .u64 (s.size : Nat), .int .u32 (s.link : Nat), .int .u32 (s.info : Nat), .int .u64 (s.align : Nat), .int .u64 (s.entsize : Nat), .int .i64 s.pl.inn, .int .u64 (s.pl.off : Nat), .int .u64 (s.pl.size : Nat), .slice B1 k1 e1] 72)).cell? ⟨bb, off2 + k * 13 + 4, none⟩ = _ := r2 4 _ rfl
     have u5 : (wr.alloc (.cells #[.int .u32 (s.name : Nat), .int .u32 (s.typ : Nat), .int .u64 (s.flags : Nat), .int .u64 (s.addr : Nat), .int .u64 (s.size : Nat), .int .u32 (s.link : Nat), .int .u32 (s.info : Nat), .int .u64 (s.align : Nat), .int .u64 (s.entsize : Nat), .int .i64 s.pl.inn, .int .u64 (s.pl.off : Nat), .int .u64 (s.pl.size : Nat), .slice B1 k1 e1] 72)).cell? ⟨bb, off2 + k * 13 + 5, none⟩ = _ := r2 5 _ rfl
     have u6 : (wr.alloc (.cells #[.int .u32 (s.name : Nat), .int .u32 (s.typ : Nat), .int .u64 (s.flags : Nat), .int .u64 (s.addr : Nat), .int .u64 (s.size : Nat), .int .u32 (s.link : Nat), .int .u32 (s.info : Nat), .int .u64 (s.align : Nat), .int .u64 (s.entsize : Nat), .int .i64 s.pl.inn, .int .u64 (s.pl.off : Nat), .int .u64 (s.pl.size : Nat), .slice B1 k1 e1] 72)).cell? ⟨bb, off2 + k * 13 + 6, none⟩ = _ := r2 6 _ rfl
     have u7 : (wr.alloc (.cells #[.int .u32 (s.name : Nat), .int .u32 (s.typ : Nat), .int .u64 (s.flags : Nat), .int .u64 (s.addr : Nat), .int .u64 (s.size : Nat), .int .u32 (s.link : Nat), .int .u32 (s.info : Nat), .int .u64 (s.align : Nat), .int .u64 (s.entsize : Nat), .int .i64 s.pl.inn, .int .u64 (s.pl.off : Nat), .int .u64 (s.pl.size : Nat), .slice B1 k1 e1] 72)).cell? ⟨bb, off2 + k * 13 + 7, none⟩ = _ := r2 7 _ rfl
     have u8 : (wr.alloc (.cells #[.int .u32 (s.name : Nat), .int .u32 (s.typ : Nat), .int .u64 (s.flags : Nat), .int .u64 (s.addr : Nat), .int .u64 (s.size : Nat), .int .u32 (s.link : Nat), .int .u32 (s.info : Nat), .int .u64 (s.align : Nat), .int .u64 (s.entsize : Nat), .int .i64 s.pl.inn, .int .u64 (s.pl.off : Nat), .int .u64 (s.pl.size : Nat), .slice B1 k1 e1] 72)).cell? ⟨bb, off2 + k * 13 + 8, none⟩ = _ := r2 8 _ rfl
     have u9 : (wr.alloc (.cells #[.int .u32 (s.name : Nat), .int .u32 (s.typ : Nat), .int .u64 (s.flags : Nat), .int .u64 (s.addr : Nat), .int .u64 (s.size : Nat), .int .u32 (s.link : Nat), .int .u32 (s.info : Nat), .int .u64 (s.align : Nat), .int .u64 (s.entsize : Nat), .int .i64 s.pl.inn, .int .u64 (s.pl.off : Nat), .int .u64 (s.pl.size : Nat), .slice B1 k1 e1] 72)).cell? ⟨bb, off2 + k * 13 + 9, none⟩ = _ := r2 9 _ rfl
     have u10 : (wr.alloc (.cells #[.int .u32 (s.name : Nat), .int .u32 (s.typ : Nat), .int .u64 (s.flags : Nat), .int .u64 (s.addr : Nat), .int .u64 (s.size : Nat), .int .u32 (s.link : Nat), .int .u32 (s.info : Nat), .int .u64 (s.align : Nat), .int .u64 (s.entsize : Nat), .int .i64 s.pl.inn, .int .u64 (s.pl.off : Nat), .int .u64 (s.pl.size : Nat), .slice B1 k1 e1] 72)).cell? ⟨bb, off2 + k * 13 + 10, none⟩ = _ := r2 10 _ rfl
     have u11 : (wr.alloc (.cells #[.int .u32 (s.name : Nat), .int .u32 (s.typ : Nat), .int .u64 (s.flags : Nat), .int .u64 (s.addr : Nat), .int .u64 (s.size : Nat), .int .u32 (s.link : Nat), .int .u32 (s.info : Nat), .int .u64 (s.align : Nat), .int .u64 (s.entsize : Nat), .int .i64 s.pl.inn, .int .u64 (s.pl.off : Nat), .int .u64 (s.pl.size : Nat), .slice B1 k1 e1] 72)).cell? ⟨bb, off2 + k * 13 + 11, none⟩ = _ := r2 11 _ rfl
     have u12 : (wr.alloc (.cells #[.int .u32 (s.name : Nat), .int .u32 (s.typ : Nat), .int .u64 (s.flags : Nat), .int .u64 (s.addr : Nat), .int .u64 (s.size : Nat), .int .u32 (s.link : Nat), .int .u32 (s.info : Nat), .int .u64 (s.align : Nat), .int .u64 (s.entsize : Nat), .int .i64 s.pl.inn, .int .u64 (s.pl.off : Nat), .int .u64 (s.pl.size : Nat), .slice B1 k1 e1] 72)).cell? ⟨bb, off2 + k * 13 + 12, none⟩ = _ := r2 12 _ rfl
     have m8 := HX1.out.at 9
     have y8 := HY1.out.at 9
     have y8a := (HY1.out.grow (Grow.of_alloc wr (.cells #[.int .u32 (s.name : Nat), .int .u32 (s.typ : Nat), .int .u64 (s.flags : Nat), .int .u64 (s.addr : Nat), .int .u64 (s.size : Nat), .int .u32 (s.link : Nat), .int .u32 (s.info : Nat), .int .u64 (s.align : Nat), .int .u64 (s.entsize : Nat), .int .i64 s.pl.inn, .int .u64 (s.pl.off : Nat), .int .u64 (s.pl.size : Nat), .slice B1 k1 e1] 72))).at 9
     clear p' r' r2
     have w0 : (0 : Int) ≤ (k : Int) := by omega
     have w1 : (k : Int) < (n2 : Int) := by omega
     have d1 : decide ((k : Int) < (n2 : Int)) = true := decide_eq_true (by omega)
     go_wp2_with fail
     generalize hW : World.alloc _ _ = W5
     obtain ⟨b5, b6, hg⟩ := blk2 hW
     clear hW d1 m8 y8 y8a s0 s1 s2 s3 s4 s5 s6 s7 s8 s9 s10 s11 s12 t0 t1 t2 t3 t4 t5 t6 t7 t8 t9 t10 t11 t12 u0 u1 u2 u3 u4 u5 u6 u7 u8 u9 u10 u11 u12
     have HX2 := hid (HX1.out.grow hg)
     have HY2 := hid (HY1.out.grow hg)
     have HW2 : Hid (Grow w W5) := hid (HW1.out.trans hg)
     have H5 := hid b5
     have H6 := hid b6
     clear b5 b6 hg HX1 HY1 HW1
     generalize wr.heap.size + 1 = g6 at H6 ⊢
     generalize wr.heap.size = g5 at H5 ⊢
     refine (HSp.out _ HW2.out).mono ?_
     rintro e w6 ⟨rfl, hg⟩
     have HX3 := hid (HX2.out.grow hg)
     have HY3 := hid (HY2.out.grow hg)
     have HW3 : Hid (Grow w w6) := hid (HW2.out.trans hg)
     obtain ⟨s0, s1, s2, s3, s4, s5, s6, s7, s8, s9, s10, s11, s12⟩ := (H5.out.grow hg).c13
     obtain ⟨t0, t1, t2, t3, t4, t5, t6, t7, t8, t9, t10, t11, t12⟩ := (H6.out.grow hg).c13
     clear hg HX2 HY2 HW2 H5 H6 HSp
     go_wp2
     go_roundw
     case rel => exact ⟨k + 1, by omega, by go_num, HX3.out, HY3.out, HW3.out⟩
     case measure => simp [intOf]; omega
    ·have d1 : decide ((k : Int) < (n2 : Int)) = false := decide_eq_false (by omega)
     have m9 := HX1.out.at 9
     go_wp2
     go_ret
     exact ⟨rfl, HW1.out⟩
def Md.sum (m : Md) : Nat := (m.segs.map fun s => s.pl.own.length).sum + (m.secs.map fun s => s.pl.own.length).sum
def Md.few (m : Md) : Nat := if 20 < m.segs.length then 0 else if 70 < m.secs.length then 0 else if 100000 < m.sum then 0 else 1
theorem sum_snoc {α : Type} (f : α → Nat) (l : List α) (k : Nat) (h : k < l.length) : ((l.take (k + 1)).map f).sum = ((l.take k).map f).sum + f l[k] := by
 rw [takeS l k h, List.map_append, List.sum_append]
 simp
theorem sum_le {α : Type} (f : α → Nat) (b : Nat) : ∀ (l : List α), (∀ a ∈ l, f a ≤ b) → (l.map f).sum ≤ l.length * b
 | [], _ => by simp
 | a :: r, h => by
  have := sum_le f b r fun x hx => h x (List.mem_cons_of_mem _ hx)
  have := h a (by simp)
  simp only [List.map_cons, List.sum_cons, List.length_cons, Nat.succ_mul]
  omega
theorem sum_take_le {α : Type} (f : α → Nat) (l : List α) (k : Nat) : ((l.take k).map f).sum ≤ (l.map f).sum := by
 have : (l.map f).sum = ((l.take k).map f).sum + ((l.drop k).map f).sum := by
  rw [← List.sum_append, ← List.map_append, List.take_append_drop]
 omega
set_option maxHeartbeats 1000000 in
theorem few_any (m : Md) (A1 A2 : Option Addr) (n1 c1 n2 c2 : Nat) (w : World) (g1 : ZR sgK w w.heap.size A1 n1 c1 m.segs) (g2 : ZR seK w w.heap.size A2 n2 c2 m.secs) (hsm0 : n1 ≤ 20 → n2 ≤ 70 → m.sum ≤ 4000000000000000000) :
  Calls Tryz.prog 7 #[.agg (mdC m (.slice A1 n1 c1) (.slice A2 n2 c2))] w fun e w' => e = .returned (.int .i64 (m.few : Nat)) ∧ Grow w w' := by
 obtain ⟨x0, x1, x2, x3, x4, x5, x6, x7, x10, hC⟩ : ∃ x0 x1 x2 x3 x4 x5 x6 x7 x10 : Value, mdC m (.slice A1 n1 c1) (.slice A2 n2 c2) = #[x0, x1, x2, x3, x4, x5, x6, x7, .slice A1 n1 c1, .slice A2 n2 c2, x10] := ⟨_, _, _, _, _, _, _, _, _, rfl⟩
 rw [hC]
 have hm1 := g1.max
 have hc1 := g1.cap
 have hm2 := g2.max
 have hc2 := g2.cap
 have HZ1 := hid g1
 have HZ2 := hid g2
 have HL1 := hid g1.len
 have HL2 := hid g2.len
 have E := hid (show m.few = if 20 < n1 then 0 else if 70 < n2 then 0 else if 100000 < m.sum then 0 else 1 by rw [g1.len, g2.len]; rfl)
 have ES : Hid (m.sum = (m.segs.map fun s => s.pl.own.length).sum + (m.secs.map fun s => s.pl.own.length).sum) := hid rfl
 generalize m.few = R at E ⊢
 generalize m.sum = S at E ES hsm0
 generalize m.segs = L1 at HZ1 HL1 ES
 generalize m.secs = L2 at HZ2 HL2 ES
 have HA : Hid (∀ k, ((L1.take k).map fun s => s.pl.own.length).sum ≤ S) := hid fun k => by
  have := sum_take_le (fun s : Sg => s.pl.own.length) L1 k
  have := ES.out
  omega
 have HB : Hid (∀ k, (L1.map fun s => s.pl.own.length).sum + ((L2.take k).map fun s => s.pl.own.length).sum ≤ S) := hid fun k => by
  have := sum_take_le (fun s : Se => s.pl.own.length) L2 k
  have := ES.out
  omega
 clear hC g1 g2
 unfold maxLen at hm1 hm2
 by_cases h1 : 20 < n1
 ·have E2 := hid (show R = 0 by rw [E.out, if_pos h1])
  go_enter Tryz.func7, Tryz.ntmps7
  go_wp2
  go_ret
  exact ⟨by rw [E2.out]; rfl, Grow.of_alloc _ _⟩
 rw [if_neg h1] at E
 have d1 : decide (20 < n1) = false := decide_eq_false h1
 have d1' : decide ((20 : Int) < (n1 : Int)) = false := decide_eq_false (by omega)
 by_cases h2 : 70 < n2
 ·have E2 := hid (show R = 0 by rw [E.out, if_pos h2])
  clear h1
  go_enter Tryz.func7, Tryz.ntmps7
  go_wp2
  go_ret
  exact ⟨by rw [E2.out]; rfl, Grow.of_alloc _ _⟩
 rw [if_neg h2] at E
 have d2 : decide (70 < n2) = false := decide_eq_false h2
 have d2' : decide ((70 : Int) < (n2 : Int)) = false := decide_eq_false (by omega)
 have HH : Hid (n1 ≤ 20 ∧ n2 ≤ 70) := hid ⟨by omega, by omega⟩
 have hsm := hsm0 (by omega) (by omega)
 clear h1 h2 hsm0
 go_enter Tryz.func7, Tryz.ntmps7
 go_wp2_with fail
 clear d1 d1' d2 d2'
 generalize hW : World.alloc _ _ = W0
 obtain ⟨b1, hg0⟩ := blk1 hW
 clear hW
 have HB1 := hid b1
 have HG0 := hid hg0
 have y8 := b1.at 8
 clear b1 hg0
 go_loop [3, 4] (fun x i => ∃ (k : Nat) (t : Nat), k ≤ n1 ∧ i = .int .i64 k ∧ x = .int .i64 (t : Nat) ∧ Hid (t = ((L1.take k).map fun s => s.pl.own.length).sum)) (fun _ i => n1 - (intOf i).toNat)
 case atStart => exact ⟨0, 0, by omega, rfl, rfl, hid (by simp)⟩
 case round =>
  obtain ⟨k, t, hk, rfl, rfl, HT⟩ := hrel
  by_cases hlt : k < n1
  ·have hkl : k < L1.length := by rw [← HL1.out]; exact hlt
   obtain ⟨b, off, rfl, hb⟩ := HZ1.out.pos (by omega)
   obtain ⟨Ak, nk, ck, -, hcell, gk⟩ := HZ1.out.at hkl
   have t9 : W0.cell? ⟨b, off + k * 10 + 9, none⟩ = some (.slice Ak nk ck) := (Below.cell HG0.out hb).trans (hcell 9 _ rfl)
   have HS := hid (sum_snoc (fun s : Sg => s.pl.own.length) L1 k hkl)
   have hnk : L1[k].pl.own.length = nk := gk.len.symm
   have hle := HA.out (k + 1)
   rw [HS.out, ← HT.out] at hle
   simp only [hnk] at HS hle
   rw [← HT.out] at HS
   clear hcell gk hb hnk
   have z : IntKind.i64.wrap ((t : Int) + (nk : Int)) = ((t + nk : Nat) : Int) := by rw [IntKind.wrap_i64]; omega
   go_wp2
   go_round
   case rel => exact ⟨k + 1, t + nk, by omega, by go_num, by first | rfl | simp, hid HS.out.symm⟩
   case measure => simp [intOf]; omega
  ·obtain rfl : n1 = k := by omega
   have HT1 : Hid (t = (L1.map fun s => s.pl.own.length).sum) := by
    have : L1.take n1 = L1 := by rw [List.take_of_length_le (by have := HL1.out; omega)]
    have h := HT.out
    rw [this] at h
    exact h
   have y9 := HB1.out.at 9
   clear HT
   go_wp2_with fail
   clear y8
   go_loop [3, 5] (fun x i => ∃ (k : Nat) (t' : Nat), k ≤ n2 ∧ i = .int .i64 k ∧ x = .int .i64 (t' : Nat) ∧ Hid (t' = t + ((L2.take k).map fun s => s.pl.own.length).sum)) (fun _ i => n2 - (intOf i).toNat)
   case atStart => exact ⟨0, t, by omega, rfl, rfl, hid (by simp)⟩
   case round =>
    obtain ⟨k, t', hk, rfl, rfl, HT⟩ := hrel
    by_cases hlt : k < n2
    ·have hkl : k < L2.length := by rw [← HL2.out]; exact hlt
     obtain ⟨b, off, rfl, hb⟩ := HZ2.out.pos (by omega)
     obtain ⟨Ak, nk, ck, -, hcell, gk⟩ := HZ2.out.at hkl
     have t9 : W0.cell? ⟨b, off + k * 13 + 12, none⟩ = some (.slice Ak nk ck) := (Below.cell HG0.out hb).trans (hcell 12 _ rfl)
     have HS := hid (sum_snoc (fun s : Se => s.pl.own.length) L2 k hkl)
     have hnk : L2[k].pl.own.length = nk := gk.len.symm
     have hle := HB.out (k + 1)
     rw [HS.out, ← HT1.out, ← Nat.add_assoc, ← HT.out] at hle
     simp only [hnk] at HS hle
     have HS2 : Hid (t' + nk = t + ((L2.take (k + 1)).map fun s => s.pl.own.length).sum) := hid (by rw [HS.out, ← Nat.add_assoc, ← HT.out])
     clear hcell gk hb hnk HS
     have z : IntKind.i64.wrap ((t' : Int) + (nk : Int)) = ((t' + nk : Nat) : Int) := by rw [IntKind.wrap_i64]; omega
     go_wp2
     go_round
     case rel => exact ⟨k + 1, t' + nk, by omega, by go_num, by first | rfl | simp, HS2⟩
     case measure => simp [intOf]; omega
    ·obtain rfl : n2 = k := by omega
     have HS : Hid (t' = S) := by
      have : L2.take n2 = L2 := by rw [List.take_of_length_le (by have := HL2.out; omega)]
      have h := HT.out
      rw [this, HT1.out, ← ES.out] at h
      exact h
     by_cases hb : 100000 < t'
     ·have E2 := hid (show R = 0 by rw [E.out, ← HS.out, if_pos hb])
      have d : decide (100000 < t') = true := decide_eq_true hb
      have d' : decide ((100000 : Int) < (t' : Int)) = true := decide_eq_true (by omega)
      clear hb
      go_wp2
      go_ret
      exact ⟨by rw [E2.out]; rfl, HG0.out⟩
     ·have E2 := hid (show R = 1 by rw [E.out, ← HS.out, if_neg hb])
      have d : decide (100000 < t') = false := decide_eq_false hb
      have d' : decide ((100000 : Int) < (t' : Int)) = false := decide_eq_false (by omega)
      clear hb
      go_wp2
      go_ret
      exact ⟨by rw [E2.out]; rfl, HG0.out⟩
theorem sum_small {m : Md} {n1 n2 : Nat} (l1 : n1 = m.segs.length) (l2 : n2 = m.secs.length) (hs1 : ∀ s ∈ m.segs, s.pl.own.length ≤ reachBytes) (hs2 : ∀ s ∈ m.secs, s.pl.own.length ≤ reachBytes) :
  n1 ≤ 20 → n2 ≤ 70 → m.sum ≤ 4000000000000000000 := fun h1 h2 => by
 have q1 := sum_le (fun s : Sg => s.pl.own.length) reachBytes m.segs hs1
 have q2 := sum_le (fun s : Se => s.pl.own.length) reachBytes m.secs hs2
 have e1 : m.segs.length * reachBytes ≤ 20 * reachBytes := Nat.mul_le_mul_right _ (by omega)
 have e2 : m.secs.length * reachBytes ≤ 70 * reachBytes := Nat.mul_le_mul_right _ (by omega)
 unfold Md.sum
 unfold reachBytes at q1 q2 e1 e2
 omega
theorem refWithin_any (a n s : Int) (w : World) (ha : 0 ≤ a) (hn : 0 ≤ n) (hs : s ≤ 18446744073709551615) :
  Calls Tryz.prog 103 #[.int .u64 a, .int .u64 n, .int .u64 s] w fun e w' => e = .returned (.bool (wthn a n s)) ∧ w = w' := by
 by_cases h1 : a ≤ s
 ·have hd : 0 ≤ s - a := by omega
  by_cases h2 : n ≤ s - a
  ·have E := hid (show wthn a n s = true from decide_eq_true (by omega))
   go_enter Tryz.func103, Tryz.ntmps103
   go_wp2
   go_ret
   exact ⟨ret_bool E.out.symm, rfl⟩
  ·have E := hid (show wthn a n s = false from decide_eq_false (by omega))
   have h2' : decide (n ≤ s - a) = false := decide_eq_false h2
   go_enter Tryz.func103, Tryz.ntmps103
   go_wp2
   go_ret
   exact ⟨ret_bool E.out.symm, rfl⟩
 ·have E := hid (show wthn a n s = false from decide_eq_false (by omega))
  have h1' : decide (a ≤ s) = false := decide_eq_false h1
  go_enter Tryz.func103, Tryz.ntmps103
  go_wp2
  go_ret
  exact ⟨ret_bool E.out.symm, rfl⟩
end Go.Proofs.YtfglppjilcaafaaGreatDoor
