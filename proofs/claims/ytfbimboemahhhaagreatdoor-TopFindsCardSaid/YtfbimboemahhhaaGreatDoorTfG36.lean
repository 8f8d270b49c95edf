/-
  Several texts in one: The contract of model; The example (up) of the theorems through the layers; A part of bytes that may be nil; The contract of model; The contracts of sym.
-/
import Derived.Test.YtfbimboemahhhaaGreatDoorTfG5
import Derived.Test.YtfbimboemahhhaaGreatDoorTfG9
import Derived.Test.YtfbimboemahhhaaGreatDoorTfG1
import Derived.Test.YtfbimboemahhhaaGreatDoorTfG8
import Derived.Test.YtfbimboemahhhaaGreatDoorTfG23
import Derived.Test.YtfbimboemahhhaaGreatDoorTfG29
import Derived.Test.YtfbimboemahhhaaGreatDoorTfG35
import Derived.Test.YtfbimboemahhhaaGreatDoorRows
import Derived.Test.YtfbimboemahhhaaGreatDoorTfG21
import Derived.Test.YtfbimboemahhhaaGreatDoorTfG24
import Derived.Test.YtfbimboemahhhaaGreatDoorTfG2
import Derived.Test.YtfbimboemahhhaaGreatDoorTfG14
import Derived.Test.YtfbimboemahhhaaGreatDoorTfG12
import Derived.WalkKit
import Derived.Laws.ResultCell
import Derived.Lib.Hide
namespace Go.Proofs.YtfbimboemahhhaaGreatDoor
open Go.Lib (hid)
open Go.RowKit
set_option maxRecDepth 100000
theorem bEqual_any (A A' : Option Addr) (n c n' c' : Nat) (l : List UInt8) (w : World) (h : RB w w.heap.size A n c l) (h' : RB w w.heap.size A' n' c' l) :
  Calls Tryz.prog 140 #[.slice A n c, .slice A' n' c'] w fun e w' => e = .returned (.bool true) ∧ w = w' := by
 have hs1 := (h.conv (Nat.le_refl _)) w (Grow.refl _)
 have hs2 := (h'.conv (Nat.le_refl _)) w (Grow.refl _)
 clear h h'
 go_enter Tryz.func140, Tryz.ntmps140
 go_wp2
 go_ret
 exact ⟨rfl, rfl⟩
set_option maxHeartbeats 4000000 in
theorem samePlace_any (p : Pl) (A A' : Option Addr) (n c n' c' : Nat) (w : World) (h : RB w w.heap.size A n c p.own) (h' : RB w w.heap.size A' n' c' p.own) :
  Calls Tryz.prog 111 #[.agg (plC p (.slice A n c)), .agg (plC p (.slice A' n' c'))] w fun e w' => e = .returned (.bool true) ∧ Grow w w' := by
 have HE := hid (fun W (hg : Grow w W) => bEqual_any A A' n c n' c' p.own W (h.grow hg) (h'.grow hg))
 unfold plC
 clear h h'
 generalize p.inn = i
 generalize p.off = o
 generalize p.size = z
 go_enter Tryz.func111, Tryz.ntmps111
 go_wp2_with fail
 refine (HE.out _ ((Grow.of_alloc _ _).trans (Grow.of_alloc _ _))).mono ?_
 rintro e w' ⟨rfl, rfl⟩
 clear HE
 go_wp2
 go_ret
 exact ⟨rfl, (Grow.of_alloc _ _).trans (Grow.of_alloc _ _)⟩
set_option maxHeartbeats 8000000 in
theorem sameSeg_any (s : Sg) (A A' : Option Addr) (n c n' c' : Nat) (w : World) (h : RB w w.heap.size A n c s.pl.own) (h' : RB w w.heap.size A' n' c' s.pl.own) :
  Calls Tryz.prog 60 #[.agg (sgC s (.slice A n c)), .agg (sgC s (.slice A' n' c'))] w fun e w' => e = .returned (.bool true) ∧ Grow w w' := by
 have HE := hid (fun W (hg : Grow w W) => samePlace_any s.pl A A' n c n' c' W (h.grow hg) (h'.grow hg))
 unfold sgC
 unfold plC at HE
 clear h h'
 generalize s.pl.inn = i at HE ⊢
 generalize s.pl.off = o at HE ⊢
 generalize s.pl.size = z at HE ⊢
 generalize s.typ = f0
 generalize s.flags = f1
 generalize s.vaddr = f2
 generalize s.paddr = f3
 generalize s.memsz = f4
 generalize s.align = f5
 go_enter Tryz.func60, Tryz.ntmps60
 go_wp2_with fail
 generalize hW : World.alloc _ _ = W0
 obtain ⟨b1, b2, hg0⟩ := blk2 hW
 clear hW
 obtain ⟨x0, x1, x2, x3, x4, x5, x6, x7, x8, x9⟩ := b1.c10
 obtain ⟨y0, y1, y2, y3, y4, y5, y6, y7, y8, y9⟩ := b2.c10
 clear b1 b2
 go_wp2_with fail
 clear x0 x1 x2 x3 x4 x5 x6 x7 x8 x9 y0 y1 y2 y3 y4 y5 y6 y7 y8 y9
 refine (HE.out _ hg0).mono ?_
 rintro e w' ⟨rfl, hg⟩
 have HG : Hid (Grow w w') := hid (hg0.trans hg)
 clear HE hg0 hg
 go_wp2
 go_ret
 exact ⟨rfl, HG.out⟩
set_option maxHeartbeats 8000000 in
theorem eqSegs_any (A A' : Option Addr) (n c n' c' : Nat) (L : List Sg) (w : World) (h : ZR sgK w w.heap.size A n c L) (h' : ZR sgK w w.heap.size A' n' c' L) :
  Calls Tryz.prog 59 #[.slice A n c, .slice A' n' c', .func (.func 60) #[] #[]] w fun e w' => e = .returned (.bool true) ∧ Grow w w' := by
 obtain rfl : n' = n := h'.len.trans h.len.symm
 have HS := hid h
 have HS' := hid h'
 have HL := hid h.len
 have hc := h.cap
 have hm := h.max
 have hc' := h'.cap
 have hm' := h'.max
 unfold maxLen at hm hm'
 clear h h'
 go_enter Tryz.func59, Tryz.ntmps59
 go_wp2_with fail
 go_loopw [17] (fun i wr => ∃ k : Nat, k ≤ n' ∧ i = .int .i64 k ∧ Grow w wr) (fun i _ => n' - (intOf i).toNat)
 case atStart => exact ⟨0, Nat.zero_le _, rfl, Grow.refl _⟩
 case round =>
  obtain ⟨k, hk, rfl, hg⟩ := hrel
  by_cases hlt : k < n'
  ·have HG := hid hg
   have hkl : k < L.length := by rw [← HL.out]; exact hlt
   obtain ⟨b, off, rfl, hb⟩ := HS.out.pos (by omega)
   obtain ⟨bb, off2, rfl, hbb⟩ := HS'.out.pos (by omega)
   obtain ⟨A1, n1, c1, -, p, g1⟩ := HS.out.at hkl
   obtain ⟨A3, n3, c3, -, q, g3⟩ := HS'.out.at hkl
   have p' : ∀ i v, (sgC L[k] (.slice A1 n1 c1))[i]? = some v → wr.cell? ⟨b, off + k * 10 + i, none⟩ = some v := fun i v hv => (Below.cell hg hb).trans (p i v hv)
   have q' : ∀ i v, (sgC L[k] (.slice A3 n3 c3))[i]? = some v → wr.cell? ⟨bb, off2 + k * 10 + i, none⟩ = some v := fun i v hv => (Below.cell hg hbb).trans (q i v hv)
   have hlt1 := Nat.lt_of_lt_of_le hb hg.size
   have hlt2 := Nat.lt_of_lt_of_le hbb hg.size
   have HE := hid (fun W (hW : Grow w W) => sameSeg_any L[k] A1 A3 n1 c1 n3 c3 W ((g1.belowAt hW (Nat.le_refl _)).more hW.size) ((g3.belowAt hW (Nat.le_refl _)).more hW.size))
   unfold sgC at p' q' HE
   clear p q g1 g3
   generalize L[k] = s at p' q' HE
   clear hkl hg
   have s0 : wr.cell? ⟨b, off + k * 10, none⟩ = _ := p' 0 _ rfl
   have s1 : wr.cell? ⟨b, off + k * 10 + 1, none⟩ = _ := p' 1 _ rfl
   have s2 : wr.cell? ⟨b, off + k * 10 + 2, none⟩ = _ := p' 2 _ rfl
   have s3 : wr.cell? ⟨b, off + k * 10 + 3, none⟩ = _ := p' 3 _ rfl
   have s4 : wr.cell? ⟨b, off + k * 10 + 4, none⟩ = _ := p' 4 _ rfl
   have s5 : wr.cell? ⟨b, off + k * 10 + 5, none⟩ = _ := p' 5 _ rfl
   have s6 : wr.cell? ⟨b, off + k * 10 + 6, none⟩ = _ := p' 6 _ rfl
   have s7 : wr.cell? ⟨b, off + k * 10 + 7, none⟩ = _ := p' 7 _ rfl
   have s8 : wr.cell? ⟨b, off + k * 10 + 8, none⟩ = _ := p' 8 _ rfl
   have s9 : wr.cell? ⟨b, off + k * 10 + 9, none⟩ = _ := p' 9 _ rfl
   have t0 : wr.cell? ⟨bb, off2 + k * 10, none⟩ = _ := q' 0 _ rfl
   have t1 : wr.cell? ⟨bb, off2 + k * 10 + 1, none⟩ = _ := q' 1 _ rfl
   have t2 : wr.cell? ⟨bb, off2 + k * 10 + 2, none⟩ = _ := q' 2 _ rfl
   have t3 : wr.cell? ⟨bb, off2 + k * 10 + 3, none⟩ = _ := q' 3 _ rfl
   have t4 : wr.cell? ⟨bb, off2 + k * 10 + 4, none⟩ = _ := q' 4 _ rfl
   have t5 : wr.cell? ⟨bb, off2 + k * 10 + 5, none⟩ = _ := q' 5 _ rfl
   have t6 : wr.cell? ⟨bb, off2 + k * 10 + 6, none⟩ = _ := q' 6 _ rfl
   have t7 : wr.cell? ⟨bb, off2 + k * 10 + 7, none⟩ = _ := q' 7 _ rfl
   have t8 : wr.cell? ⟨bb, off2 + k * 10 + 8, none⟩ = _ := q' 8 _ rfl
   have t9 : wr.cell? ⟨bb, off2 + k * 10 + 9, none⟩ = _ := q' 9 _ rfl
   clear p' q'
   have w0 : (0 : Int) ≤ (k : Int) := by omega
   have w1 : (k : Int) < (n' : Int) := by omega
   go_wp2_with fail
   refine (HE.out _ (HG.out.trans ((Grow.of_alloc _ _).trans (Grow.of_alloc _ _)))).mono ?_
   rintro e w' ⟨rfl, hg⟩
   have HG' : Hid (Grow w w') := hid (HG.out.trans (((Grow.of_alloc _ _).trans (Grow.of_alloc _ _)).trans hg))
   clear HE hg HG hlt1 hlt2 hb hbb s0 s1 s2 s3 s4 s5 s6 s7 s8 s9 t0 t1 t2 t3 t4 t5 t6 t7 t8 t9
   go_wp2
   go_roundw
   case rel => exact ⟨k + 1, by omega, by go_num, HG'.out⟩
   case measure => simp [intOf]; omega
  ·have d : decide ((k : Int) < (n' : Int)) = false := decide_eq_false (by omega)
   go_wp2
   go_ret
   exact ⟨rfl, hg⟩
set_option maxHeartbeats 8000000 in
theorem sameSec_any (s : Se) (A A' : Option Addr) (n c n' c' : Nat) (w : World) (h : RB w w.heap.size A n c s.pl.own) (h' : RB w w.heap.size A' n' c' s.pl.own) :
  Calls Tryz.prog 62 #[.agg (seC s (.slice A n c)), .agg (seC s (.slice A' n' c'))] w fun e w' => e = .returned (.bool true) ∧ Grow w w' := by
 have HE := hid (fun W (hg : Grow w W) => samePlace_any s.pl A A' n c n' c' W (h.grow hg) (h'.grow hg))
 unfold seC
 unfold plC at HE
 clear h h'
 generalize s.pl.inn = i at HE ⊢
 generalize s.pl.off = o at HE ⊢
 generalize s.pl.size = z at HE ⊢
 generalize s.name = f0
 generalize s.typ = f1
 generalize s.flags = f2
 generalize s.addr = f3
 generalize s.size = f4
 generalize s.link = f5
 generalize s.info = f6
 generalize s.align = f7
 generalize s.entsize = f8
 go_enter Tryz.func62, Tryz.ntmps62
 go_wp2_with fail
 generalize hW : World.alloc _ _ = W0
 obtain ⟨b1, b2, hg0⟩ := blk2 hW
 clear hW
 obtain ⟨x0, x1, x2, x3, x4, x5, x6, x7, x8, x9, x10, x11, x12⟩ := b1.c13
 obtain ⟨y0, y1, y2, y3, y4, y5, y6, y7, y8, y9, y10, y11, y12⟩ := b2.c13
 clear b1 b2
 go_wp2_with fail
 clear x0 x1 x2 x3 x4 x5 x6 x7 x8 x9 x10 x11 x12 y0 y1 y2 y3 y4 y5 y6 y7 y8 y9 y10 y11 y12
 refine (HE.out _ hg0).mono ?_
 rintro e w' ⟨rfl, hg⟩
 have HG : Hid (Grow w w') := hid (hg0.trans hg)
 clear HE hg0 hg
 go_wp2
 go_ret
 exact ⟨rfl, HG.out⟩
set_option maxHeartbeats 8000000 in
theorem eqSecs_any (A A' : Option Addr) (n c n' c' : Nat) (L : List Se) (w : World) (h : ZR seK w w.heap.size A n c L) (h' : ZR seK w w.heap.size A' n' c' L) :
  Calls Tryz.prog 61 #[.slice A n c, .slice A' n' c', .func (.func 62) #[] #[]] w fun e w' => e = .returned (.bool true) ∧ Grow w w' := by
 obtain rfl : n' = n := h'.len.trans h.len.symm
 have HS := hid h
 have HS' := hid h'
 have HL := hid h.len
 have hc := h.cap
 have hm := h.max
 have hc' := h'.cap
 have hm' := h'.max
 unfold maxLen at hm hm'
 clear h h'
 go_enter Tryz.func61, Tryz.ntmps61
 go_wp2_with fail
 go_loopw [17] (fun i wr => ∃ k : Nat, k ≤ n' ∧ i = .int .i64 k ∧ Grow w wr) (fun i _ => n' - (intOf i).toNat)
 case atStart => exact ⟨0, Nat.zero_le _, rfl, Grow.refl _⟩
 case round =>
  obtain ⟨k, hk, rfl, hg⟩ := hrel
  by_cases hlt : k < n'
  ·have HG := hid hg
   have hkl : k < L.length := by rw [← HL.out]; exact hlt
   obtain ⟨b, off, rfl, hb⟩ := HS.out.pos (by omega)
   obtain ⟨bb, off2, rfl, hbb⟩ := HS'.out.pos (by omega)
   obtain ⟨A1, n1, c1, -, p, g1⟩ := HS.out.at hkl
   obtain ⟨A3, n3, c3, -, q, g3⟩ := HS'.out.at hkl
   have p' : ∀ i v, (seC L[k] (.slice A1 n1 c1))[i]? = some v → wr.cell? ⟨b, off + k * 13 + i, none⟩ = some v := fun i v hv => (Below.cell hg hb).trans (p i v hv)
   have q' : ∀ i v, (seC L[k] (.slice A3 n3 c3))[i]? = some v → wr.cell? ⟨bb, off2 + k * 13 + i, none⟩ = some v := fun i v hv => (Below.cell hg hbb).trans (q i v hv)
   have hlt1 := Nat.lt_of_lt_of_le hb hg.size
   have hlt2 := Nat.lt_of_lt_of_le hbb hg.size
   have HE := hid (fun W (hW : Grow w W) => sameSec_any L[k] A1 A3 n1 c1 n3 c3 W ((g1.belowAt hW (Nat.le_refl _)).more hW.size) ((g3.belowAt hW (Nat.le_refl _)).more hW.size))
   unfold seC at p' q' HE
   clear p q g1 g3
   generalize L[k] = s at p' q' HE
   clear hkl hg
   have s0 : wr.cell? ⟨b, off + k * 13, none⟩ = _ := p' 0 _ rfl
   have s1 : wr.cell? ⟨b, off + k * 13 + 1, none⟩ = _ := p' 1 _ rfl
   have s2 : wr.cell? ⟨b, off + k * 13 + 2, none⟩ = _ := p' 2 _ rfl
   have s3 : wr.cell? ⟨b, off + k * 13 + 3, none⟩ = _ := p' 3 _ rfl
   have s4 : wr.cell? ⟨b, off + k * 13 + 4, none⟩ = _ := p' 4 _ rfl
   have s5 : wr.cell? ⟨b, off + k * 13 + 5, none⟩ = _ := p' 5 _ rfl
   have s6 : wr.cell? ⟨b, off + k * 13 + 6, none⟩ = _ := p' 6 _ rfl
   have s7 : wr.cell? ⟨b, off + k * 13 + 7, none⟩ = _ := p' 7 _ rfl
   have s8 : wr.cell? ⟨b, off + k * 13 + 8, none⟩ = _ := p' 8 _ rfl
   have s9 : wr.cell? ⟨b, off + k * 13 + 9, none⟩ = _ := p' 9 _ rfl
   have s10 : wr.cell? ⟨b, off + k * 13 + 10, none⟩ = _ := p' 10 _ rfl
   have s11 : wr.cell? ⟨b, off + k * 13 + 11, none⟩ = _ := p' 11 _ rfl
   have s12 : wr.cell? ⟨b, off + k * 13 + 12, none⟩ = _ := p' 12 _ rfl
   have t0 : wr.cell? ⟨bb, off2 + k * 13, none⟩ = _ := q' 0 _ rfl
   have t1 : wr.cell? ⟨bb, off2 + k * 13 + 1, none⟩ = _ := q' 1 _ rfl
   have t2 : wr.cell? ⟨bb, off2 + k * 13 + 2, none⟩ = _ := q' 2 _ rfl
   have t3 : wr.cell? ⟨bb, off2 + k * 13 + 3, none⟩ = _ := q' 3 _ rfl
   have t4 : wr.cell? ⟨bb, off2 + k * 13 + 4, none⟩ = _ := q' 4 _ rfl
   have t5 : wr.cell? ⟨bb, off2 + k * 13 + 5, none⟩ = _ := q' 5 _ rfl
   have t6 : wr.cell? ⟨bb, off2 + k * 13 + 6, none⟩ = _ := q' 6 _ rfl
   have t7 : wr.cell? ⟨bb, off2 + k * 13 + 7, none⟩ = _ := q' 7 _ rfl
   have t8 : wr.cell? ⟨bb, off2 + k * 13 + 8, none⟩ = _ := q' 8 _ rfl
   have t9 : wr.cell? ⟨bb, off2 + k * 13 + 9, none⟩ = _ := q' 9 _ rfl
   have t10 : wr.cell? ⟨bb, off2 + k * 13 + 10, none⟩ = _ := q' 10 _ rfl
   have t11 : wr.cell? ⟨bb, off2 + k * 13 + 11, none⟩ = _ := q' 11 _ rfl
   have t12 : wr.cell? ⟨bb, off2 + k * 13 + 12, none⟩ = _ := q' 12 _ rfl
   clear p' q'
   have w0 : (0 : Int) ≤ (k : Int) := by omega
   have w1 : (k : Int) < (n' : Int) := by omega
   go_wp2_with fail
   refine (HE.out _ (HG.out.trans ((Grow.of_alloc _ _).trans (Grow.of_alloc _ _)))).mono ?_
   rintro e w' ⟨rfl, hg⟩
   have HG' : Hid (Grow w w') := hid (HG.out.trans (((Grow.of_alloc _ _).trans (Grow.of_alloc _ _)).trans hg))
   clear HE hg HG hlt1 hlt2 hb hbb s0 s1 s2 s3 s4 s5 s6 s7 s8 s9 s10 s11 s12 t0 t1 t2 t3 t4 t5 t6 t7 t8 t9 t10 t11 t12
   go_wp2
   go_roundw
   case rel => exact ⟨k + 1, by omega, by go_num, HG'.out⟩
   case measure => simp [intOf]; omega
  ·have d : decide ((k : Int) < (n' : Int)) = false := decide_eq_false (by omega)
   go_wp2
   go_ret
   exact ⟨rfl, hg⟩
set_option maxHeartbeats 8000000 in
theorem same_any (m : Md) (A1 A2 A3 A4 : Option Addr) (n1 c1 n2 c2 n3 c3 n4 c4 : Nat) (w : World) (g1 : ZR sgK w w.heap.size A1 n1 c1 m.segs) (g2 : ZR seK w w.heap.size A2 n2 c2 m.secs) (g3 : ZR sgK w w.heap.size A3 n3 c3 m.segs) (g4 : ZR seK w w.heap.size A4 n4 c4 m.secs) :
  Calls Tryz.prog 18 #[.agg (mdC m (.slice A1 n1 c1) (.slice A2 n2 c2)), .agg (mdC m (.slice A3 n3 c3) (.slice A4 n4 c4))] w fun e w' => e = .returned (.bool true) ∧ Grow w w' := by
 have HP := hid (fun W (hg : Grow w W) => eqSegs_any A1 A3 n1 c1 n3 c3 m.segs W (g1.grow hg) (g3.grow hg))
 have HS := hid (fun W (hg : Grow w W) => eqSecs_any A2 A4 n2 c2 n4 c4 m.secs W (g2.grow hg) (g4.grow hg))
 unfold mdC
 clear g1 g2 g3 g4
 generalize m.wide = f0
 generalize m.big = f1
 generalize m.osabi = f2
 generalize m.abi = f3
 generalize m.typ = f4
 generalize m.mach = f5
 generalize m.flags = f6
 generalize m.entry = f7
 generalize m.str = f10
 go_enter Tryz.func18, Tryz.ntmps18
 go_wp2_with fail
 generalize hW : World.alloc _ _ = W0
 obtain ⟨b1, b2, hg0⟩ := blk2 hW
 clear hW
 have HB1 := hid b1
 have HB2 := hid b2
 have HG0 := hid hg0
 obtain ⟨x0, x1, x2, x3, x4, x5, x6, x7, x8, x9, x10⟩ := b1.c11
 obtain ⟨y0, y1, y2, y3, y4, y5, y6, y7, y8, y9, y10⟩ := b2.c11
 clear b1 b2 hg0
 go_wp2_with fail
 clear x0 x1 x2 x3 x4 x5 x6 x7 x8 x9 x10 y0 y1 y2 y3 y4 y5 y6 y7 y8 y9 y10
 refine (HP.out _ HG0.out).mono ?_
 rintro e w1 ⟨rfl, hg⟩
 obtain ⟨x0, x1, x2, x3, x4, x5, x6, x7, x8, x9, x10⟩ := (HB1.out.grow hg).c11
 obtain ⟨y0, y1, y2, y3, y4, y5, y6, y7, y8, y9, y10⟩ := (HB2.out.grow hg).c11
 have HG1 : Hid (Grow w w1) := hid (HG0.out.trans hg)
 clear HB1 HB2 HG0 hg HP
 go_wp2_with fail
 clear x0 x1 x2 x3 x4 x5 x6 x7 x8 x9 x10 y0 y1 y2 y3 y4 y5 y6 y7 y8 y9 y10
 refine (HS.out _ HG1.out).mono ?_
 rintro e w2 ⟨rfl, hg⟩
 have HG2 : Hid (Grow w w2) := hid (HG1.out.trans hg)
 clear HG1 hg HS
 go_wp2
 go_ret
 exact ⟨rfl, HG2.out⟩
set_option maxRecDepth 100000
set_option linter.unusedVariables false
def sgT : Sg := ⟨1, 0, 4096, 0, 9, 4096, ⟨-1, 0, 2, [5, 6]⟩⟩
def mdT : Md := ⟨true, false, 0, 0, 3, 0, 0, 4096, [sgT], [], 0⟩
theorem mdT_plan : mdT.planC = 0 := by decide
theorem mdT_eT : mdT.eT = 4098 := by decide
theorem mdT_ok : mdT.Ok := ⟨by simp [mdT], by simp [mdT], by simp [mdT], by simp [mdT], by simp [mdT], by simp [mdT], fun s hs => by
  obtain rfl : s = sgT := by simpa [mdT] using hs
  exact ⟨by decide, by decide, by decide, by decide, by decide, by decide, ⟨by unfold I64; decide, by decide, by decide⟩⟩, by simp [mdT], by unfold I64; simp [mdT]⟩
theorem mdT_good : Good mdT := ⟨mdT_ok, mdT_plan, fun s hs => by
  obtain rfl : s = sgT := by simpa [mdT] using hs
  decide, fun s hs => absurd hs (by simp [mdT])⟩
theorem zrT {w : World} {g b : Nat} (hb : Blk w b 5 #[.int .u8 5, .int .u8 6]) (hg : Blk w g 70 (sgC sgT (.slice (some ⟨b, 0, none⟩) 2 2))) : ZR sgK w w.heap.size (some ⟨g, 0, none⟩) 1 1 mdT.segs :=
 ZR.one (K := sgK) (a := sgT) (A := some ⟨b, 0, none⟩) (n := 2) (c := 2) hg (Blk.rb (l := [5, 6]) hb (by decide)) rfl hg.lt
theorem encT (g : Nat) (w : World) (hz : ZR sgK w w.heap.size (some ⟨g, 0, none⟩) 1 1 mdT.segs) : Calls Tryz.prog 10 #[.agg #[.bool true, .bool false, .int .u8 0, .int .u8 0, .int .u16 3, .int .u16 0, .int .u32 0, .int .u64 4096, .slice (some ⟨g, 0, none⟩) 1 1, .slice none 0 0, .int .i64 0]] w fun e w' =>
  ∃ b L, e = .returned (.tuple #[.slice (some ⟨b, 0, none⟩) 4098 4098, .nilIface]) ∧ FileIs mdT L ∧ RB w' w'.heap.size (some ⟨b, 0, none⟩) 4098 4098 L ∧ Grow w w' := by
 refine Calls.mono (encode_any mdT mdT_ok (some ⟨g, 0, none⟩) none 1 1 0 0 w hz ZR.nil) ?_
 rintro e w' (⟨_, b, L, rfl, hf, hb, _, hg⟩ | ⟨h, _⟩)
 ·have hl : L.length = 4098 := hf.2.trans mdT_eT
  have := hb.rb (by rw [hl]; decide)
  rw [hl] at this ⊢
  exact ⟨b, L, rfl, hf, this, hg⟩
 ·exact absurd mdT_plan h
theorem parT (L : List UInt8) (hf : FileIs mdT L) (A : Option Addr) (w : World) (hr : RB w w.heap.size A 4098 4098 L) (hd : Door w) : Calls Tryz.prog 11 #[.slice A 4098 4098] w fun e w' =>
  ∃ A1 c1 A2 c2, e = .returned (.tuple #[.agg #[.bool true, .bool false, .int .u8 0, .int .u8 0, .int .u16 3, .int .u16 0, .int .u32 0, .int .u64 4096, .slice A1 1 c1, .slice A2 0 c2, .int .i64 0], .nilIface]) ∧ ZR sgK w' w'.heap.size A1 1 c1 mdT.segs ∧ ZR seK w' w'.heap.size A2 0 c2 mdT.secs ∧ Grow w w' := by
 refine Calls.mono (parse_back mdT mdT_good L [] hf (by rw [List.append_nil, hf.2, mdT_eT]; decide) A 4098 4098 w (by rw [List.append_nil]; exact hr) hd) ?_
 rintro e w' ⟨A1, n1, c1, A2, n2, c2, rfl, z1, z2, hg⟩
 obtain rfl : n1 = 1 := z1.len
 obtain rfl : n2 = 0 := z2.len
 exact ⟨A1, c1, A2, c2, rfl, z1, z2, hg⟩
theorem fileT (L : List UInt8) (hf : FileIs mdT L) (A : Option Addr) (w : World) (hr : RB w w.heap.size A 4098 4098 L) : Calls Tryz.prog 16 #[.slice A 4098 4098] w fun e w' =>
  ∃ A1 c1, e = .returned (.tuple #[.agg #[.int .u64 4096, .slice A1 1 c1], .nilIface]) ∧ ZR rgK w' w'.heap.size A1 1 c1 [⟨4096, 9, 0, [5, 6]⟩] ∧ Grow w w' := by
 refine Calls.mono (file_back mdT mdT_good L hf (by rw [hf.2, mdT_eT]; decide) A 4098 4098 w hr) ?_
 rintro e w' ⟨A1, c1, rfl, h1, h2⟩
 exact ⟨A1, c1, rfl, h1, h2⟩
theorem atT (A : Option Addr) (c : Nat) (w : World) (h : ZR rgK w w.heap.size A 1 c [⟨4096, 9, 0, [5, 6]⟩]) : Calls Tryz.prog 17 #[.agg #[.int .u64 4096, .slice A 1 c], .int .u64 4097] w fun e w' => e = .returned (.tuple #[.int .u8 6, .int .u32 0, .bool true]) ∧ Grow w w' :=
 Calls.mono (at_any 4096 A 1 c _ 4097 w h (by decide)) fun e w' h => h
theorem sameT (g : Nat) (A1 A2 : Option Addr) (c1 c2 : Nat) (w : World) (hz : ZR sgK w w.heap.size (some ⟨g, 0, none⟩) 1 1 mdT.segs) (h1 : ZR sgK w w.heap.size A1 1 c1 mdT.segs) (h2 : ZR seK w w.heap.size A2 0 c2 mdT.secs) :
  Calls Tryz.prog 18 #[.agg #[.bool true, .bool false, .int .u8 0, .int .u8 0, .int .u16 3, .int .u16 0, .int .u32 0, .int .u64 4096, .slice (some ⟨g, 0, none⟩) 1 1, .slice none 0 0, .int .i64 0], .agg #[.bool true, .bool false, .int .u8 0, .int .u8 0, .int .u16 3, .int .u16 0, .int .u32 0, .int .u64 4096, .slice A1 1 c1, .slice A2 0 c2, .int .i64 0]] w fun e w' => e = .returned (.bool true) ∧ Grow w w' :=
 Calls.mono (same_any mdT (some ⟨g, 0, none⟩) none A1 A2 1 1 0 0 1 c1 0 c2 w hz ZR.nil h1 h2) fun e w' h => h
set_option maxHeartbeats 8000000 in
theorem upTop (w : World) (hd : Door w) : Calls Tryz.prog 4 #[] w fun e w' => e = .returned (.bool true) ∧ Grow w w' := by
 have HD := hid hd
 clear hd
 go_enter Tryz.func4, Tryz.ntmps4
 go_wp2_with fail
 generalize hW : World.alloc _ _ = W0
 obtain ⟨b1, b2, b3, hg⟩ := blk3 hW
 clear hW
 have HZ0 := hid (zrT b1 b2)
 have HM0 := hid b3
 have HG0 := hid hg
 clear hg b1 b2 b3
 generalize w.heap.size + 1 + 1 = gm at HM0 ⊢
 generalize w.heap.size + 1 = g at HZ0 HM0 ⊢
 refine (encT g W0 HZ0.out).mono ?_
 rintro e w1 ⟨b, L, rfl, hf, hr, hg⟩
 have HF := hid hf
 have HR1 := hid hr
 have HZ1 := hid (HZ0.out.grow hg)
 have HM1 := hid (HM0.out.grow hg)
 have HG1 : Hid (Grow w w1) := hid (HG0.out.trans hg)
 clear hf hr hg HZ0 HM0 HG0
 go_wp2_with fail
 refine (parT L HF.out _ w1 HR1.out (HD.out.grow HG1.out)).mono ?_
 rintro e w2 ⟨A1, c1, A2, c2, rfl, z1, z2, hg⟩
 have HR2 := hid (HR1.out.grow hg)
 have HZ2 := hid (HZ1.out.grow hg)
 have HM2 := hid (HM1.out.grow hg)
 have HG2 : Hid (Grow w w2) := hid (HG1.out.trans hg)
 have HU2 := hid z1
 have HV2 := hid z2
 clear z1 z2 hg HR1 HZ1 HM1 HG1
 go_wp2_with fail
 generalize hW : World.alloc _ _ = W3
 obtain ⟨b4, hg⟩ := blk1 hW
 clear hW
 have HN3 := hid b4
 have HR3 := hid (HR2.out.grow hg)
 have HZ3 := hid (HZ2.out.grow hg)
 have HM3 := hid (HM2.out.grow hg)
 have HG3 : Hid (Grow w W3) := hid (HG2.out.trans hg)
 have HU3 := hid (HU2.out.grow hg)
 have HV3 := hid (HV2.out.grow hg)
 clear b4 hg HR2 HZ2 HM2 HG2 HU2 HV2
 generalize w2.heap.size = gn at HN3 ⊢
 refine (fileT L HF.out _ W3 HR3.out).mono ?_
 rintro e w4 ⟨A3, c3, rfl, hz, hg⟩
 have HN4 := hid (HN3.out.grow hg)
 have HZ4 := hid (HZ3.out.grow hg)
 have HM4 := hid (HM3.out.grow hg)
 have HG4 : Hid (Grow w w4) := hid (HG3.out.trans hg)
 have HU4 := hid (HU3.out.grow hg)
 have HV4 := hid (HV3.out.grow hg)
 have HI4 := hid hz
 clear hz hg HN3 HR3 HZ3 HM3 HG3 HU3 HV3 HF
 go_wp2_with fail
 generalize hW : World.alloc _ _ = W5
 obtain ⟨b4, hg⟩ := blk1 hW
 clear hW
 have HX5 := hid b4
 have HN5 := hid (HN4.out.grow hg)
 have HZ5 := hid (HZ4.out.grow hg)
 have HM5 := hid (HM4.out.grow hg)
 have HG5 : Hid (Grow w W5) := hid (HG4.out.trans hg)
 have HU5 := hid (HU4.out.grow hg)
 have HV5 := hid (HV4.out.grow hg)
 have HI5 := hid (HI4.out.grow hg)
 clear b4 hg HN4 HZ4 HM4 HG4 HU4 HV4 HI4
 generalize w4.heap.size = gx at HX5 ⊢
 refine (atT A3 c3 W5 HI5.out).mono ?_
 rintro e w6 ⟨rfl, hg⟩
 have HX6 := hid (HX5.out.grow hg)
 have HN6 := hid (HN5.out.grow hg)
 have HZ6 := hid (HZ5.out.grow hg)
 have HM6 := hid (HM5.out.grow hg)
 have HG6 : Hid (Grow w w6) := hid (HG5.out.trans hg)
 have HU6 := hid (HU5.out.grow hg)
 have HV6 := hid (HV5.out.grow hg)
 clear hg HX5 HN5 HZ5 HM5 HG5 HU5 HV5 HI5
 obtain ⟨v0, v1, v2, v3, v4, v5, v6, v7, v8, v9, v10⟩ := HM6.out.c11
 obtain ⟨y0, y1, y2, y3, y4, y5, y6, y7, y8, y9, y10⟩ := HN6.out.c11
 go_wp2_with fail
 clear v0 v1 v2 v3 v4 v5 v6 v7 v8 v9 v10 y0 y1 y2 y3 y4 y5 y6 y7 y8 y9 y10
 refine (sameT g A1 A2 c1 c2 w6 HZ6.out HU6.out HV6.out).mono ?_
 rintro e w7 ⟨rfl, hg⟩
 have x0 := (HX6.out.grow hg).at 0
 have HG7 : Hid (Grow w w7) := hid (HG6.out.trans hg)
 clear hg HX6 HN6 HM6 HG6 HZ6 HU6 HV6
 go_wp2
 go_ret
 exact ⟨rfl, HG7.out⟩
theorem cut_any {w : World} {B n c : Nat} {A : Option Addr} {l : List UInt8} (h : RB w B A n c l) {p m : Nat} (hp : p + m ≤ n) :
  ∃ A' c', (∀ W, (Instr.slice 29 (.slice A n c) (some (.int .u64 (p : Int))) (some (.int .u64 ((p : Int) + (m : Int)))) none).run Tryz.prog W = .ok (.slice A' m c') W) ∧ RB w B A' m c' ((l.drop p).take m) := by
 have hcap := h.cap
 have hmax := h.max
 have hz8 : ∀ W, (sizeOf (Tryz.prog.elem 29)).run Tryz.prog W = .ok 1 W := fun W => by kernel_rfl
 rcases A with _ | a
 ·have hn : n = 0 := by
   rcases Nat.eq_zero_or_pos n with h0 | h0
   ·exact h0
   ·obtain ⟨_, _, e, _⟩ := h.pos h0
    cases e
  subst hn
  obtain rfl : p = 0 := by omega
  obtain rfl : m = 0 := by omega
  refine ⟨none, c, fun W => ?_, by simp, Nat.zero_le _, hmax, fun h => absurd h (by omega)⟩
  have := run_slice_lh (P := Tryz.prog) W 29 none 0 c (by kernel_rfl) .u64 .u64 0 0 (by omega) (by omega) (by omega)
  rw [hz8] at this
  simpa [Result.andThen, sliced] using this
 ·refine ⟨some (cutA a c p), c - p, fun W => ?_, h.cut hp⟩
  have := run_cut_lh (P := Tryz.prog) 29 (by kernel_rfl) hz8 a n c .u64 .u64 p (p + m) (by omega) (by omega) W
  rw [show p + m - p = m by omega] at this
  simpa using this
theorem bytes_own {m : Md} {p : Pl} (h : p.inn = -1) : m.bytes p = p.own := by unfold Md.bytes; rw [if_pos h]
theorem bytes_in {m : Md} {p : Pl} (h : p.inn ≠ -1) : m.bytes p = if isSegN m.segs.length p.inn && p.within (m.seg p.inn).pl.own.length then (((m.seg p.inn).pl.own).drop p.off).take p.size else [] := by unfold Md.bytes; rw [if_neg h]
set_option maxHeartbeats 1000000 in
theorem mBytes_any (m : Md) (A1 A2 : Option Addr) (n1 c1 n2 c2 : Nat) (p : Pl) (ok : p.Ok) (A : Option Addr) (n c : Nat) (w : World) (g1 : ZR sgK w w.heap.size A1 n1 c1 m.segs) (g : RB w w.heap.size A n c p.own) (hb : (m.bytes p).length ≤ 140737488355328) :
  Calls Tryz.prog 13 #[.agg (mdC m (.slice A1 n1 c1) (.slice A2 n2 c2)), .agg (plC p (.slice A n c))] w (NewB (m.bytes p) w) := by
 have hpo := ok.off
 have hps := ok.size
 obtain ⟨x0, x1, x2, x3, x4, x5, x6, x7, x9, x10, hC⟩ := mdC_cells m (.slice A1 n1 c1) (.slice A2 n2 c2)
 by_cases h0 : p.inn = -1
 ·rw [bytes_own h0] at hb ⊢
  have HCl := hid (fun w' (hg : Grow w w') => clone_any A n c p.own _ w' (g.grow hg) (Nat.le_refl _) (by rw [g.len]; exact hb))
  rw [hC]
  unfold plC
  rw [h0]
  generalize p.own = l at HCl ⊢
  generalize p.off = po
  generalize p.size = ps
  clear hC hb g g1 h0 hpo hps ok
  go_enter Tryz.func13, Tryz.ntmps13
  go_wp2_with fail
  generalize hW : World.alloc _ _ = W0
  obtain ⟨b1, b2, hg0⟩ := blk2 hW
  clear hW
  have HG0 := hid hg0
  obtain ⟨y0, y1, y2, y3⟩ := b2.c4
  clear b1 b2 hg0
  go_wp2_with fail
  clear y0 y1 y2 y3
  refine (HCl.out _ HG0.out).mono ?_
  rintro e w1 hn
  have HN := hid (hn.from HG0.out)
  obtain ⟨A5, c5, rfl, -, -⟩ := hn
  go_wp2
  go_ret
  exact HN.out
 ·have hl := g1.len
  rw [bytes_in h0, ← hl] at hb ⊢
  have hI := mIsSeg_any m A1 A2 n1 c1 n2 c2 p.inn
  rw [hC] at hI ⊢
  clear hC
  cases hs : isSegN n1 p.inn with
  | false =>
   rw [hs] at hI
   have HI := hid hI
   have Hi : (p.inn == -1) = false := by simpa using h0
   rw [hs] at hb
   clear hI hs h0 hl g g1 hb hpo hps ok
   simp only [Bool.false_and]
   unfold plC
   generalize p.inn = i at HI Hi ⊢
   generalize p.off = po
   generalize p.size = ps
   go_enter Tryz.func13, Tryz.ntmps13
   go_wp2_with fail
   generalize hW : World.alloc _ _ = W0
   obtain ⟨b1, b2, hg0⟩ := blk2 hW
   clear hW
   have HG0 := hid hg0
   obtain ⟨y0, y1, y2, y3⟩ := b2.c4
   obtain ⟨v0, v1, v2, v3, v4, v5, v6, v7, v8, v9, v10⟩ := b1.c11
   clear b1 b2 hg0
   go_wp2_with fail
   clear y0 y1 y2 y3 v0 v1 v2 v3 v4 v5 v6 v7 v8 v9 v10
   refine (HI.out _).mono ?_
   rintro e w1 ⟨rfl, hg1⟩
   have HG1 : Hid (Grow w w1) := HG0.out.trans hg1
   clear hg1
   go_wp2
   go_ret
   exact NewB.nil _ _ HG1.out
  | true =>
   obtain ⟨k, hk, hkl⟩ := isSegN_true hs
   rw [hl] at hkl
   rw [hs] at hI
   rw [hk] at hI
   rw [hs, hk, m.seg_nat k hkl, Bool.true_and] at hb
   rw [hk, m.seg_nat k hkl, Bool.true_and]
   obtain ⟨b, off, rfl, hbb⟩ := g1.pos (by rw [g1.len]; omega)
   obtain ⟨Ak, nk, ck, -, hcell, gk⟩ := g1.at hkl
   have T9 : Hid (w.cell? ⟨b, off + k * 10 + 9, none⟩ = some (.slice Ak nk ck)) := hid (hcell 9 _ rfl)
   have hnk : m.segs[k].pl.own.length = nk := gk.len.symm
   have hnkm : nk ≤ maxLen := Nat.le_trans gk.cap gk.max
   have HWi := hid (fun w => mIsWithin_any p (.slice A n c) Ak nk ck w hnkm)
   have hkn : k < n1 := by rw [g1.len]; exact hkl
   have HBb := hid (show b < w.heap.size from hbb)
   have hn1m := g1.cap
   have hn1m' := g1.max
   unfold maxLen at hn1m' hnkm
   have gk' : RB w w.heap.size Ak nk ck m.segs[k].pl.own := gk
   rw [hnk] at hb ⊢
   have HI := hid hI
   obtain ⟨RS, hRS⟩ : ∃ RS, RS = if p.within nk = true then (m.segs[k].pl.own.drop p.off).take p.size else [] := ⟨_, rfl⟩
   rw [← hRS] at hb ⊢
   have E := hid (show p.within nk = decide (p.off + p.size ≤ nk) from rfl)
   unfold plC at HWi ⊢
   rw [hk] at HWi ⊢
   have e0 : ((k : Int) == -1) = false := by simp
   generalize p.within nk = V at E HWi hRS
   generalize p.off = po at HWi E hpo hRS ⊢
   generalize p.size = ps at E HWi hps hRS ⊢
   clear hcell
   generalize m.segs[k].pl.own = L at hRS gk gk' hnk
   have HRS := hid hRS
   clear hRS
   have GK := hid gk'
   clear hI hs gk gk' hnk hk h0 g1 g hbb hl ok
   go_enter Tryz.func13, Tryz.ntmps13
   go_wp2_with fail
   generalize hW : World.alloc _ _ = W0
   obtain ⟨b1, b2, hg0⟩ := blk2 hW
   clear hW
   have HB1 := hid b1
   have HB20 := hid b2
   have HG0 := hid hg0
   obtain ⟨y0, y1, y2, y3⟩ := b2.c4
   obtain ⟨v0, v1, v2, v3, v4, v5, v6, v7, v8, v9, v10⟩ := b1.c11
   clear b1 b2 hg0
   go_wp2_with fail
   clear y0 y1 y2 y3 v0 v1 v2 v3 v4 v5 v6 v7 v8 v9 v10
   refine (HI.out _).mono ?_
   rintro e w1 ⟨rfl, hg1⟩
   have HG1 : Hid (Grow w w1) := HG0.out.trans hg1
   have HB2 := hid (HB20.out.grow hg1)
   have y8 : w1.cell? ⟨w.heap.size, 8, none⟩ = some (.slice (some ⟨b, off, none⟩) n1 c1) := (HB1.out.grow hg1).at 8
   obtain ⟨y0, y1, y2, y3⟩ := HB2.out.c4
   have t9 : w1.cell? ⟨b, off + k * 10 + 9, none⟩ = some (.slice Ak nk ck) := (Below.cell HG1.out HBb.out).trans T9.out
   clear hg1 HG0 HB20 HB1 HI
   go_wp2_with fail
   clear y0 y1 y2 y3 y8 t9
   refine (HWi.out _).mono ?_
   rintro e w2 ⟨rfl, hg2⟩
   have HG2 : Hid (Grow w w2) := HG1.out.trans hg2
   obtain ⟨y0, y1, y2, y3⟩ := (HB2.out.grow hg2).c4
   clear hg2 HWi
   cases V with
   | false =>
    clear y0 y1 y2 y3
    go_wp2
    go_ret
    rw [HRS.out]
    exact NewB.nil _ _ HG2.out
   | true =>
    have hle : po + ps ≤ nk := by have := E.out; simpa using this.symm
    obtain ⟨A', c', hrun, hr⟩ := cut_any GK.out hle
    have e1 : (L.drop po).take ps = RS := HRS.out.symm
    rw [e1] at hr
    have HR := hid hr
    have HCl := hid (fun w' (hg : Grow w w') => clone_any A' ps c' _ _ w' (HR.out.grow hg) (Nat.le_refl _) (by rw [HR.out.len]; exact hb))
    have z1 : IntKind.u64.wrap ((po : Int) + (ps : Int)) = (po : Int) + (ps : Int) := by rw [IntKind.wrap_u64]; omega
    clear hr hle hb hnkm hpo hps E GK e1 HRS
    go_wp2_with fail
    clear y0 y1 y2 y3
    refine (HCl.out _ HG2.out).mono ?_
    rintro e w3 hn
    have HN := hid (hn.from HG2.out)
    obtain ⟨A5, c5, rfl, -, -⟩ := hn
    go_wp2
    go_ret
    exact HN.out
theorem yWid_wid (wide : Bool) (i : Nat) : wid (yWid wide i : Nat) = true := by
 unfold yWid
 split
 ·rfl
 ·split
  ·rfl
  ·split
   ·rfl
   ·cases wide <;> rfl
theorem ySize_any (wide big : Bool) (w : World) : Calls Tryz.prog 32 #[.agg #[.bool wide, .bool big]] w fun e w' => e = .returned (.int .i64 (ySize wide : Nat)) ∧ Grow w w' := by
 cases wide
 ·go_enter Tryz.func32, Tryz.ntmps32
  go_wp2
  go_ret
  exact ⟨rfl, Grow.of_alloc _ _⟩
 ·go_enter Tryz.func32, Tryz.ntmps32
  go_wp2
  go_ret
  exact ⟨rfl, Grow.of_alloc _ _⟩
theorem yWid_any (wide big : Bool) (i : Nat) (w : World) : Calls Tryz.prog 35 #[.int .i64 i, .agg #[.bool wide, .bool big]] w fun e w' => e = .returned (.int .i64 (yWid wide i : Nat)) ∧ Grow w w' := by
 unfold yWid
 cases h1 : ((i : Int) == 1)
 ·cases h2 : ((i : Int) == 2)
  ·cases h3 : ((i : Int) == 3)
   ·cases h0 : ((i : Int) == 0)
    ·cases wide
     ·go_enter Tryz.func35, Tryz.ntmps35
      go_wp2
      go_ret
      exact ⟨rfl, Grow.of_alloc _ _⟩
     ·go_enter Tryz.func35, Tryz.ntmps35
      go_wp2
      go_ret
      exact ⟨rfl, Grow.of_alloc _ _⟩
    ·go_enter Tryz.func35, Tryz.ntmps35
     go_wp2
     go_ret
     exact ⟨rfl, Grow.of_alloc _ _⟩
   ·go_enter Tryz.func35, Tryz.ntmps35
    go_wp2
    go_ret
    exact ⟨rfl, Grow.of_alloc _ _⟩
  ·go_enter Tryz.func35, Tryz.ntmps35
   go_wp2
   go_ret
   exact ⟨rfl, Grow.of_alloc _ _⟩
 ·go_enter Tryz.func35, Tryz.ntmps35
  go_wp2
  go_ret
  exact ⟨rfl, Grow.of_alloc _ _⟩
theorem yOrd_any (wide big : Bool) (w : World) : Calls Tryz.prog 34 #[.agg #[.bool wide, .bool big]] w fun e w' => e = .returned (.agg (i64s (yOrd wide))) ∧ Grow w w' := by
 cases wide
 ·go_enter Tryz.func34, Tryz.ntmps34
  go_wp2_with (refine wpList_store_row rfl 98 (.tmp 2) (.tmp 6) rfl (w.heap.size + 1) (i64s (yOrd false)) rfl rfl _ _ (blk2 rfl).2.1 (by kernel_rfl) rfl (one_i64s _) ?_)
  refine bodyPost_ret (results_cell_row (cs := i64s (yOrd false)) rfl _ _ (w.heap.size + 1) _ (0, 0) _ rfl ((blk2 rfl).2.1.set _) Tryz.underlying98 rfl (by kernel_rfl)) rfl ?_
  exact ⟨rfl, Grow.set (blk2 rfl).2.2 (Nat.le_succ _) _⟩
 ·go_enter Tryz.func34, Tryz.ntmps34
  go_wp2_with (refine wpList_store_row rfl 98 (.tmp 2) (.tmp 5) rfl (w.heap.size + 1) (i64s (yOrd true)) rfl rfl _ _ (blk2 rfl).2.1 (by kernel_rfl) rfl (one_i64s _) ?_)
  refine bodyPost_ret (results_cell_row (cs := i64s (yOrd true)) rfl _ _ (w.heap.size + 1) _ (0, 0) _ rfl ((blk2 rfl).2.1.set _) Tryz.underlying98 rfl (by kernel_rfl)) rfl ?_
  exact ⟨rfl, Grow.set (blk2 rfl).2.2 (Nat.le_succ _) _⟩
theorem yNum_any (p : Sy) (ok : p.Ok) (w : World) : Calls Tryz.prog 33 #[p.V] w fun e w' => e = .returned (.agg (u64s p.N)) ∧ Grow w w' := by
 obtain ⟨na, inf, oth, shn, val, siz⟩ := p
 obtain ⟨k1, k2, k3, k4, k5, k6⟩ := ok
 unfold Sy.V Sy.C
 simp only [] at *
 have z1 : IntKind.u64.wrap (na : Int) = (na : Int) := by rw [IntKind.wrap_u64]; omega
 have z2 : IntKind.u64.wrap (inf : Int) = (inf : Int) := by rw [IntKind.wrap_u64]; omega
 have z3 : IntKind.u64.wrap (oth : Int) = (oth : Int) := by rw [IntKind.wrap_u64]; omega
 have z4 : IntKind.u64.wrap (shn : Int) = (shn : Int) := by rw [IntKind.wrap_u64]; omega
 clear k1 k2 k3 k4 k5 k6
 go_enter Tryz.func33, Tryz.ntmps33
 go_wp2_with (refine wpList_store_row rfl 96 (.tmp 2) (.tmp 19) rfl (w.heap.size + 1) (u64s (Sy.N ⟨na, inf, oth, shn, val, siz⟩)) rfl rfl _ _ (blk2 rfl).2.1 (by kernel_rfl) rfl (one_u64s _) ?_)
 refine bodyPost_ret (results_cell_row (cs := u64s (Sy.N ⟨na, inf, oth, shn, val, siz⟩)) rfl _ _ (w.heap.size + 1) _ (0, 0) _ rfl ((blk2 rfl).2.1.set _) Tryz.underlying96 rfl (by kernel_rfl)) rfl ?_
 exact ⟨rfl, Grow.set (blk2 rfl).2.2 (Nat.le_succ _) _⟩
theorem ySym_any (x0 x1 x2 x3 x4 x5 : Nat) (w : World) (k0 : x0 < 4294967296) (k1 : x1 < 256) (k2 : x2 < 256) (k3 : x3 < 65536) :
  Calls Tryz.prog 105 #[.agg (u64s [x0, x1, x2, x3, x4, x5])] w fun e w' => e = .returned (Sy.V ⟨x0, x1, x2, x3, x4, x5⟩) ∧ Grow w w' := by
 have z0 : IntKind.u32.wrap (x0 : Int) = (x0 : Int) := by rw [IntKind.wrap_u32]; omega
 have z1 : IntKind.u8.wrap (x1 : Int) = (x1 : Int) := by rw [IntKind.wrap_u8]; omega
 have z2 : IntKind.u8.wrap (x2 : Int) = (x2 : Int) := by rw [IntKind.wrap_u8]; omega
 have z3 : IntKind.u16.wrap (x3 : Int) = (x3 : Int) := by rw [IntKind.wrap_u16]; omega
 clear k0 k1 k2 k3
 unfold u64s
 simp only [List.map_cons, List.map_nil]
 go_enter Tryz.func105, Tryz.ntmps105
 go_wp2_with (refine wpList_store_row rfl 40 (.tmp 2) (.tmp 19) rfl (w.heap.size + 1) (Sy.C ⟨x0, x1, x2, x3, x4, x5⟩) rfl rfl _ _ (blk2 rfl).2.1 (by kernel_rfl) rfl (Sy.one _) ?_)
 refine bodyPost_ret (results_cell_row (cs := Sy.C ⟨x0, x1, x2, x3, x4, x5⟩) rfl _ _ (w.heap.size + 1) _ (0, 0) _ rfl ((blk2 rfl).2.1.set _) Tryz.underlying40 rfl (by kernel_rfl)) rfl ?_
 exact ⟨rfl, Grow.set (blk2 rfl).2.2 (Nat.le_succ _) _⟩
end Go.Proofs.YtfbimboemahhhaaGreatDoor
