/-
  Several texts in one: The walk of the document's own Parse, part H; The contract of the document's own Parse; The contract of the document's own Same at two readings of one model.
-/
import Derived.Test.YtlccbekalccahaaGreatDoorFqH35
import Derived.Test.YtlccbekalccahaaGreatDoorFqH36
import Derived.Test.YtlccbekalccahaaGreatDoorFqH37
import Derived.Test.YtlccbekalccahaaGreatDoorFqH38
import Derived.Test.YtlccbekalccahaaGreatDoorFqH5
import Derived.Test.YtlccbekalccahaaGreatDoorFqH10
import Derived.Test.YtlccbekalccahaaGreatDoorFqH1
import Derived.Test.YtlccbekalccahaaGreatDoorFqH9
namespace Go.Proofs.YtlccbekalccahaaGreatDoor
open Go.Lib (hid)
open Go.RowKit
set_option maxRecDepth 100000
set_option linter.unusedVariables false
set_option maxHeartbeats 20000000 in
theorem rp_7 (l : List UInt8) (A : Option Addr) (n c : Nat) (w : World) (hr : RB w w.heap.size A n c l) (hle : l.length ≤ 65536) (hT : HTold l 0 0 (hdOf l).V) :
  ∀ a W, I22 l A n c w a W → (sufOf 22 (bodyOf Tryz.f12)).wp Tryz.prog (bodyPost Tryz.prog Tryz.f12 (RParseR l w)) a W := by
 rintro a W ⟨z, h, f, m, s, base, A2, c2, A3, c3, hf, ha, hb, hc0, hg1, hg2, ht0⟩
 obtain ⟨tv, rfl⟩ := rp_frame a hf.size hf.defers
 have hv0 : tv 0 = .slice A n c := hf.t0
 have hv2 : tv 2 = .pointer (some ⟨z, 0, none⟩) := hf.t2
 have hv5 : tv 5 = .pointer (some ⟨h, 0, none⟩) := hf.t5
 have hv8 : tv 8 = .pointer (some ⟨f, 0, none⟩) := hf.t8
 have hv9 : tv 9 = .int .u64 (n : Int) := hf.t9
 have hv11 : tv 11 = .int .i64 (pSize (lWide l) : Int) := hf.t11
 have hv12 : tv 12 = .int .i64 (sSize (lWide l) : Int) := hf.t12
 have hv13 : tv 13 = .pointer (some ⟨m, 0, none⟩) := hf.t13
 have hv14 : tv 14 = .pointer (some ⟨s, 0, none⟩) := hf.t14
 rw [hv0, hv2, hv5, hv8, hv9, hv11, hv12, hv13, hv14]
 clear hv0 hv2 hv5 hv8 hv9 hv11 hv12 hv13 hv14
 clear hf
 have hn := hr.len
 have hcp := hr.cap
 have hmx := hr.max
 unfold maxLen at hmx
 have HA := hid ha
 clear ha
 have hok := hdOf_ok l
 have fok := fst_ok l
 have HPl := hid (fun W B1 m1 d1 B2 m2 d2 (h1 : ZR sgK W W.heap.size B1 m1 d1 (mdF l).segs) (h2 : ZR seK W W.heap.size B2 m2 d2 (mdF l).secs) => rPlan_any (mdF l) (mdF_ok l) B1 B2 m1 d1 m2 d2 W h1 h2)
 have HNo : Hid ((mdF l).planC ≠ 0 → PTold l (mdF l).planC 0 mdN) := hid fun h0 => pt_plan hle hT hc0 ht0 h0
 have HYe : Hid ((mdF l).planC = 0 → ∀ (tmps : Array Value) W', tmps.getD 2 undef = .pointer (some ⟨z, 0, none⟩) → tmps.getD 3 undef = .int .i64 0 → tmps.getD 4 undef = .int .i64 0 → Blk W' z 32 (hdM l (.slice A2 (nP l) c2) (.slice A3 (nS l - 1) c3) (nI l : Int)) →
   GR sgK W' base 56 A2 (nP l) c2 (mdF l).segs → GR seK W' base 58 A3 (nS l - 1) c3 (mdF l).secs → Grow w W' → bodyPost Tryz.prog Tryz.f12 (RParseR l w) .ret ⟨tmps, []⟩ W') := hid fun h0 tmps W' e2 e3 e4 hb h1 h2 hg =>
  rparse_yes (m := mdF l) e2 e3 e4 hb (pt_ok hle hT hc0 ht0 h0) h1.zr h2.zr hg
 have HG1 : Hid (GR sgK W base 56 A2 (nP l) c2 (mdF l).segs) := hid hg1
 have HG2 : Hid (GR seK W base 58 A3 (nS l - 1) c3 (mdF l).secs) := hid hg2
 have HMe : Hid (mdC (mdF l) (.slice A2 (nP l) c2) (.slice A3 (nS l - 1) c3) = hdM l (.slice A2 (nP l) c2) (.slice A3 (nS l - 1) c3) (nI l : Int)) := hid rfl
 have HPm : Hid (∀ W', Grow W W' → Calls Tryz.prog 18 #[.agg (hdM l (.slice A2 (nP l) c2) (.slice A3 (nS l - 1) c3) (nI l : Int))] W' (RPlanR (mdF l) W')) := hid fun W' hg => by
  rw [← HMe.out]
  exact HPl.out W' _ _ _ _ _ _ (HG1.out.keep hg).zr (HG2.out.keep hg).zr
 have HMb : Hid (z < base) := hid (by have := HA.out.b; have := HA.out.ms; have := HA.out.fm; have := HA.out.hf; have := HA.out.zh; omega)
 unfold RPlanR PlanR at HPm
 unfold hdM at HPm HYe hb
 have HP := hid hb
 clear hb hg1 hg2 HPl HMe hr hle hT hn hok fok hc0 ht0
 generalize (mdF l).planC = C at *
 generalize (mdF l).planD = D at *
 generalize (mdF l).segs = L1 at *
 generalize (mdF l).secs = L2 at *
 generalize (hdOf l).ty = ty at *
 generalize (hdOf l).ma = ma at *
 generalize (hdOf l).fl = fl at *
 generalize (hdOf l).en = en at *
 generalize (l.getD 7 0).toNat = hO at *
 generalize (l.getD 8 0).toNat = hA at *
 generalize pSize (lWide l) = z2 at *
 generalize sSize (lWide l) = z3 at *
 generalize lWide l = wide at *
 generalize lBig l = big at *
 generalize nS l - 1 = S at *
 generalize nP l = P at *
 generalize nI l = I at *
 conv => arg 2; whnf
 obtain ⟨m0, m1, m2, m3, m4, m5, m6, m7, m8, m9, m10⟩ := HP.out.m.c11
 go_wp2_with fail
 clear m0 m1 m2 m3 m4 m5 m6 m7 m8 m9 m10
 refine (HPm.out _ (Grow.refl _)).mono ?_
 rintro e w2 ⟨cs, rfl, ⟨Q1, q1, f1, Q2, q2, f2, rfl, -, -⟩, hg⟩
 generalize D.ph = Dp
 generalize D.sh = Ds
 generalize D.sz = Dz
 have hal := Grow.of_alloc w2 (.cells #[.int .u64 (Dp : Int), .int .u64 (Ds : Int), .int .u64 (Dz : Int), .slice Q1 q1 f1, .slice Q2 q2 f2] 65)
 have hg2 := hg.trans hal
 have HP3 := hid (HP.out.grow hg2)
 have HG13 := hid (HG1.out.keep hg2)
 have HG23 := hid (HG2.out.keep hg2)
 clear hg hal hg2 HP HG1 HG2 HPm
 by_cases h0 : C = 0
 ·have HY := hid (HYe.out h0)
  subst h0
  clear HNo HYe
  obtain ⟨m0, m1, m2, m3, m4, m5, m6, m7, m8, m9, m10⟩ := HP3.out.m.c11
  go_wp2_with (refine wpList_store_row rfl 32 (.tmp 2) (.tmp 344) rfl z #[.bool wide, .bool big, .int .u8 (hO : Int), .int .u8 (hA : Int), .int .u16 (ty : Int), .int .u16 (ma : Int), .int .u32 (fl : Int), .int .u64 (en : Int), .slice A2 P c2, .slice A3 S c3, .int .i64 (I : Int)] rfl rfl _ _ HP3.out.z (by kernel_rfl) rfl (by simp [Value.oneCell']) ?_)
  exact HY.out _ _ (by rfl) (by rfl) (by rfl) (HP3.out.z.set _) (HG13.out.set HMb.out _) (HG23.out.set HMb.out _) (HP3.out.g.set HA.out.wz _)
 ·have HPT := hid (HNo.out h0)
  have d : ((C : Int) != 0) = true := by simp; omega
  clear h0 HNo HYe
  go_wp2_with (refine wpList_store_row rfl 32 (.tmp 2) (.tmp 342) rfl z #[.bool false, .bool false, .int .u8 0, .int .u8 0, .int .u16 0, .int .u16 0, .int .u32 0, .int .u64 0, .slice none 0 0, .slice none 0 0, .int .i64 0] rfl rfl _ _ HP3.out.z (by kernel_rfl) rfl (by simp [Value.oneCell']) ?_)
  exact rparse_no (by rfl) (by rfl) (by rfl) HP3.out.z HPT.out HP3.out.g HA.out.wz
theorem rParse_any (l : List UInt8) (A : Option Addr) (n c : Nat) (w : World) (hr : RB w w.heap.size A n c l) :
  Calls Tryz.prog 12 #[.slice A n c] w (RParseR l w) :=
 rp_A l A n c w hr fun hle hT => rp_1 l A n c w hr hle hT (rp_2 l A n c w hr hle hT (rp_3 l A n c w hr hle hT (rp_4 l A n c w hr hle hT (rp_5 l A n c w hr hle hT (rp_6 l A n c w hr hle hT (rp_7 l A n c w hr hle hT))))))
set_option maxRecDepth 100000
set_option linter.unusedVariables false
set_option maxHeartbeats 4000000 in
theorem rSamePlace_any (p : Pl) (A A' : Option Addr) (n c n' c' : Nat) (w : World) (h : RB w w.heap.size A n c p.own) (h' : RB w w.heap.size A' n' c' p.own) :
  Calls Tryz.prog 36 #[.agg (plC p (.slice A n c)), .agg (plC p (.slice A' n' c'))] w fun e w' => e = .returned (.bool true) ∧ Grow w w' := by
 have hs1 := (h.grow ((Grow.of_alloc w (.cells (plC p (.slice A n c)) 54)).trans (Grow.of_alloc _ (.cells (plC p (.slice A' n' c')) 54)))).conv (Nat.le_refl _) _ (Grow.refl _)
 have hs2 := (h'.grow ((Grow.of_alloc w (.cells (plC p (.slice A n c)) 54)).trans (Grow.of_alloc _ (.cells (plC p (.slice A' n' c')) 54)))).conv (Nat.le_refl _) _ (Grow.refl _)
 unfold plC at hs1 hs2 ⊢
 clear h h'
 generalize p.inn = i at *
 generalize p.off = o at *
 generalize p.size = z at *
 go_enter Tryz.func36, Tryz.ntmps36
 go_wp2
 go_ret
 exact ⟨rfl, (Grow.of_alloc _ _).trans (Grow.of_alloc _ _)⟩
set_option maxHeartbeats 20000000 in
theorem rSame_any (m : Md) (A1 A2 A3 A4 : Option Addr) (n1 c1 n2 c2 n3 c3 n4 c4 : Nat) (w : World) (g1 : ZR sgK w w.heap.size A1 n1 c1 m.segs) (g2 : ZR seK w w.heap.size A2 n2 c2 m.secs) (g3 : ZR sgK w w.heap.size A3 n3 c3 m.segs) (g4 : ZR seK w w.heap.size A4 n4 c4 m.secs) :
  Calls Tryz.prog 14 #[.agg (mdC m (.slice A1 n1 c1) (.slice A2 n2 c2)), .agg (mdC m (.slice A3 n3 c3) (.slice A4 n4 c4))] w fun e w' => e = .returned (.bool true) ∧ Grow w w' := by
 obtain rfl : n1 = n3 := g1.len.trans g3.len.symm
 obtain rfl : n2 = n4 := g2.len.trans g4.len.symm
 have H1 := hid g1
 have H2 := hid g2
 have H3 := hid g3
 have H4 := hid g4
 have HL1 := hid g1.len
 have HL2 := hid g2.len
 have a1 := g1.cap
 have a2 := g1.max
 have a3 := g2.cap
 have a4 := g2.max
 have a5 := g3.cap
 have a6 := g3.max
 have a7 := g4.cap
 have a8 := g4.max
 unfold maxLen at a2 a4 a6 a8
 unfold mdC
 clear g1 g2 g3 g4
 generalize m.segs = L1 at *
 generalize m.secs = L2 at *
 generalize m.wide = f0
 generalize m.big = f1
 generalize m.osabi = f2
 generalize m.abi = f3
 generalize m.typ = f4
 generalize m.mach = f5
 generalize m.flags = f6
 generalize m.entry = f7
 generalize m.str = f10
 go_enter Tryz.func14, Tryz.ntmps14
 apply wp_seq_k
 intro K hK
 have HK := hid hK
 clear hK
 go_wp2
 apply HK.out
 clear HK
 clear K
 generalize hW : World.alloc _ _ = W0
 obtain ⟨b1, b2, hg0⟩ := blk2 hW
 clear hW
 have HX := hid b1
 have HY := hid b2
 have HW := hid hg0
 clear b1 b2 hg0
 generalize w.heap.size + 1 = gy at HY ⊢
 obtain ⟨gx, hgx⟩ : ∃ g, g = w.heap.size := ⟨_, rfl⟩
 rw [← hgx] at HX ⊢
 clear hgx
 obtain ⟨x0, x1, x2, x3, x4, x5, x6, x7, x8, x9, x10⟩ := HX.out.c11
 obtain ⟨y0, y1, y2, y3, y4, y5, y6, y7, y8, y9, y10⟩ := HY.out.c11
 go_wp2_with fail
 clear x0 x1 x2 x3 x4 x5 x6 x7 x8 x9 x10 y0 y1 y2 y3 y4 y5 y6 y7 y8 y9 y10
 go_loopw [5] (fun i wr => ∃ k : Nat, k ≤ n1 ∧ i = .int .i64 k ∧ Blk wr gx 32 #[.bool f0, .bool f1, .int .u8 (f2 : Nat), .int .u8 (f3 : Nat), .int .u16 (f4 : Nat), .int .u16 (f5 : Nat), .int .u32 (f6 : Nat), .int .u64 (f7 : Nat), .slice A1 n1 c1, .slice A2 n2 c2, .int .i64 f10] ∧ Blk wr gy 32 #[.bool f0, .bool f1, .int .u8 (f2 : Nat), .int .u8 (f3 : Nat), .int .u16 (f4 : Nat), .int .u16 (f5 : Nat), .int .u32 (f6 : Nat), .int .u64 (f7 : Nat), .slice A3 n1 c3, .slice A4 n2 c4, .int .i64 f10] ∧ Grow w wr) (fun i _ => n1 - (intOf i).toNat)
 case atStart => exact ⟨0, Nat.zero_le _, rfl, HX.out, HY.out, HW.out⟩
 case round =>
  obtain ⟨k, hk, rfl, hx, hy, hg⟩ := hrel
  have HX1 := hid hx
  have HY1 := hid hy
  have HW1 := hid hg
  clear hx hy hg HX HY HW
  by_cases hlt : k < n1
  ·have hkl : k < L1.length := by rw [← HL1.out]; exact hlt
   obtain ⟨b, off, hAA, hb⟩ := H1.out.pos (by omega)
   obtain ⟨bb, off2, hAB, hbb⟩ := H3.out.pos (by omega)
   subst hAA
   subst hAB
   obtain ⟨B1, k1, e1, -, p, g1⟩ := H1.out.at hkl
   obtain ⟨B3, k3, e3, -, r, g3⟩ := H3.out.at hkl
   have p' : ∀ i v, (sgC L1[k] (.slice B1 k1 e1))[i]? = some v → wr.cell? ⟨b, off + k * 10 + i, none⟩ = some v := fun i v hv => (Below.cell HW1.out hb).trans (p i v hv)
   have r' : ∀ i v, (sgC L1[k] (.slice B3 k3 e3))[i]? = some v → wr.cell? ⟨bb, off2 + k * 10 + i, none⟩ = some v := fun i v hv => (Below.cell HW1.out hbb).trans (r i v hv)
   have HSp := hid (fun W (hW : Grow w W) => rSamePlace_any L1[k].pl B1 B3 k1 e1 k3 e3 W ((g1.belowAt hW (Nat.le_refl _)).more hW.size) ((g3.belowAt hW (Nat.le_refl _)).more hW.size))
   have HB := hid (Nat.lt_of_lt_of_le hb HW1.out.size)
   have HBB := hid (Nat.lt_of_lt_of_le hbb HW1.out.size)
   unfold sgC at p' r'
   unfold plC at HSp
   clear p r g1 g3
   generalize L1[k] = s at p' r' HSp
   clear hkl
   have s0 : wr.cell? ⟨b, off + k * 10, none⟩ = _ := p' 0 _ rfl
   have s1 : wr.cell? ⟨b, off + k * 10 + 1, none⟩ = _ := p' 1 _ rfl
   have s2 : wr.cell? ⟨b, off + k * 10 + 2, none⟩ = _ := p' 2 _ rfl
   have s3 : wr.cell? ⟨b, off + k * 10 + 3, none⟩ = _ := p' 3 _ rfl
   have s4 : wr.cell? ⟨b, off + k * 10 + 4, none⟩ = _ := p' 4 _ rfl
   have s5 : wr.cell? ⟨b, off + k * 10 + 5, none⟩ = _ := p' 5 _ rfl
   have s6 : wr.cell? ⟨b, off + k * 10 + 6, none⟩ = _ := p' 6 _ rfl
   have s7 : wr.cell? ⟨b, off + k * 10 + 7, none⟩ = _ := p' 7 _ rfl
   have s8 : wr.cell? ⟨b, off + k * 10 + 8, none⟩ = _ := p' 8 _ rfl
   have s9 : wr.cell? ⟨b, off + k * 10 + 9, none⟩ = _ := p' 9 _ rfl
   have t0 : wr.cell? ⟨bb, off2 + k * 10, none⟩ = _ := r' 0 _ rfl
   have t1 : wr.cell? ⟨bb, off2 + k * 10 + 1, none⟩ = _ := r' 1 _ rfl
   have t2 : wr.cell? ⟨bb, off2 + k * 10 + 2, none⟩ = _ := r' 2 _ rfl
   have t3 : wr.cell? ⟨bb, off2 + k * 10 + 3, none⟩ = _ := r' 3 _ rfl
   have t4 : wr.cell? ⟨bb, off2 + k * 10 + 4, none⟩ = _ := r' 4 _ rfl
   have t5 : wr.cell? ⟨bb, off2 + k * 10 + 5, none⟩ = _ := r' 5 _ rfl
   have t6 : wr.cell? ⟨bb, off2 + k * 10 + 6, none⟩ = _ := r' 6 _ rfl
   have t7 : wr.cell? ⟨bb, off2 + k * 10 + 7, none⟩ = _ := r' 7 _ rfl
   have t8 : wr.cell? ⟨bb, off2 + k * 10 + 8, none⟩ = _ := r' 8 _ rfl
   have t9 : wr.cell? ⟨bb, off2 + k * 10 + 9, none⟩ = _ := r' 9 _ rfl
   have r2 : ∀ i v, (#[.int .u32 (s.typ : Nat), .int .u32 (s.flags : Nat), .int .u64 (s.vaddr : Nat), .int .u64 (s.paddr : Nat), .int .u64 (s.memsz : Nat), .int .u64 (s.align : Nat), .int .i64 s.pl.inn, .int .u64 (s.pl.off : Nat), .int .u64 (s.pl.size : Nat), .slice B3 k3 e3] : Array Value)[i]? = some v → (wr.alloc (.cells #[.int .u32 (s.typ : Nat), .int .u32 (s.flags : Nat), .int .u64 (s.vaddr : Nat), .int .u64 (s.paddr : Nat), .int .u64 (s.memsz : Nat), .int .u64 (s.align : Nat), .int .i64 s.pl.inn, .int .u64 (s.pl.off : Nat), .int .u64 (s.pl.size : Nat), .slice B1 k1 e1] 56)).cell? ⟨bb, off2 + k * 10 + i, none⟩ = some v := fun i v hv => (Below.cell (Grow.of_alloc wr _) HBB.out).trans (r' i v hv)
   have u0 : (wr.alloc (.cells #[.int .u32 (s.typ : Nat), .int .u32 (s.flags : Nat), .int .u64 (s.vaddr : Nat), .int .u64 (s.paddr : Nat), .int .u64 (s.memsz : Nat), .int .u64 (s.align : Nat), .int .i64 s.pl.inn, .int .u64 (s.pl.off : Nat), .int .u64 (s.pl.size : Nat), .slice B1 k1 e1] 56)).cell? ⟨bb, off2 + k * 10, none⟩ = _ := r2 0 _ rfl
   have u1 : (wr.alloc (.cells #[.int .u32 (s.typ : Nat), .int .u32 (s.flags : Nat), .int .u64 (s.vaddr : Nat), .int .u64 (s.paddr : Nat), .int .u64 (s.memsz : Nat), .int .u64 (s.align : Nat), .int .i64 s.pl.inn, .int .u64 (s.pl.off : Nat), .int .u64 (s.pl.size : Nat), .slice B1 k1 e1] 56)).cell? ⟨bb, off2 + k * 10 + 1, none⟩ = _ := r2 1 _ rfl
   have u2 : (wr.alloc (.cells #[.int .u32 (s.typ : Nat), .int .u32 (s.flags : Nat), .int .u64 (s.vaddr : Nat), .int .u64 (s.paddr : Nat), .int .u64 (s.memsz : Nat), .int .u64 (s.align : Nat), .int .i64 s.pl.inn, .int .u64 (s.pl.off : Nat), .int .u64 (s.pl.size : Nat), .slice B1 k1 e1] 56)).cell? ⟨bb, off2 + k * 10 + 2, none⟩ = _ := r2 2 _ rfl
   have u3 : (wr.alloc (.cells #[.int .u32 (s.typ : Nat), .int .u32 (s.flags : Nat), .int .u64 (s.vaddr : Nat), .int .u64 (s.paddr : Nat), .int .u64 (s.memsz : Nat), .int .u64 (s.align : Nat), .int .i64 s.pl.inn, .int .u64 (s.pl.off : Nat), .int .u64 (s.pl.size : Nat), .slice B1 k1 e1] 56)).cell? ⟨bb, off2 + k * 10 + 3, none⟩ = _ := r2 3 _ rfl
   have u4 : (wr.alloc (.cells #[.int .u32 (s.typ : Nat), .int .u32 (s.flags : Nat), .int .u64 (s.vaddr : Nat), .int .u64 (s.paddr : Nat), .int .u64 (s.memsz : Nat), .int .u64 (s.align : Nat), .int .i64 s.pl.inn, .int .u64 (s.pl.off : Nat), .int .u64 (s.pl.size : Nat), .slice B1 k1 e1] 56)).cell? ⟨bb, off2 + k * 10 + 4, none⟩ = _ := r2 4 _ rfl
   have u5 : (wr.alloc (.cells #[.int .u32 (s.typ : Nat), .int .u32 (s.flags : Nat), .int .u64 (s.vaddr : Nat), .int .u64 (s.paddr : Nat), .int .u64 (s.memsz : Nat), .int .u64 (s.align : Nat), .int .i64 s.pl.inn, .int .u64 (s.pl.off : Nat), .int .u64 (s.pl.size : Nat), .slice B1 k1 e1] 56)).cell? ⟨bb, off2 + k * 10 + 5, none⟩ = _ := r2 5 _ rfl
   have u6 : (wr.alloc (.cells #[.int .u32 (s.typ : Nat), .int .u32 (s.flags : Nat), .int .u64 (s.vaddr : Nat), .int .u64 (s.paddr : Nat), .int .u64 (s.memsz : Nat), .int .u64 (s.align : Nat), .int .i64 s.pl.inn, .int .u64 (s.pl.off : Nat), .int .u64 (s.pl.size : Nat), .slice B1 k1 e1] 56)).cell? ⟨bb, off2 + k * 10 + 6, none⟩ = _ := r2 6 _ rfl
   have u7 : (wr.alloc (.cells #[.int .u32 (s.typ : Nat), .int .u32 (s.flags : Nat), .int .u64 (s.vaddr : Nat), .int .u64 (s.paddr : Nat), .int .u64 (s.memsz : Nat), .int .u64 (s.align : Nat), .int .i64 s.pl.inn, .int .u64 (s.pl.off : Nat), .int .u64 (s.pl.size : Nat), .slice B1 k1 e1] 56)).cell? ⟨bb, off2 + k * 10 + 7, none⟩ = _ := r2 7 _ rfl
   have u8 : (wr.alloc (.cells #[.int .u32 (s.typ : Nat), .int .u32 (s.flags : Nat), .int .u64 (s.vaddr : Nat), .int .u64 (s.paddr : Nat), .int .u64 (s.memsz : Nat), .int .u64 (s.align : Nat), .int .i64 s.pl.inn, .int .u64 (s.pl.off : Nat), .int .u64 (s.pl.size : Nat), .slice B1 k1 e1] 56)).cell? ⟨bb, off2 + k * 10 + 8, none⟩ = _ := r2 8 _ rfl
   have u9 : (wr.alloc (.cells #[.int .u32 (s.typ : Nat), .int .u32 (s.flags : Nat), .int .u64 (s.vaddr : Nat), .int .u64 (s.paddr : Nat), .int .u64 (s.memsz : Nat), .int .u64 (s.align : Nat), .int .i64 s.pl.inn, .int .u64 (s.pl.off : Nat), .int .u64 (s.pl.size : Nat), .slice B1 k1 e1] 56)).cell? ⟨bb, off2 + k * 10 + 9, none⟩ = _ := r2 9 _ rfl
   have m8 := HX1.out.at 8
   have y8 := HY1.out.at 8
   have y8a := (HY1.out.grow (Grow.of_alloc wr (.cells #[.int .u32 (s.typ : Nat), .int .u32 (s.flags : Nat), .int .u64 (s.vaddr : Nat), .int .u64 (s.paddr : Nat), .int .u64 (s.memsz : Nat), .int .u64 (s.align : Nat), .int .i64 s.pl.inn, .int .u64 (s.pl.off : Nat), .int .u64 (s.pl.size : Nat), .slice B1 k1 e1] 56))).at 8
   clear p' r' r2
   have w0 : (0 : Int) ≤ (k : Int) := by omega
   have w1 : (k : Int) < (n1 : Int) := by omega
   have d1 : decide ((k : Int) < (n1 : Int)) = true := decide_eq_true (by omega)
   go_wp2_with fail
   generalize hW : World.alloc _ _ = W5
   obtain ⟨b5, b6, hg⟩ := blk2 hW
   clear hW d1 m8 y8 y8a s0 s1 s2 s3 s4 s5 s6 s7 s8 s9 t0 t1 t2 t3 t4 t5 t6 t7 t8 t9 u0 u1 u2 u3 u4 u5 u6 u7 u8 u9
   have HX2 := hid (HX1.out.grow hg)
   have HY2 := hid (HY1.out.grow hg)
   have HW2 : Hid (Grow w W5) := hid (HW1.out.trans hg)
   have H5 := hid b5
   have H6 := hid b6
   clear b5 b6 hg HX1 HY1 HW1
   generalize wr.heap.size + 1 = g6 at H6 ⊢
   generalize wr.heap.size = g5 at H5 ⊢
   refine (HSp.out _ HW2.out).mono ?_
   rintro e w6 ⟨rfl, hg⟩
   have HX3 := hid (HX2.out.grow hg)
   have HY3 := hid (HY2.out.grow hg)
   have HW3 : Hid (Grow w w6) := hid (HW2.out.trans hg)
   obtain ⟨s0, s1, s2, s3, s4, s5, s6, s7, s8, s9⟩ := (H5.out.grow hg).c10
   obtain ⟨t0, t1, t2, t3, t4, t5, t6, t7, t8, t9⟩ := (H6.out.grow hg).c10
   clear hg HX2 HY2 HW2 H5 H6 HSp
   go_wp2
   go_roundw
   case rel => exact ⟨k + 1, by omega, by go_num, HX3.out, HY3.out, HW3.out⟩
   case measure => simp [intOf]; omega
  ·have d1 : decide ((k : Int) < (n1 : Int)) = false := decide_eq_false (by omega)
   have m8 := HX1.out.at 8
   have m9 := HX1.out.at 9
   have HX := HX1
   have HY := HY1
   have HW := HW1
   clear HX1 HY1 HW1
   generalize wr = wz at *
   go_wp2_with fail
   clear d1 m8 m9
   go_loopw [9] (fun i wr => ∃ k : Nat, k ≤ n2 ∧ i = .int .i64 k ∧ Blk wr gx 32 #[.bool f0, .bool f1, .int .u8 (f2 : Nat), .int .u8 (f3 : Nat), .int .u16 (f4 : Nat), .int .u16 (f5 : Nat), .int .u32 (f6 : Nat), .int .u64 (f7 : Nat), .slice A1 n1 c1, .slice A2 n2 c2, .int .i64 f10] ∧ Blk wr gy 32 #[.bool f0, .bool f1, .int .u8 (f2 : Nat), .int .u8 (f3 : Nat), .int .u16 (f4 : Nat), .int .u16 (f5 : Nat), .int .u32 (f6 : Nat), .int .u64 (f7 : Nat), .slice A3 n1 c3, .slice A4 n2 c4, .int .i64 f10] ∧ Grow w wr) (fun i _ => n2 - (intOf i).toNat)
   case atStart => exact ⟨0, Nat.zero_le _, rfl, HX.out, HY.out, HW.out⟩
   case round =>
    obtain ⟨k, hk, rfl, hx, hy, hg⟩ := hrel
    have HX1 := hid hx
    have HY1 := hid hy
    have HW1 := hid hg
    clear hx hy hg HX HY HW
    by_cases hlt : k < n2
    ·have hkl : k < L2.length := by rw [← HL2.out]; exact hlt
     obtain ⟨b, off, hAA, hb⟩ := H2.out.pos (by omega)
     obtain ⟨bb, off2, hAB, hbb⟩ := H4.out.pos (by omega)
     subst hAA
     subst hAB
     obtain ⟨B1, k1, e1, -, p, g1⟩ := H2.out.at hkl
     obtain ⟨B3, k3, e3, -, r, g3⟩ := H4.out.at hkl
     have p' : ∀ i v, (seC L2[k] (.slice B1 k1 e1))[i]? = some v → wr.cell? ⟨b, off + k * 13 + i, none⟩ = some v := fun i v hv => (Below.cell HW1.out hb).trans (p i v hv)
     have r' : ∀ i v, (seC L2[k] (.slice B3 k3 e3))[i]? = some v → wr.cell? ⟨bb, off2 + k * 13 + i, none⟩ = some v := fun i v hv => (Below.cell HW1.out hbb).trans (r i v hv)
     have HSp := hid (fun W (hW : Grow w W) => rSamePlace_any L2[k].pl B1 B3 k1 e1 k3 e3 W ((g1.belowAt hW (Nat.le_refl _)).more hW.size) ((g3.belowAt hW (Nat.le_refl _)).more hW.size))
     have HB := hid (Nat.lt_of_lt_of_le hb HW1.out.size)
     have HBB := hid (Nat.lt_of_lt_of_le hbb HW1.out.size)
     unfold seC at p' r'
     unfold plC at HSp
     clear p r g1 g3
     generalize L2[k] = s at p' r' HSp
     clear hkl
     have s0 : wr.cell? ⟨b, off + k * 13, none⟩ = _ := p' 0 _ rfl
     have s1 : wr.cell? ⟨b, off + k * 13 + 1, none⟩ = _ := p' 1 _ rfl
     have s2 : wr.cell? ⟨b, off + k * 13 + 2, none⟩ = _ := p' 2 _ rfl
     have s3 : wr.cell? ⟨b, off + k * 13 + 3, none⟩ = _ := p' 3 _ rfl
     have s4 : wr.cell? ⟨b, off + k * 13 + 4, none⟩ = _ := p' 4 _ rfl
     have s5 : wr.cell? ⟨b, off + k * 13 + 5, none⟩ = _ := p' 5 _ rfl
     have s6 : wr.cell? ⟨b, off + k * 13 + 6, none⟩ = _ := p' 6 _ rfl
     have s7 : wr.cell? ⟨b, off + k * 13 + 7, none⟩ = _ := p' 7 _ rfl
     have s8 : wr.cell? ⟨b, off + k * 13 + 8, none⟩ = _ := p' 8 _ rfl
     have s9 : wr.cell? ⟨b, off + k * 13 + 9, none⟩ = _ := p' 9 _ rfl
     have s10 : wr.cell? ⟨b, off + k * 13 + 10, none⟩ = _ := p' 10 _ rfl
     have s11 : wr.cell? ⟨b, off + k * 13 + 11, none⟩ = _ := p' 11 _ rfl
     have s12 : wr.cell? ⟨b, off + k * 13 + 12, none⟩ = _ := p' 12 _ rfl
     have t0 : wr.cell? ⟨bb, off2 + k * 13, none⟩ = _ := r' 0 _ rfl
     have t1 : wr.cell? ⟨bb, off2 + k * 13 + 1, none⟩ = _ := r' 1 _ rfl
     have t2 : wr.cell? ⟨bb, off2 + k * 13 + 2, none⟩ = _ := r' 2 _ rfl
     have t3 : wr.cell? ⟨bb, off2 + k * 13 + 3, none⟩ = _ := r' 3 _ rfl
     have t4 : wr.cell? ⟨bb, off2 + k * 13 + 4, none⟩ = _ := r' 4 _ rfl
     have t5 : wr.cell? ⟨bb, off2 + k * 13 + 5, none⟩ = _ := r' 5 _ rfl
     have t6 : wr.cell? ⟨bb, off2 + k * 13 + 6, none⟩ = _ := r' 6 _ rfl
     have t7 : wr.cell? ⟨bb, off2 + k * 13 + 7, none⟩ = _ := r' 7 _ rfl
     have t8 : wr.cell? ⟨bb, off2 + k * 13 + 8, none⟩ = _ := r' 8 _ rfl
     have t9 : wr.cell? ⟨bb, off2 + k * 13 + 9, none⟩ = _ := r' 9 _ rfl
     have t10 : wr.cell? ⟨bb, off2 + k * 13 + 10, none⟩ = _ := r' 10 _ rfl
     have t11 : wr.cell? ⟨bb, off2 + k * 13 + 11, none⟩ = _ := r' 11 _ rfl
     have t12 : wr.cell? ⟨bb, off2 + k * 13 + 12, none⟩ = _ := r' 12 _ rfl
     have r2 : ∀ i v, (#[.int .u32 (s.name : Nat), .int .u32 (s.typ : Nat), .int .u64 (s.flags : Nat), .int .u64 (s.addr : Nat), .int .u64 (s.size : Nat), .int .u32 (s.link : Nat), .int .u32 (s.info : Nat), .int .u64 (s.align : Nat), .int .u64 (s.entsize : Nat), .int .i64 s.pl.inn, .int .u64 (s.pl.off : Nat), .int .u64 (s.pl.size : Nat), .slice B3 k3 e3] : Array Value)[i]? = some v → (wr.alloc (.cells #[.int .u32 (s.name : Nat), .int .u32 (s.typ : Nat), .int .u64 (s.flags : Nat), .int .u64 (s.addr : Nat), .int .u64 (s.size : Nat), .int .u32 (s.link : Nat), .int .u32 (s.info : Nat), .int .u64 (s.align : Nat), .int .u64 (s.entsize : Nat), .int .i64 s.pl.inn, .int .u64 (s.pl.off : Nat), .int .u64 (s.pl.size : Nat), .slice B1 k1 e1] 58)).cell? ⟨bb, off2 + k * 13 + i, none⟩ = some v := fun i v hv => (Below.cell (Grow.of_alloc wr _) HBB.out).trans (r' i v hv)
     have u0 : (wr.alloc (.cells #[.int .u32 (s.name : Nat), .int .u32 (s.typ : Nat), .int .u64 (s.flags : Nat), .int .u64 (s.addr : Nat), .int .u64 (s.size : Nat), .int .u32 (s.link : Nat), .int .u32 (s.info : Nat), .int .u64 (s.align : Nat), .int .u64 (s.entsize : Nat), .int .i64 s.pl.inn, .int .u64 (s.pl.off : Nat), .int .u64 (s.pl.size : Nat), .slice B1 k1 e1] 58)).cell? ⟨bb, off2 + k * 13, none⟩ = _ := r2 0 _ rfl
     have u1 : (wr.alloc (.cells #[.int .u32 (s.name : Nat), .int .u32 (s.typ : Nat), .int .u64 (s.flags : Nat), .int .u64 (s.addr : Nat), .int .u64 (s.size : Nat), .int .u32 (s.link : Nat), .int .u32 (s.info : Nat), .int .u64 (s.align : Nat), .int .u64 (s.entsize : Nat), .int .i64 s.pl.inn, .int .u64 (s.pl.off : Nat), .int .u64 (s.pl.size : Nat), .slice B1 k1 e1] 58)).cell? ⟨bb, off2 + k * 13 + 1, none⟩ = _ := r2 1 _ rfl
     have u2 : (wr.alloc (.cells #[.int .u32 (s.name : Nat), .int .u32 (s.typ : Nat), .int .u64 (s.flags : Nat), .int .u64 (s.addr : Nat), .int .u64 (s.size : Nat), .int .u32 (s.link : Nat), .int .u32 (s.info : Nat), .int .u64 (s.align : Nat), .int .u64 (s.entsize : Nat), .int .i64 s.pl.inn, .int .u64 (s.pl.off : Nat), .int .u64 (s.pl.size : Nat), .slice B1 k1 e1] 58)).cell? ⟨bb, off2 + k * 13 + 2, none⟩ = _ := r2 2 _ rfl
     have u3 : (wr.alloc (.cells #[.int .u32 (s.name : Nat), .int .u32 (s.typ : Nat), .int .u64 (s.flags : Nat), .int .u64 (s.addr : Nat), .int .u64 (s.size : Nat), .int .u32 (s.link : Nat), .int .u32 (s.info : Nat), .int .u64 (s.align : Nat), .int .u64 (s.entsize : Nat), .int .i64 s.pl.inn, .int .u64 (s.pl.off : Nat), .int .u64 (s.pl.size : Nat), .slice B1 k1 e1] 58)).cell? ⟨bb, off2 + k * 13 + 3, none⟩ = _ := r2 3 _ rfl
     have u4 : (wr.alloc (.cells #[.int .u32 (s.name : Nat), .int .u32 (s.typ : Nat), .int .u64 (s.flags : Nat), .int .u64 (s.addr : Nat), .int .u64 (s.size : Nat), .int .u32 (s.link : Nat), .int .u32 (s.info : Nat), .int .u64 (s.align : Nat), .int .u64 (s.entsize : Nat), .int .i64 s.pl.inn, .int .u64 (s.pl.off : Nat), .int .u64 (s.pl.size : Nat), .slice B1 k1 e1] 58)).cell? ⟨bb, off2 + k * 13 + 4, none⟩ = _ := r2 4 _ rfl
     have u5 : (wr.alloc (.cells #[.int .u32 (s.name : Nat), .int .u32 (s.typ : Nat), .int .u64 (s.flags : Nat), .int .u64 (s.addr : Nat), .int .u64 (s.size : Nat), .int .u32 (s.link : Nat), .int .u32 (s.info : Nat), .int .u64 (s.align : Nat), .int .u64 (s.entsize : Nat), .int .i64 s.pl.inn, .int .u64 (s.pl.off : Nat), .int .u64 (s.pl.size : Nat), .slice B1 k1 e1] 58)).cell? ⟨bb, off2 + k * 13 + 5, none⟩ = _ := r2 5 _ rfl
     have u6 : (wr.alloc (.cells #[.int .u32 (s.name : Nat), .int .u32 (s.typ : Nat), .int .u64 (s.flags : Nat), .int .u64 (s.addr : Nat), .int .u64 (s.size : Nat), .int .u32 (s.link : Nat), .int .u32 (s.info : Nat), .int .u64 (s.align : Nat), .int .u64 (s.entsize : Nat), .int .i64 s.pl.inn, .int .u64 (s.pl.off : Nat), .int .u64 (s.pl.size : Nat), .slice B1 k1 e1] 58)).cell? ⟨bb, off2 + k * 13 + 6, none⟩ = _ := r2 6 _ rfl
     have u7 : (wr.alloc (.cells #[.int .u32 (s.name : Nat), .int .u32 (s.typ : Nat), .int .u64 (s.flags : Nat), .int .u64 (s.addr : Nat), .int .u64 (s.size : Nat), .int .u32 (s.link : Nat), .int .u32 (s.info : Nat), .int .u64 (s.align : Nat), .int .u64 (s.entsize : Nat), .int .i64 s.pl.inn, .int .u64 (s.pl.off : Nat), .int .u64 (s.pl.size : Nat), .slice B1 k1 e1] 58)).cell? ⟨bb, off2 + k * 13 + 7, none⟩ = _ := r2 7 _ rfl
     have u8 : (wr.alloc (.cells #[.int .u32 (s.name : Nat), .int .u32 (s.typ : Nat), .int .u64 (s.flags : Nat), .int .u64 (s.addr : Nat), .int .u64 (s.size : Nat), .int .u32 (s.link : Nat), .int .u32 (s.info : Nat), .int .u64 (s.align : Nat), .int .u64 (s.entsize : Nat), .int .i64 s.pl.inn, .int .u64 (s.pl.off : Nat), .int .u64 (s.pl.size : Nat), .slice B1 k1 e1] 58)).cell? ⟨bb, off2 + k * 13 + 8, none⟩ = _ := r2 8 _ rfl
     have u9 : (wr.alloc (.cells #[.int .u32 (s.name : Nat), .int .u32 (s.typ : Nat), .int .u64 (s.flags : Nat), .int .u64 (s.addr : Nat), .int .u64 (s.size : Nat), .int .u32 (s.link : Nat), .int .u32 (s.info : Nat), .int .u64 (s.align : Nat), .int .u64 (s.entsize : Nat), .int .i64 s.pl.inn, .int .u64 (s.pl.off : Nat), .int .u64 (s.pl.size : Nat), .slice B1 k1 e1] 58)).cell? ⟨bb, off2 + k * 13 + 9, none⟩ = _ := r2 9 _ rfl
     have u10 : (wr.alloc (.cells #[.int .u32 (s.name : Nat), .int .u32 (s.typ : Nat), .int .u64 (s.flags : Nat), .int .u64 (s.addr : Nat), .int .u64 (s.size : Nat), .int .u32 (s.link : Nat), .int .u32 (s.info : Nat), .int .u64 (s.align : Nat), .int .u64 (s.entsize : Nat), .int .i64 s.pl.inn, .int .u64 (s.pl.off : Nat), .int .u64 (s.pl.size : Nat), .slice B1 k1 e1] 58)).cell? ⟨bb, off2 + k * 13 + 10, none⟩ = _ := r2 10 _ rfl
     have u11 : (wr.alloc (.cells #[.int .u32 (s.name : Nat), .int .u32 (s.typ : Nat), .int .u64 (s.flags : Nat), .int .u64 (s.addr : Nat), .int .u64 (s.size : Nat), .int .u32 (s.link : Nat), .int .u32 (s.info : Nat), .int .u64 (s.align : Nat), .int .u64 (s.entsize : Nat), .int .i64 s.pl.inn, .int .u64 (s.pl.off : Nat), .int .u64 (s.pl.size : Nat), .slice B1 k1 e1] 58)).cell? ⟨bb, off2 + k * 13 + 11, none⟩ = _ := r2 11 _ rfl
     have u12 : (wr.alloc (.cells #[.int .u32 (s.name : Nat), .int .u32 (s.typ : Nat), .int .u64 (s.flags : Nat), .int .u64 (s.addr : Nat), .int .u64 (s.size : Nat), .int .u32 (s.link : Nat), .int .u32 (s.info : Nat), .int .u64 (s.align : Nat), .int .u64 (s.entsize : Nat), .int .i64 s.pl.inn, .int .u64 (s.pl.off : Nat), .int .u64 (s.pl.size : Nat), .slice B1 k1 e1] 58)).cell? ⟨bb, off2 + k * 13 + 12, none⟩ = _ := r2 12 _ rfl
     have m8 := HX1.out.at 9
     have y8 := HY1.out.at 9
     have y8a := (HY1.out.grow (Grow.of_alloc wr (.cells #[.int .u32 (s.name : Nat), .int .u32 (s.typ : Nat), .int .u64 (s.flags : Nat), .int .u64 (s.addr : Nat), .int .u64 (s.size : Nat), .int .u32 (s.link : Nat), .int .u32 (s.info : Nat), .int .u64 (s.align : Nat), .int .u64 (s.entsize : Nat), .int .i64 s.pl.inn, .int .u64 (s.pl.off : Nat), .int .u64 (s.pl.size : Nat), .slice B1 k1 e1] 58))).at 9
     clear p' r' r2
     have w0 : (0 : Int) ≤ (k : Int) := by omega
     have w1 : (k : Int) < (n2 : Int) := by omega
     have d1 : decide ((k : Int) < (n2 : Int)) = true := decide_eq_true (by omega)
     go_wp2_with fail
     generalize hW : World.alloc _ _ = W5
     obtain ⟨b5, b6, hg⟩ := blk2 hW
     clear hW d1 m8 y8 y8a s0 s1 s2 s3 s4 s5 s6 s7 s8 s9 s10 s11 s12 t0 t1 t2 t3 t4 t5 t6 t7 t8 t9 t10 t11 t12 u0 u1 u2 u3 u4 u5 u6 u7 u8 u9 u10 u11 u12
     have HX2 := hid (HX1.out.grow hg)
     have HY2 := hid (HY1.out.grow hg)
     have HW2 : Hid (Grow w W5) := hid (HW1.out.trans hg)
     have H5 := hid b5
     have H6 := hid b6
     clear b5 b6 hg HX1 HY1 HW1
     generalize wr.heap.size + 1 = g6 at H6 ⊢
     generalize wr.heap.size = g5 at H5 ⊢
     refine (HSp.out _ HW2.out).mono ?_
     rintro e w6 ⟨rfl, hg⟩
     have HX3 := hid (HX2.out.grow hg)
     have HY3 := hid (HY2.out.grow hg)
     have HW3 : Hid (Grow w w6) := hid (HW2.out.trans hg)
     obtain ⟨s0, s1, s2, s3, s4, s5, s6, s7, s8, s9, s10, s11, s12⟩ := (H5.out.grow hg).c13
     obtain ⟨t0, t1, t2, t3, t4, t5, t6, t7, t8, t9, t10, t11, t12⟩ := (H6.out.grow hg).c13
     clear hg HX2 HY2 HW2 H5 H6 HSp
     go_wp2
     go_roundw
     case rel => exact ⟨k + 1, by omega, by go_num, HX3.out, HY3.out, HW3.out⟩
     case measure => simp [intOf]; omega
    ·have d1 : decide ((k : Int) < (n2 : Int)) = false := decide_eq_false (by omega)
     have m9 := HX1.out.at 9
     go_wp2
     go_ret
     exact ⟨rfl, HW1.out⟩
end Go.Proofs.YtlccbekalccahaaGreatDoor
