/-
  Several texts in one: The contract of model; The contract of model.
-/
import Derived.Test.YtaianmonokeimaaIbH8
namespace Go.Proofs.Ytaianmonokeimaa
open Go.Lib (hid)
open Go.RowKit
set_option maxRecDepth 100000 in
set_option maxHeartbeats 8000000 in
theorem mFits_any (m : Md) (ok : m.Ok) (A1 A2 : Option Addr) (n1 c1 n2 c2 : Nat) (w : World) (g1 : ZR sgK w w.heap.size A1 n1 c1 m.segs) (g2 : ZR seK w w.heap.size A2 n2 c2 m.secs) (h1 : n1 ≤ 16) (h2 : n2 ≤ 64) :
  Calls Try.prog 39 #[.agg (mdC m (.slice A1 n1 c1) (.slice A2 n2 c2))] w fun e w' => e = .returned (.bool m.fits) ∧ Grow w w' := by
 obtain ⟨x2, x3, x4, x5, x6, x10, hC⟩ : ∃ x2 x3 x4 x5 x6 x10 : Value, mdC m (.slice A1 n1 c1) (.slice A2 n2 c2) = #[.bool m.wide, .bool m.big, x2, x3, x4, x5, x6, .int .u64 (m.entry : Nat), .slice A1 n1 c1, .slice A2 n2 c2, x10] := ⟨_, _, _, _, _, _, rfl⟩
 rw [hC]
 have hm1 := g1.max
 have hc1 := g1.cap
 have hm2 := g2.max
 have hc2 := g2.cap
 have HZ1 := hid g1
 have HZ2 := hid g2
 have HZ1L := hid g1.len
 have HZ2L := hid g2.len
 have HLt : Hid (∀ v ∈ m.nums, v < 18446744073709551616) := hid fun v hv => by
  unfold Md.nums at hv
  rcases List.mem_cons.1 hv with e | e
  ·rw [e]; exact ok.entry
  rcases List.mem_append.1 e with e | e
  ·obtain ⟨s, hs, hx⟩ := List.mem_flatMap.1 e
   have o := ok.segs s hs
   simp only [Sg.nums, List.mem_cons, List.not_mem_nil, or_false] at hx
   rcases hx with rfl | rfl | rfl | rfl
   ·exact o.vaddr
   ·exact o.paddr
   ·exact o.memsz
   ·exact o.align
  ·obtain ⟨s, hs, hx⟩ := List.mem_flatMap.1 e
   have o := ok.secs s hs
   simp only [Se.nums, List.mem_cons, List.not_mem_nil, or_false] at hx
   rcases hx with rfl | rfl | rfl | rfl | rfl
   ·exact o.flags
   ·exact o.addr
   ·exact o.size
   ·exact o.align
   ·exact o.entsize
 have HWd := hid (fun w => mWidth_any m.wide m.big w)
 have E : Hid (m.fits = m.nums.all (fitW m.wide)) := hid rfl
 have EN : Hid (m.nums = m.entry :: (m.segs.flatMap Sg.nums ++ m.secs.flatMap Se.nums)) := hid rfl
 generalize m.fits = R at E ⊢
 generalize m.nums = LN at HLt E EN
 generalize m.wide = wide at HWd E ⊢
 generalize m.big = big at HWd ⊢
 generalize m.entry = en at EN ⊢
 generalize m.segs = L1 at HZ1 HZ1L EN
 generalize m.secs = L2 at HZ2 HZ2L EN
 clear hC g1 g2 ok
 unfold maxLen at hm1 hm2
 go_enter Try.func39, Try.ntmps39
 go_wp2_with fail
 generalize hW : World.alloc _ _ = W1
 obtain ⟨b1, b2, hg0⟩ := blk2 hW
 clear hW
 have HB1 := hid b1
 have HG0 := hid hg0
 have HO1 : Hid (ON W1 (w.heap.size + 1) 28 .u64 (some ⟨w.heap.size + 1, 0, none⟩) 1 1 [en]) := hid (ON.of_blk (l := [en]) b2 (Nat.le_refl _) (by show 1 ≤ maxLen; unfold maxLen; omega))
 have HS1 := hid (show w.heap.size + 1 ≤ W1.heap.size from Nat.le_of_lt b2.lt)
 clear b1 b2 hg0
 go_loopw [3, 15] (fun x i wr => ∃ (k : Nat) (A : Option Addr) (c : Nat), k ≤ n1 ∧ i = .int .i64 k ∧ x = .slice A (1 + 4 * k) c ∧ ON wr (w.heap.size + 1) 28 .u64 A (1 + 4 * k) c (en :: (L1.take k).flatMap Sg.nums) ∧ Below (w.heap.size + 1) W1 wr ∧ w.heap.size + 1 ≤ wr.heap.size) (fun _ i _ => n1 - (intOf i).toNat)
 case atStart => exact ⟨0, _, 1, by omega, rfl, rfl, HO1.out, Below.refl _ _, HS1.out⟩
 case round =>
  obtain ⟨k, A, c, hk, rfl, rfl, ho, hg, hsz⟩ := hrel
  have HO := hid ho
  have HG := hid hg
  have HSz := hid hsz
  clear ho hg hsz HO1 HS1
  by_cases hlt : k < n1
  ·have hkl : k < L1.length := by rw [← HZ1L.out]; exact hlt
   obtain ⟨b, off, rfl, hb⟩ := HZ1.out.pos (by omega)
   obtain ⟨Ak, nk, ck, -, hcell, -⟩ := HZ1.out.at hkl
   have hcell' : ∀ i v, (sgC L1[k] (.slice Ak nk ck))[i]? = some v → wr.cell? ⟨b, off + k * 10 + i, none⟩ = some v := fun i v hv => (Below.cell (HG0.out.trans' (HG.out.mono (Nat.le_succ _))) hb).trans (hcell i v hv)
   have HT := hid (takeS L1 k hkl)
   unfold sgC at hcell'
   generalize L1[k] = s at hcell' HT
   have t0 : wr.cell? ⟨b, off + k * 10, none⟩ = _ := hcell' 0 _ rfl
   have t1 := hcell' 1 _ rfl
   have t2 := hcell' 2 _ rfl
   have t3 := hcell' 3 _ rfl
   have t4 := hcell' 4 _ rfl
   have t5 := hcell' 5 _ rfl
   have t6 := hcell' 6 _ rfl
   have t7 := hcell' 7 _ rfl
   have t8 := hcell' 8 _ rfl
   have t9 := hcell' 9 _ rfl
   clear hcell hcell' hb
   have HBR : Hid (Blk ((wr.alloc (.cells #[.int .u32 (s.typ : Nat), .int .u32 (s.flags : Nat), .int .u64 (s.vaddr : Nat), .int .u64 (s.paddr : Nat), .int .u64 (s.memsz : Nat), .int .u64 (s.align : Nat), .int .i64 s.pl.inn, .int .u64 (s.pl.off : Nat), .int .u64 (s.pl.size : Nat), .slice Ak nk ck] 53)).alloc (.cells #[.int .u64 (s.vaddr : Nat), .int .u64 (s.paddr : Nat), .int .u64 (s.memsz : Nat), .int .u64 (s.align : Nat)] 28)) (wr.heap.size + 1) 28 ([s.vaddr, s.paddr, s.memsz, s.align].map (ival .u64)).toArray) := hid ((blk2 rfl).2.1)
   have hga : Grow wr ((wr.alloc (.cells #[.int .u32 (s.typ : Nat), .int .u32 (s.flags : Nat), .int .u64 (s.vaddr : Nat), .int .u64 (s.paddr : Nat), .int .u64 (s.memsz : Nat), .int .u64 (s.align : Nat), .int .i64 s.pl.inn, .int .u64 (s.pl.off : Nat), .int .u64 (s.pl.size : Nat), .slice Ak nk ck] 53)).alloc (.cells #[.int .u64 (s.vaddr : Nat), .int .u64 (s.paddr : Nat), .int .u64 (s.memsz : Nat), .int .u64 (s.align : Nat)] 28)) := (blk2 rfl).2.2
   have HO3 := hid (HO.out.keep hga)
   have HG3 : Hid (Below (w.heap.size + 1) W1 ((wr.alloc (.cells #[.int .u32 (s.typ : Nat), .int .u32 (s.flags : Nat), .int .u64 (s.vaddr : Nat), .int .u64 (s.paddr : Nat), .int .u64 (s.memsz : Nat), .int .u64 (s.align : Nat), .int .i64 s.pl.inn, .int .u64 (s.pl.off : Nat), .int .u64 (s.pl.size : Nat), .slice Ak nk ck] 53)).alloc (.cells #[.int .u64 (s.vaddr : Nat), .int .u64 (s.paddr : Nat), .int .u64 (s.memsz : Nat), .int .u64 (s.align : Nat)] 28))) := HG.out.trans (hga.mono HSz.out)
   have HS3 : Hid (w.heap.size + 1 ≤ ((wr.alloc (.cells #[.int .u32 (s.typ : Nat), .int .u32 (s.flags : Nat), .int .u64 (s.vaddr : Nat), .int .u64 (s.paddr : Nat), .int .u64 (s.memsz : Nat), .int .u64 (s.align : Nat), .int .i64 s.pl.inn, .int .u64 (s.pl.off : Nat), .int .u64 (s.pl.size : Nat), .slice Ak nk ck] 53)).alloc (.cells #[.int .u64 (s.vaddr : Nat), .int .u64 (s.paddr : Nat), .int .u64 (s.memsz : Nat), .int .u64 (s.align : Nat)] 28)).heap.size) := Nat.le_trans HSz.out hga.size
   have HE : Hid ((en :: (L1.take (k + 1)).flatMap Sg.nums) = (en :: (L1.take k).flatMap Sg.nums) ++ [s.vaddr, s.paddr, s.memsz, s.align]) := hid (by rw [HT.out]; simp [Sg.nums])
   clear hga HT HO HG
   go_wp2_with (at_builtin; refine wpList_appendM ((wr.alloc (.cells #[.int .u32 (s.typ : Nat), .int .u32 (s.flags : Nat), .int .u64 (s.vaddr : Nat), .int .u64 (s.paddr : Nat), .int .u64 (s.memsz : Nat), .int .u64 (s.align : Nat), .int .i64 s.pl.inn, .int .u64 (s.pl.off : Nat), .int .u64 (s.pl.size : Nat), .slice Ak nk ck] 53)).alloc (.cells #[.int .u64 (s.vaddr : Nat), .int .u64 (s.paddr : Nat), .int .u64 (s.memsz : Nat), .int .u64 (s.align : Nat)] 28)) rfl (.tmp 19) (.tmp 28) 57 rfl (w.heap.size + 1) 28 .u64 8 Try.underlying57 (by kernel_rfl) A _ c _ rfl HO3.out (wr.heap.size + 1) _ 4 [s.vaddr, s.paddr, s.memsz, s.align] rfl rfl HBR.out (by omega) (by unfold maxLen; omega) (by omega) HS3.out ?_; intro A5 c5 w6 ho5 hb5; refine Hid.out ?_)
   have HG6 : Hid (Below (w.heap.size + 1) W1 w6) := HG3.out.trans hb5
   have HS6 : Hid (w.heap.size + 1 ≤ w6.heap.size) := Nat.le_trans HS3.out hb5.size
   have HO6 : Hid (ON w6 (w.heap.size + 1) 28 .u64 A5 ((1 + 4 * k) + 4) c5 ((en :: (L1.take (k + 1)).flatMap Sg.nums))) := by
    rw [HE.out]
    exact ho5
   have e9 : (1 + 4 * (k + 1)) = (1 + 4 * k) + 4 := by omega
   clear ho5 hb5 HBR HO3 HG3 HS3 t0 t1 t2 t3 t4 t5 t6 t7 t8 t9
   refine hid ?_
   go_wp2
   go_roundw
   case rel => exact ⟨k + 1, A5, c5, by omega, by go_num, by rw [e9], by rw [e9]; exact HO6.out, HG6.out, HS6.out⟩
   case measure => simp [intOf]; omega
  ·obtain rfl : n1 = k := by omega
   have HO4 : Hid (ON wr (w.heap.size + 1) 28 .u64 A (1 + 4 * n1) c (en :: L1.flatMap Sg.nums)) := by
    have : L1.take n1 = L1 := by rw [List.take_of_length_le (by have := HZ1L.out; omega)]
    have h := HO.out
    rwa [this] at h
   have y9 := (HB1.out.below HG.out (Nat.lt_succ_self _)).at 9
   have HG2 := HG
   have HSz2 := HSz
   clear HO HG HSz hlt hk
   go_wp2_with fail
   clear y9
   obtain ⟨wo, hwo⟩ : ∃ x, x = wr := ⟨_, rfl⟩
   subst hwo
   go_loopw [3, 34] (fun x i wr => ∃ (k : Nat) (A : Option Addr) (c : Nat), k ≤ n2 ∧ i = .int .i64 k ∧ x = .slice A (1 + 4 * n1 + 5 * k) c ∧ ON wr (w.heap.size + 1) 28 .u64 A (1 + 4 * n1 + 5 * k) c (en :: (L1.flatMap Sg.nums ++ (L2.take k).flatMap Se.nums)) ∧ Below (w.heap.size + 1) wo wr ∧ w.heap.size + 1 ≤ wr.heap.size) (fun _ i _ => n2 - (intOf i).toNat)
   case atStart => exact ⟨0, _, c, by omega, rfl, rfl, by simpa using HO4.out, Below.refl _ _, HSz2.out⟩
   case round =>
    obtain ⟨k, A, c, hk, rfl, rfl, ho, hg, hsz⟩ := hrel
    have HO := hid ho
    have HG := hid hg
    have HSz := hid hsz
    clear ho hg hsz HO4 HSz2
    by_cases hlt : k < n2
    ·have hkl : k < L2.length := by rw [← HZ2L.out]; exact hlt
     obtain ⟨b, off, rfl, hb⟩ := HZ2.out.pos (by omega)
     obtain ⟨Ak, nk, ck, -, hcell, -⟩ := HZ2.out.at hkl
     have hcell' : ∀ i v, (seC L2[k] (.slice Ak nk ck))[i]? = some v → wr.cell? ⟨b, off + k * 13 + i, none⟩ = some v := fun i v hv => (Below.cell (HG0.out.trans' ((HG2.out.trans HG.out).mono (Nat.le_succ _))) hb).trans (hcell i v hv)
     have HT := hid (takeS L2 k hkl)
     unfold seC at hcell'
     generalize L2[k] = s at hcell' HT
     have t0 : wr.cell? ⟨b, off + k * 13, none⟩ = _ := hcell' 0 _ rfl
     have t1 := hcell' 1 _ rfl
     have t2 := hcell' 2 _ rfl
     have t3 := hcell' 3 _ rfl
     have t4 := hcell' 4 _ rfl
     have t5 := hcell' 5 _ rfl
     have t6 := hcell' 6 _ rfl
     have t7 := hcell' 7 _ rfl
     have t8 := hcell' 8 _ rfl
     have t9 := hcell' 9 _ rfl
     have t10 := hcell' 10 _ rfl
     have t11 := hcell' 11 _ rfl
     have t12 := hcell' 12 _ rfl
     clear hcell hcell' hb
     have HBR : Hid (Blk ((wr.alloc (.cells #[.int .u32 (s.name : Nat), .int .u32 (s.typ : Nat), .int .u64 (s.flags : Nat), .int .u64 (s.addr : Nat), .int .u64 (s.size : Nat), .int .u32 (s.link : Nat), .int .u32 (s.info : Nat), .int .u64 (s.align : Nat), .int .u64 (s.entsize : Nat), .int .i64 s.pl.inn, .int .u64 (s.pl.off : Nat), .int .u64 (s.pl.size : Nat), .slice Ak nk ck] 56)).alloc (.cells #[.int .u64 (s.flags : Nat), .int .u64 (s.addr : Nat), .int .u64 (s.size : Nat), .int .u64 (s.align : Nat), .int .u64 (s.entsize : Nat)] 28)) (wr.heap.size + 1) 28 ([s.flags, s.addr, s.size, s.align, s.entsize].map (ival .u64)).toArray) := hid ((blk2 rfl).2.1)
     have hga : Grow wr ((wr.alloc (.cells #[.int .u32 (s.name : Nat), .int .u32 (s.typ : Nat), .int .u64 (s.flags : Nat), .int .u64 (s.addr : Nat), .int .u64 (s.size : Nat), .int .u32 (s.link : Nat), .int .u32 (s.info : Nat), .int .u64 (s.align : Nat), .int .u64 (s.entsize : Nat), .int .i64 s.pl.inn, .int .u64 (s.pl.off : Nat), .int .u64 (s.pl.size : Nat), .slice Ak nk ck] 56)).alloc (.cells #[.int .u64 (s.flags : Nat), .int .u64 (s.addr : Nat), .int .u64 (s.size : Nat), .int .u64 (s.align : Nat), .int .u64 (s.entsize : Nat)] 28)) := (blk2 rfl).2.2
     have HO3 := hid (HO.out.keep hga)
     have HG3 : Hid (Below (w.heap.size + 1) wo ((wr.alloc (.cells #[.int .u32 (s.name : Nat), .int .u32 (s.typ : Nat), .int .u64 (s.flags : Nat), .int .u64 (s.addr : Nat), .int .u64 (s.size : Nat), .int .u32 (s.link : Nat), .int .u32 (s.info : Nat), .int .u64 (s.align : Nat), .int .u64 (s.entsize : Nat), .int .i64 s.pl.inn, .int .u64 (s.pl.off : Nat), .int .u64 (s.pl.size : Nat), .slice Ak nk ck] 56)).alloc (.cells #[.int .u64 (s.flags : Nat), .int .u64 (s.addr : Nat), .int .u64 (s.size : Nat), .int .u64 (s.align : Nat), .int .u64 (s.entsize : Nat)] 28))) := HG.out.trans (hga.mono HSz.out)
     have HS3 : Hid (w.heap.size + 1 ≤ ((wr.alloc (.cells #[.int .u32 (s.name : Nat), .int .u32 (s.typ : Nat), .int .u64 (s.flags : Nat), .int .u64 (s.addr : Nat), .int .u64 (s.size : Nat), .int .u32 (s.link : Nat), .int .u32 (s.info : Nat), .int .u64 (s.align : Nat), .int .u64 (s.entsize : Nat), .int .i64 s.pl.inn, .int .u64 (s.pl.off : Nat), .int .u64 (s.pl.size : Nat), .slice Ak nk ck] 56)).alloc (.cells #[.int .u64 (s.flags : Nat), .int .u64 (s.addr : Nat), .int .u64 (s.size : Nat), .int .u64 (s.align : Nat), .int .u64 (s.entsize : Nat)] 28)).heap.size) := Nat.le_trans HSz.out hga.size
     have HE : Hid ((en :: (L1.flatMap Sg.nums ++ (L2.take (k + 1)).flatMap Se.nums)) = (en :: (L1.flatMap Sg.nums ++ (L2.take k).flatMap Se.nums)) ++ [s.flags, s.addr, s.size, s.align, s.entsize]) := hid (by rw [HT.out]; simp [Se.nums])
     clear hga HT HO HG
     go_wp2_with (at_builtin; refine wpList_appendM ((wr.alloc (.cells #[.int .u32 (s.name : Nat), .int .u32 (s.typ : Nat), .int .u64 (s.flags : Nat), .int .u64 (s.addr : Nat), .int .u64 (s.size : Nat), .int .u32 (s.link : Nat), .int .u32 (s.info : Nat), .int .u64 (s.align : Nat), .int .u64 (s.entsize : Nat), .int .i64 s.pl.inn, .int .u64 (s.pl.off : Nat), .int .u64 (s.pl.size : Nat), .slice Ak nk ck] 56)).alloc (.cells #[.int .u64 (s.flags : Nat), .int .u64 (s.addr : Nat), .int .u64 (s.size : Nat), .int .u64 (s.align : Nat), .int .u64 (s.entsize : Nat)] 28)) rfl (.tmp 38) (.tmp 49) 57 rfl (w.heap.size + 1) 28 .u64 8 Try.underlying57 (by kernel_rfl) A _ c _ rfl HO3.out (wr.heap.size + 1) _ 5 [s.flags, s.addr, s.size, s.align, s.entsize] rfl rfl HBR.out (by omega) (by unfold maxLen; omega) (by omega) HS3.out ?_; intro A5 c5 w6 ho5 hb5; refine Hid.out ?_)
     have HG6 : Hid (Below (w.heap.size + 1) wo w6) := HG3.out.trans hb5
     have HS6 : Hid (w.heap.size + 1 ≤ w6.heap.size) := Nat.le_trans HS3.out hb5.size
     have HO6 : Hid (ON w6 (w.heap.size + 1) 28 .u64 A5 ((1 + 4 * n1 + 5 * k) + 5) c5 ((en :: (L1.flatMap Sg.nums ++ (L2.take (k + 1)).flatMap Se.nums)))) := by
      rw [HE.out]
      exact ho5
     have e9 : (1 + 4 * n1 + 5 * (k + 1)) = (1 + 4 * n1 + 5 * k) + 5 := by omega
     clear ho5 hb5 HBR HO3 HG3 HS3 t0 t1 t2 t3 t4 t5 t6 t7 t8 t9 t10 t11 t12
     refine hid ?_
     go_wp2
     go_roundw
     case rel => exact ⟨k + 1, A5, c5, by omega, by go_num, by rw [e9], by rw [e9]; exact HO6.out, HG6.out, HS6.out⟩
     case measure => simp [intOf]; omega
    ·obtain rfl : n2 = k := by omega
     have HO4 : Hid (ON wr (w.heap.size + 1) 28 .u64 A (1 + 4 * n1 + 5 * n2) c LN) := by
      have : L2.take n2 = L2 := by rw [List.take_of_length_le (by have := HZ2L.out; omega)]
      have h := HO.out
      rw [this, ← EN.out] at h
      exact h
     have hB := HB1.out.below (HG2.out.trans HG.out) (Nat.lt_succ_self _)
     have y0 := hB.at 0
     have y1 := hB.at 1
     have HGq : Hid (Grow w wr) := HG0.out.trans' ((HG2.out.trans HG.out).mono (Nat.le_succ _))
     clear hB HO HG HSz HG2
     go_wp2_with fail
     clear y0 y1
     refine (HWd.out _).mono ?_
     rintro e w2 ⟨rfl, hg2⟩
     have HBn := hid (Blk.new w2 3 #[.int .i64 (byWide wide 4 8 : Nat)])
     have hga := Grow.of_alloc w2 (.cells #[.int .i64 (byWide wide 4 8 : Nat)] 3)
     have HO5 := hid ((HO4.out.keep (hg2.trans hga)).ns)
     have HG5 : Hid (Grow w (w2.alloc (.cells #[.int .i64 (byWide wide 4 8 : Nat)] 3))) := HGq.out.trans (hg2.trans hga)
     have HH := hid (hasN_any wide A _ c LN w2.heap.size _ _ HO5.out HLt.out (HBn.out.at 0))
     clear hg2 hga HO4 HGq HBn HO5
     unfold fitF at HH
     rw [← E.out] at HH
     go_wp2_with fail
     refine HH.out.mono ?_
     rintro e w3 ⟨rfl, rfl⟩
     go_wp2
     go_ret
     exact ⟨ret_bool (by simp), HG5.out⟩
theorem may_own {m : Md} {p : Pl} (h : p.inn = -1) : m.may p = p.ownMay := by unfold Md.may; rw [if_pos h]
theorem may_in {m : Md} {p : Pl} (h : p.inn ≠ -1) : m.may p = (isSegN m.segs.length p.inn && decide ((m.seg p.inn).typ = 1) && p.inMay (m.seg p.inn).pl.own.length) := by unfold Md.may; rw [if_neg h]
theorem mdC_cells (m : Md) (s t : Value) : ∃ x0 x1 x2 x3 x4 x5 x6 x7 x9 x10 : Value, mdC m s t = #[x0, x1, x2, x3, x4, x5, x6, x7, s, x9, x10] := ⟨_, _, _, _, _, _, _, _, _, _, rfl⟩
theorem isSegN_true {n : Nat} {i : Int} (h : isSegN n i = true) : ∃ k : Nat, i = (k : Int) ∧ k < n := by
 unfold isSegN at h
 simp at h
 exact ⟨i.toNat, by omega, by omega⟩
theorem Md.seg_nat (m : Md) (k : Nat) (h : k < m.segs.length) : m.seg (k : Int) = m.segs[k] := by
 unfold Md.seg
 simp [List.getD_eq_getElem?_getD, h]
set_option maxHeartbeats 1000000 in
theorem mMay_any (m : Md) (A1 A2 : Option Addr) (n1 c1 n2 c2 : Nat) (p : Pl) (A : Option Addr) (n c : Nat) (w : World) (g1 : ZR sgK w w.heap.size A1 n1 c1 m.segs) (g : RB w w.heap.size A n c p.own) :
  Calls Try.prog 67 #[.agg (mdC m (.slice A1 n1 c1) (.slice A2 n2 c2)), .agg (plC p (.slice A n c))] w fun e w' => e = .returned (.bool (m.may p)) ∧ Grow w w' := by
 have hn : n = p.own.length := g.len
 have hnm : n ≤ maxLen := Nat.le_trans g.cap g.max
 have hnm' := hnm
 unfold maxLen at hnm'
 have z : IntKind.u64.wrap (n : Int) = (n : Int) := by rw [IntKind.wrap_u64]; omega
 by_cases h0 : p.inn = -1
 ·rw [may_own h0]
  have E := hid (show p.ownMay = (decide (p.off = 0) && decide (p.size = n)) by rw [hn]; rfl)
  unfold plC mdC
  rw [h0]
  generalize p.ownMay = R at E ⊢
  generalize p.off = a at E ⊢
  generalize p.size = b at E ⊢
  clear hn hnm hnm' h0 g
  by_cases ha : a = 0
  ·subst ha
   go_enter Try.func67, Try.ntmps67
   go_wp2
   go_ret
   exact ⟨ret_bool (by rw [E.out, Bool.eq_iff_iff]; simp; try omega), (Grow.of_alloc _ _).trans (Grow.of_alloc _ _)⟩
  ·have e0 : ((a : Int) == 0) = false := by simp [ha]
   have E2 := hid (show (decide (a = 0) && decide (b = n)) = false by simp [ha])
   clear ha
   go_enter Try.func67, Try.ntmps67
   go_wp2
   go_ret
   exact ⟨ret_bool (by rw [E.out, E2.out]), (Grow.of_alloc _ _).trans (Grow.of_alloc _ _)⟩
 ·have hl := g1.len
  rw [may_in h0, ← hl]
  have hI := mIsSeg_any m A1 A2 n1 c1 n2 c2 p.inn
  obtain ⟨x0, x1, x2, x3, x4, x5, x6, x7, x9, x10, hC⟩ := mdC_cells m (.slice A1 n1 c1) (.slice A2 n2 c2)
  rw [hC] at hI ⊢
  clear hC
  cases hs : isSegN n1 p.inn with
  | false =>
   rw [hs] at hI
   have HI := hid hI
   have Hi : (p.inn == -1) = false := by simpa using h0
   clear hI hs h0 hl hn hnm hnm' g g1
   simp only [Bool.false_and]
   unfold plC
   generalize p.inn = i at HI Hi ⊢
   go_enter Try.func67, Try.ntmps67
   go_wp2_with fail
   generalize hW : World.alloc _ _ = W0
   obtain ⟨b1, b2, hg0⟩ := blk2 hW
   clear hW
   have HG0 := hid hg0
   obtain ⟨y0, y1, y2, y3⟩ := b2.c4
   obtain ⟨v0, v1, v2, v3, v4, v5, v6, v7, v8, v9, v10⟩ := b1.c11
   clear b1 b2 hg0
   go_wp2_with fail
   clear y0 y1 y2 y3 v0 v1 v2 v3 v4 v5 v6 v7 v8 v9 v10
   refine (HI.out _).mono ?_
   rintro e w1 ⟨rfl, hg1⟩
   have HG1 : Hid (Grow w w1) := HG0.out.trans hg1
   clear hg1
   go_wp2
   go_ret
   exact ⟨rfl, HG1.out⟩
  | true =>
   obtain ⟨k, hk, hkl⟩ := isSegN_true hs
   rw [hl] at hkl
   rw [hs] at hI
   rw [hk] at hI
   rw [hk, m.seg_nat k hkl]
   obtain ⟨b, off, rfl, hb⟩ := g1.pos (by rw [g1.len]; omega)
   obtain ⟨Ak, nk, ck, -, hcell, gk⟩ := g1.at hkl
   have t0 : w.cell? ⟨b, off + k * 10, none⟩ = some (.int .u32 (m.segs[k].typ : Nat)) := hcell 0 _ rfl
   have t9 : w.cell? ⟨b, off + k * 10 + 9, none⟩ = some (.slice Ak nk ck) := hcell 9 _ rfl
   have hnk : m.segs[k].pl.own.length = nk := gk.len.symm
   have hnkm : nk ≤ maxLen := Nat.le_trans gk.cap gk.max
   have HWi := hid (fun w => mIsWithin_any p (.slice A n c) Ak nk ck w hnkm)
   have E := hid (show p.inMay nk = (decide (n = 0) && decide (0 < p.size) && p.within nk) by rw [hn]; rfl)
   have hkn : k < n1 := by rw [g1.len]; exact hkl
   have hb1 : b < w.heap.size := hb
   have T0 := hid t0
   have T9 := hid t9
   have HBb := hid hb1
   have hn1m := g1.cap
   have hn1m' := g1.max
   unfold maxLen at hn1m'
   rw [hnk]
   have HI := hid hI
   unfold plC at HWi ⊢
   rw [hk] at HWi ⊢
   rw [Bool.true_and]
   have e0 : ((k : Int) == -1) = false := by simp
   generalize p.within nk = V at E HWi
   generalize p.inMay nk = R at E ⊢
   generalize p.off = po at HWi ⊢
   generalize p.size = ps at E HWi ⊢
   generalize (m.segs[k]).typ = ty at T0 ⊢
   clear hI hs t0 t9 hcell gk hnk hnkm hn hk h0 g1 g hb hb1 hnm hl
   go_enter Try.func67, Try.ntmps67
   go_wp2_with fail
   generalize hW : World.alloc _ _ = W0
   obtain ⟨b1, b2, hg0⟩ := blk2 hW
   clear hW
   have HB1 := hid b1
   have HB20 := hid b2
   have HG0 := hid hg0
   obtain ⟨y0, y1, y2, y3⟩ := b2.c4
   obtain ⟨v0, v1, v2, v3, v4, v5, v6, v7, v8, v9, v10⟩ := b1.c11
   clear b1 b2 hg0
   go_wp2_with fail
   clear y0 y1 y2 y3 v0 v1 v2 v3 v4 v5 v6 v7 v8 v9 v10
   refine (HI.out _).mono ?_
   rintro e w1 ⟨rfl, hg1⟩
   have HG1 : Hid (Grow w w1) := HG0.out.trans hg1
   have HB2 := hid (HB20.out.grow hg1)
   have y8 : w1.cell? ⟨w.heap.size, 8, none⟩ = some (.slice (some ⟨b, off, none⟩) n1 c1) := (HB1.out.grow hg1).at 8
   obtain ⟨y0, y1, y2, y3⟩ := HB2.out.c4
   have t0 : w1.cell? ⟨b, off + k * 10, none⟩ = some (.int .u32 (ty : Int)) := (Below.cell HG1.out HBb.out).trans T0.out
   have HY8 := hid (HB1.out.grow hg1)
   clear hg1 HG0 HB20 HB1
   by_cases ht : ty = 1
   ·have e1 : ((ty : Int) != 1) = false := by simp [ht]
    have E1 := hid (show decide (ty = 1) = true by simp [ht])
    clear ht
    go_wp2_with fail
    clear y0 y1 y2 y3 y8 t0 e1
    refine wp_region_chain [(0, true), (1, true), (2, true), (3, true), (4, true), (5, true), (6, true), (7, true), (8, true), (9, true), (10, true), (11, true), (12, true), (13, true), (14, true), (15, true), (16, true), (17, true), (18, true), (19, false), (20, true), (21, true)] (by kernel_rfl) (by kernel_rfl) (by kernel_rfl) ?_
    have q0 : ∀ W, Grow w1.drew W → W.cell? ⟨w.heap.size + 1, 0, none⟩ = some (.int .i64 (k : Int)) := fun W hW => (HB2.out.grow ((Grow.of_drew _).trans hW)).at 0
    have q1 : ∀ W, Grow w1.drew W → W.cell? ⟨w.heap.size + 1, 1, none⟩ = some (.int .u64 (po : Nat)) := fun W hW => (HB2.out.grow ((Grow.of_drew _).trans hW)).at 1
    have q2 : ∀ W, Grow w1.drew W → W.cell? ⟨w.heap.size + 1, 2, none⟩ = some (.int .u64 (ps : Nat)) := fun W hW => (HB2.out.grow ((Grow.of_drew _).trans hW)).at 2
    have q3 : ∀ W, Grow w1.drew W → W.cell? ⟨w.heap.size + 1, 3, none⟩ = some (.slice A n c) := fun W hW => (HB2.out.grow ((Grow.of_drew _).trans hW)).at 3
    have q8 : ∀ W, Grow w1.drew W → W.cell? ⟨w.heap.size, 8, none⟩ = some (.slice (some ⟨b, off, none⟩) n1 c1) := fun W hW => (HY8.out.grow ((Grow.of_drew _).trans hW)).at 8
    have t9 : ∀ W, Grow w1.drew W → W.cell? ⟨b, off + k * 10 + 9, none⟩ = some (.slice Ak nk ck) := fun W hW => (Below.cell (HG1.out.trans ((Grow.of_drew _).trans hW)) HBb.out).trans T9.out
    have HD : Hid (Grow w w1.drew) := HG1.out.trans (Grow.of_drew _)
    generalize w1.drew = w2 at HD q0 q1 q2 q3 q8 t9 ⊢
    by_cases hn0 : n = 0
    ·subst hn0
     by_cases hp0 : 0 < ps
     ·have e2 : decide (0 < ps) = true := decide_eq_true hp0
      have E2 := hid (show R = V by rw [E.out]; simp [hp0])
      clear hp0
      repeat ((first | (refine chain_take rfl (by rfl) ?_ (fun W hG => ?_) ?_; rotate_left; (go_simp; rfl)) | refine chain_skip rfl (by rfl) ?_); simp only [Act.put, List.setIfInBounds_toArray, List.set_cons_zero, List.set_cons_succ])
      refine chain_only rfl (by rfl) (fun K hK => ?_)
      go_simp
      refine (HWi.out _).mono ?_
      rintro e w3 ⟨rfl, hg3⟩
      refine hK _ _ hg3 ?_
      have HF : Hid (Grow w w3) := HD.out.trans hg3
      clear hK K hg3 q0 q1 q2 q3 q8 t9
      repeat ((first | (refine chain_take rfl (by rfl) ?_ (fun W hG => ?_) ?_; rotate_left; (go_simp; rfl)) | refine chain_skip rfl (by rfl) ?_); simp only [Act.put, List.setIfInBounds_toArray, List.set_cons_zero, List.set_cons_succ])
      refine chain_done ?_
      go_wp2
      go_ret
      exact ⟨ret_bool (by rw [E1.out, Bool.true_and, E2.out]), HF.out⟩
     ·have e2 : decide (0 < ps) = false := decide_eq_false hp0
      have E2 := hid (show R = false by rw [E.out]; simp [hp0])
      clear hp0
      repeat ((first | (refine chain_take rfl (by rfl) ?_ (fun W hG => ?_) ?_; rotate_left; (go_simp; rfl)) | refine chain_skip rfl (by rfl) ?_); simp only [Act.put, List.setIfInBounds_toArray, List.set_cons_zero, List.set_cons_succ])
      refine chain_none rfl (by rfl) ?_
      simp only [Act.put, List.setIfInBounds_toArray, List.set_cons_zero, List.set_cons_succ]
      repeat ((first | (refine chain_take rfl (by rfl) ?_ (fun W hG => ?_) ?_; rotate_left; (go_simp; rfl)) | refine chain_skip rfl (by rfl) ?_); simp only [Act.put, List.setIfInBounds_toArray, List.set_cons_zero, List.set_cons_succ])
      refine chain_done ?_
      go_wp2
      go_ret
      exact ⟨ret_bool (by rw [E1.out, Bool.true_and, E2.out]), HD.out⟩
    ·have e2 : ((n : Int) == 0) = false := by simp; omega
     have E2 := hid (show R = false by rw [E.out]; simp [hn0])
     clear hn0
     repeat ((first | (refine chain_take rfl (by rfl) ?_ (fun W hG => ?_) ?_; rotate_left; (go_simp; rfl)) | refine chain_skip rfl (by rfl) ?_); simp only [Act.put, List.setIfInBounds_toArray, List.set_cons_zero, List.set_cons_succ])
     refine chain_none rfl (by rfl) ?_
     simp only [Act.put, List.setIfInBounds_toArray, List.set_cons_zero, List.set_cons_succ]
     repeat ((first | (refine chain_take rfl (by rfl) ?_ (fun W hG => ?_) ?_; rotate_left; (go_simp; rfl)) | refine chain_skip rfl (by rfl) ?_); simp only [Act.put, List.setIfInBounds_toArray, List.set_cons_zero, List.set_cons_succ])
     refine chain_done ?_
     go_wp2
     go_ret
     exact ⟨ret_bool (by rw [E1.out, Bool.true_and, E2.out]), HD.out⟩
   ·have e1 : ((ty : Int) != 1) = true := by simp; omega
    have E1 := hid (show decide (ty = 1) = false by simp [ht])
    clear ht
    go_wp2
    go_ret
    exact ⟨ret_bool (by rw [E1.out, Bool.false_and]), HG1.out⟩
end Go.Proofs.Ytaianmonokeimaa
