/-
  The contract of model.fits: whether all numbers of a model fit its class.
-/
import Derived.Test.YthebemikhjglbaaMdIdx
import Derived.Test.YthebemikhjglbaaAppM
namespace Go.Proofs.Ythebemikhjglbaa
open Go.RowKit

set_option maxRecDepth 100000 in
set_option maxHeartbeats 8000000 in
theorem mFits_any (m : Md) (ok : m.Ok) (A1 A2 : Option Addr) (n1 c1 n2 c2 : Nat) (w : World) (g1 : ZR sgK w w.heap.size A1 n1 c1 m.segs) (g2 : ZR seK w w.heap.size A2 n2 c2 m.secs) (h1 : n1 ≤ 16) (h2 : n2 ≤ 64) :
    Calls Try.prog 19 #[.agg (mdC m (.slice A1 n1 c1) (.slice A2 n2 c2))] w fun e w' => e = .returned (.bool m.fits) ∧ Grow w w' := by
  obtain ⟨x2, x3, x4, x5, x6, x10, hC⟩ : ∃ x2 x3 x4 x5 x6 x10 : Value, mdC m (.slice A1 n1 c1) (.slice A2 n2 c2) = #[.bool m.wide, .bool m.big, x2, x3, x4, x5, x6, .int .u64 (m.entry : Nat), .slice A1 n1 c1, .slice A2 n2 c2, x10] := ⟨_, _, _, _, _, _, rfl⟩
  rw [hC]
  have hm1 := g1.max
  have hc1 := g1.cap
  have hm2 := g2.max
  have hc2 := g2.cap
  have HZ1 := Lib.hid g1
  have HZ2 := Lib.hid g2
  have HZ1L := Lib.hid g1.len
  have HZ2L := Lib.hid g2.len
  have HLt : Hid (∀ v ∈ m.nums, v < 18446744073709551616) := Lib.hid fun v hv => by
    unfold Md.nums at hv
    rcases List.mem_cons.1 hv with e | e
    · rw [e]; exact ok.entry
    rcases List.mem_append.1 e with e | e
    · obtain ⟨s, hs, hx⟩ := List.mem_flatMap.1 e
      have o := ok.segs s hs
      simp only [Sg.nums, List.mem_cons, List.not_mem_nil, or_false] at hx
      rcases hx with rfl | rfl | rfl | rfl
      · exact o.vaddr
      · exact o.paddr
      · exact o.memsz
      · exact o.align
    · obtain ⟨s, hs, hx⟩ := List.mem_flatMap.1 e
      have o := ok.secs s hs
      simp only [Se.nums, List.mem_cons, List.not_mem_nil, or_false] at hx
      rcases hx with rfl | rfl | rfl | rfl | rfl
      · exact o.flags
      · exact o.addr
      · exact o.size
      · exact o.align
      · exact o.entsize
  have HWd := Lib.hid (fun w => mWidth_any m.wide m.big w)
  have E : Hid (m.fits = m.nums.all (fitW m.wide)) := Lib.hid rfl
  have EN : Hid (m.nums = m.entry :: (m.segs.flatMap Sg.nums ++ m.secs.flatMap Se.nums)) := Lib.hid rfl
  generalize m.fits = R at E ⊢
  generalize m.nums = LN at HLt E EN
  generalize m.wide = wide at HWd E ⊢
  generalize m.big = big at HWd ⊢
  generalize m.entry = en at EN ⊢
  generalize m.segs = L1 at HZ1 HZ1L EN
  generalize m.secs = L2 at HZ2 HZ2L EN
  clear hC g1 g2 ok
  unfold maxLen at hm1 hm2
  go_enter Try.func19, Try.ntmps19
  go_wp2_with fail
  generalize hW : World.alloc _ _ = W1
  obtain ⟨b1, b2, hg0⟩ := blk2 hW
  clear hW
  have HB1 := Lib.hid b1
  have HG0 := Lib.hid hg0
  have HO1 : Hid (ON W1 (w.heap.size + 1) 28 .u64 (some ⟨w.heap.size + 1, 0, none⟩) 1 1 [en]) := Lib.hid (ON.of_blk (l := [en]) b2 (Nat.le_refl _) (by show 1 ≤ maxLen; unfold maxLen; omega))
  have HS1 := Lib.hid (show w.heap.size + 1 ≤ W1.heap.size from Nat.le_of_lt b2.lt)
  clear b1 b2 hg0
  go_loopw [3, 15] (fun x i wr => ∃ (k : Nat) (A : Option Addr) (c : Nat), k ≤ n1 ∧ i = .int .i64 k ∧ x = .slice A (1 + 4 * k) c ∧ ON wr (w.heap.size + 1) 28 .u64 A (1 + 4 * k) c (en :: (L1.take k).flatMap Sg.nums) ∧ Below (w.heap.size + 1) W1 wr ∧ w.heap.size + 1 ≤ wr.heap.size) (fun _ i _ => n1 - (intOf i).toNat)
  case atStart => exact ⟨0, _, 1, by omega, rfl, rfl, HO1.out, Below.refl _ _, HS1.out⟩
  case round =>
    obtain ⟨k, A, c, hk, rfl, rfl, ho, hg, hsz⟩ := hrel
    have HO := Lib.hid ho
    have HG := Lib.hid hg
    have HSz := Lib.hid hsz
    clear ho hg hsz HO1 HS1
    by_cases hlt : k < n1
    · have hkl : k < L1.length := by rw [← HZ1L.out]; exact hlt
      obtain ⟨b, off, rfl, hb⟩ := HZ1.out.pos (by omega)
      obtain ⟨Ak, nk, ck, -, hcell, -⟩ := HZ1.out.at hkl
      have hcell' : ∀ i v, (sgC L1[k] (.slice Ak nk ck))[i]? = some v → wr.cell? ⟨b, off + k * 10 + i, none⟩ = some v := fun i v hv => (Below.cell (HG0.out.trans' (HG.out.mono (Nat.le_succ _))) hb).trans (hcell i v hv)
      have HT := Lib.hid (takeS L1 k hkl)
      unfold sgC at hcell'
      generalize L1[k] = s at hcell' HT
      have t0 : wr.cell? ⟨b, off + k * 10, none⟩ = _ := hcell' 0 _ rfl
      have t1 := hcell' 1 _ rfl
      have t2 := hcell' 2 _ rfl
      have t3 := hcell' 3 _ rfl
      have t4 := hcell' 4 _ rfl
      have t5 := hcell' 5 _ rfl
      have t6 := hcell' 6 _ rfl
      have t7 := hcell' 7 _ rfl
      have t8 := hcell' 8 _ rfl
      have t9 := hcell' 9 _ rfl
      clear hcell hcell' hb
      have HBR : Hid (Blk ((wr.alloc (.cells #[.int .u32 (s.typ : Nat), .int .u32 (s.flags : Nat), .int .u64 (s.vaddr : Nat), .int .u64 (s.paddr : Nat), .int .u64 (s.memsz : Nat), .int .u64 (s.align : Nat), .int .i64 s.pl.inn, .int .u64 (s.pl.off : Nat), .int .u64 (s.pl.size : Nat), .slice Ak nk ck] 54)).alloc (.cells #[.int .u64 (s.vaddr : Nat), .int .u64 (s.paddr : Nat), .int .u64 (s.memsz : Nat), .int .u64 (s.align : Nat)] 28)) (wr.heap.size + 1) 28 ([s.vaddr, s.paddr, s.memsz, s.align].map (ival .u64)).toArray) := Lib.hid ((blk2 rfl).2.1)
      have hga : Grow wr ((wr.alloc (.cells #[.int .u32 (s.typ : Nat), .int .u32 (s.flags : Nat), .int .u64 (s.vaddr : Nat), .int .u64 (s.paddr : Nat), .int .u64 (s.memsz : Nat), .int .u64 (s.align : Nat), .int .i64 s.pl.inn, .int .u64 (s.pl.off : Nat), .int .u64 (s.pl.size : Nat), .slice Ak nk ck] 54)).alloc (.cells #[.int .u64 (s.vaddr : Nat), .int .u64 (s.paddr : Nat), .int .u64 (s.memsz : Nat), .int .u64 (s.align : Nat)] 28)) := (blk2 rfl).2.2
      have HO3 := Lib.hid (HO.out.keep hga)
      have HG3 : Hid (Below (w.heap.size + 1) W1 ((wr.alloc (.cells #[.int .u32 (s.typ : Nat), .int .u32 (s.flags : Nat), .int .u64 (s.vaddr : Nat), .int .u64 (s.paddr : Nat), .int .u64 (s.memsz : Nat), .int .u64 (s.align : Nat), .int .i64 s.pl.inn, .int .u64 (s.pl.off : Nat), .int .u64 (s.pl.size : Nat), .slice Ak nk ck] 54)).alloc (.cells #[.int .u64 (s.vaddr : Nat), .int .u64 (s.paddr : Nat), .int .u64 (s.memsz : Nat), .int .u64 (s.align : Nat)] 28))) := HG.out.trans (hga.mono HSz.out)
      have HS3 : Hid (w.heap.size + 1 ≤ ((wr.alloc (.cells #[.int .u32 (s.typ : Nat), .int .u32 (s.flags : Nat), .int .u64 (s.vaddr : Nat), .int .u64 (s.paddr : Nat), .int .u64 (s.memsz : Nat), .int .u64 (s.align : Nat), .int .i64 s.pl.inn, .int .u64 (s.pl.off : Nat), .int .u64 (s.pl.size : Nat), .slice Ak nk ck] 54)).alloc (.cells #[.int .u64 (s.vaddr : Nat), .int .u64 (s.paddr : Nat), .int .u64 (s.memsz : Nat), .int .u64 (s.align : Nat)] 28)).heap.size) := Nat.le_trans HSz.out hga.size
      have HE : Hid ((en :: (L1.take (k + 1)).flatMap Sg.nums) = (en :: (L1.take k).flatMap Sg.nums) ++ [s.vaddr, s.paddr, s.memsz, s.align]) := Lib.hid (by rw [HT.out]; simp [Sg.nums])
      clear hga HT HO HG
      go_wp2_with (refine wpList_appendM ((wr.alloc (.cells #[.int .u32 (s.typ : Nat), .int .u32 (s.flags : Nat), .int .u64 (s.vaddr : Nat), .int .u64 (s.paddr : Nat), .int .u64 (s.memsz : Nat), .int .u64 (s.align : Nat), .int .i64 s.pl.inn, .int .u64 (s.pl.off : Nat), .int .u64 (s.pl.size : Nat), .slice Ak nk ck] 54)).alloc (.cells #[.int .u64 (s.vaddr : Nat), .int .u64 (s.paddr : Nat), .int .u64 (s.memsz : Nat), .int .u64 (s.align : Nat)] 28)) rfl (.tmp 19) (.tmp 28) 35 rfl (w.heap.size + 1) 28 .u64 8 Try.underlying35 (by kernel_rfl) A _ c _ rfl HO3.out (wr.heap.size + 1) _ 4 [s.vaddr, s.paddr, s.memsz, s.align] rfl rfl HBR.out (by omega) (by unfold maxLen; omega) (by omega) HS3.out ?_; intro A5 c5 w6 ho5 hb5; refine Hid.out ?_)
      have HG6 : Hid (Below (w.heap.size + 1) W1 w6) := HG3.out.trans hb5
      have HS6 : Hid (w.heap.size + 1 ≤ w6.heap.size) := Nat.le_trans HS3.out hb5.size
      have HO6 : Hid (ON w6 (w.heap.size + 1) 28 .u64 A5 ((1 + 4 * k) + 4) c5 ((en :: (L1.take (k + 1)).flatMap Sg.nums))) := by
        rw [HE.out]
        exact ho5
      have e9 : (1 + 4 * (k + 1)) = (1 + 4 * k) + 4 := by omega
      clear ho5 hb5 HBR HO3 HG3 HS3 t0 t1 t2 t3 t4 t5 t6 t7 t8 t9
      refine Lib.hid ?_
      go_wp2
      go_roundw
      case rel => exact ⟨k + 1, A5, c5, by omega, by go_num, by rw [e9], by rw [e9]; exact HO6.out, HG6.out, HS6.out⟩
      case measure => simp [intOf]; omega
    · obtain rfl : n1 = k := by omega
      have HO4 : Hid (ON wr (w.heap.size + 1) 28 .u64 A (1 + 4 * n1) c (en :: L1.flatMap Sg.nums)) := by
        have : L1.take n1 = L1 := by rw [List.take_of_length_le (by have := HZ1L.out; omega)]
        have h := HO.out
        rwa [this] at h
      have y9 := (HB1.out.below HG.out (Nat.lt_succ_self _)).at 9
      have HG2 := HG
      have HSz2 := HSz
      clear HO HG HSz hlt hk
      go_wp2_with fail
      clear y9
      obtain ⟨wo, hwo⟩ : ∃ x, x = wr := ⟨_, rfl⟩
      subst hwo
      go_loopw [3, 34] (fun x i wr => ∃ (k : Nat) (A : Option Addr) (c : Nat), k ≤ n2 ∧ i = .int .i64 k ∧ x = .slice A (1 + 4 * n1 + 5 * k) c ∧ ON wr (w.heap.size + 1) 28 .u64 A (1 + 4 * n1 + 5 * k) c (en :: (L1.flatMap Sg.nums ++ (L2.take k).flatMap Se.nums)) ∧ Below (w.heap.size + 1) wo wr ∧ w.heap.size + 1 ≤ wr.heap.size) (fun _ i _ => n2 - (intOf i).toNat)
      case atStart => exact ⟨0, _, c, by omega, rfl, rfl, by simpa using HO4.out, Below.refl _ _, HSz2.out⟩
      case round =>
        obtain ⟨k, A, c, hk, rfl, rfl, ho, hg, hsz⟩ := hrel
        have HO := Lib.hid ho
        have HG := Lib.hid hg
        have HSz := Lib.hid hsz
        clear ho hg hsz HO4 HSz2
        by_cases hlt : k < n2
        · have hkl : k < L2.length := by rw [← HZ2L.out]; exact hlt
          obtain ⟨b, off, rfl, hb⟩ := HZ2.out.pos (by omega)
          obtain ⟨Ak, nk, ck, -, hcell, -⟩ := HZ2.out.at hkl
          have hcell' : ∀ i v, (seC L2[k] (.slice Ak nk ck))[i]? = some v → wr.cell? ⟨b, off + k * 13 + i, none⟩ = some v := fun i v hv => (Below.cell (HG0.out.trans' ((HG2.out.trans HG.out).mono (Nat.le_succ _))) hb).trans (hcell i v hv)
          have HT := Lib.hid (takeS L2 k hkl)
          unfold seC at hcell'
          generalize L2[k] = s at hcell' HT
          have t0 : wr.cell? ⟨b, off + k * 13, none⟩ = _ := hcell' 0 _ rfl
          have t1 := hcell' 1 _ rfl
          have t2 := hcell' 2 _ rfl
          have t3 := hcell' 3 _ rfl
          have t4 := hcell' 4 _ rfl
          have t5 := hcell' 5 _ rfl
          have t6 := hcell' 6 _ rfl
          have t7 := hcell' 7 _ rfl
          have t8 := hcell' 8 _ rfl
          have t9 := hcell' 9 _ rfl
          have t10 := hcell' 10 _ rfl
          have t11 := hcell' 11 _ rfl
          have t12 := hcell' 12 _ rfl
          clear hcell hcell' hb
          have HBR : Hid (Blk ((wr.alloc (.cells #[.int .u32 (s.name : Nat), .int .u32 (s.typ : Nat), .int .u64 (s.flags : Nat), .int .u64 (s.addr : Nat), .int .u64 (s.size : Nat), .int .u32 (s.link : Nat), .int .u32 (s.info : Nat), .int .u64 (s.align : Nat), .int .u64 (s.entsize : Nat), .int .i64 s.pl.inn, .int .u64 (s.pl.off : Nat), .int .u64 (s.pl.size : Nat), .slice Ak nk ck] 56)).alloc (.cells #[.int .u64 (s.flags : Nat), .int .u64 (s.addr : Nat), .int .u64 (s.size : Nat), .int .u64 (s.align : Nat), .int .u64 (s.entsize : Nat)] 28)) (wr.heap.size + 1) 28 ([s.flags, s.addr, s.size, s.align, s.entsize].map (ival .u64)).toArray) := Lib.hid ((blk2 rfl).2.1)
          have hga : Grow wr ((wr.alloc (.cells #[.int .u32 (s.name : Nat), .int .u32 (s.typ : Nat), .int .u64 (s.flags : Nat), .int .u64 (s.addr : Nat), .int .u64 (s.size : Nat), .int .u32 (s.link : Nat), .int .u32 (s.info : Nat), .int .u64 (s.align : Nat), .int .u64 (s.entsize : Nat), .int .i64 s.pl.inn, .int .u64 (s.pl.off : Nat), .int .u64 (s.pl.size : Nat), .slice Ak nk ck] 56)).alloc (.cells #[.int .u64 (s.flags : Nat), .int .u64 (s.addr : Nat), .int .u64 (s.size : Nat), .int .u64 (s.align : Nat), .int .u64 (s.entsize : Nat)] 28)) := (blk2 rfl).2.2
          have HO3 := Lib.hid (HO.out.keep hga)
          have HG3 : Hid (Below (w.heap.size + 1) wo ((wr.alloc (.cells #[.int .u32 (s.name : Nat), .int .u32 (s.typ : Nat), .int .u64 (s.flags : Nat), .int .u64 (s.addr : Nat), .int .u64 (s.size : Nat), .int .u32 (s.link : Nat), .int .u32 (s.info : Nat), .int .u64 (s.align : Nat), .int .u64 (s.entsize : Nat), .int .i64 s.pl.inn, .int .u64 (s.pl.off : Nat), .int .u64 (s.pl.size : Nat), .slice Ak nk ck] 56)).alloc (.cells #[.int .u64 (s.flags : Nat), .int .u64 (s.addr : Nat), .int .u64 (s.size : Nat), .int .u64 (s.align : Nat), .int .u64 (s.entsize : Nat)] 28))) := HG.out.trans (hga.mono HSz.out)
          have HS3 : Hid (w.heap.size + 1 ≤ ((wr.alloc (.cells #[.int .u32 (s.name : Nat), .int .u32 (s.typ : Nat), .int .u64 (s.flags : Nat), .int .u64 (s.addr : Nat), .int .u64 (s.size : Nat), .int .u32 (s.link : Nat), .int .u32 (s.info : Nat), .int .u64 (s.align : Nat), .int .u64 (s.entsize : Nat), .int .i64 s.pl.inn, .int .u64 (s.pl.off : Nat), .int .u64 (s.pl.size : Nat), .slice Ak nk ck] 56)).alloc (.cells #[.int .u64 (s.flags : Nat), .int .u64 (s.addr : Nat), .int .u64 (s.size : Nat), .int .u64 (s.align : Nat), .int .u64 (s.entsize : Nat)] 28)).heap.size) := Nat.le_trans HSz.out hga.size
          have HE : Hid ((en :: (L1.flatMap Sg.nums ++ (L2.take (k + 1)).flatMap Se.nums)) = (en :: (L1.flatMap Sg.nums ++ (L2.take k).flatMap Se.nums)) ++ [s.flags, s.addr, s.size, s.align, s.entsize]) := Lib.hid (by rw [HT.out]; simp [Se.nums])
          clear hga HT HO HG
          go_wp2_with (refine wpList_appendM ((wr.alloc (.cells #[.int .u32 (s.name : Nat), .int .u32 (s.typ : Nat), .int .u64 (s.flags : Nat), .int .u64 (s.addr : Nat), .int .u64 (s.size : Nat), .int .u32 (s.link : Nat), .int .u32 (s.info : Nat), .int .u64 (s.align : Nat), .int .u64 (s.entsize : Nat), .int .i64 s.pl.inn, .int .u64 (s.pl.off : Nat), .int .u64 (s.pl.size : Nat), .slice Ak nk ck] 56)).alloc (.cells #[.int .u64 (s.flags : Nat), .int .u64 (s.addr : Nat), .int .u64 (s.size : Nat), .int .u64 (s.align : Nat), .int .u64 (s.entsize : Nat)] 28)) rfl (.tmp 38) (.tmp 49) 35 rfl (w.heap.size + 1) 28 .u64 8 Try.underlying35 (by kernel_rfl) A _ c _ rfl HO3.out (wr.heap.size + 1) _ 5 [s.flags, s.addr, s.size, s.align, s.entsize] rfl rfl HBR.out (by omega) (by unfold maxLen; omega) (by omega) HS3.out ?_; intro A5 c5 w6 ho5 hb5; refine Hid.out ?_)
          have HG6 : Hid (Below (w.heap.size + 1) wo w6) := HG3.out.trans hb5
          have HS6 : Hid (w.heap.size + 1 ≤ w6.heap.size) := Nat.le_trans HS3.out hb5.size
          have HO6 : Hid (ON w6 (w.heap.size + 1) 28 .u64 A5 ((1 + 4 * n1 + 5 * k) + 5) c5 ((en :: (L1.flatMap Sg.nums ++ (L2.take (k + 1)).flatMap Se.nums)))) := by
            rw [HE.out]
            exact ho5
          have e9 : (1 + 4 * n1 + 5 * (k + 1)) = (1 + 4 * n1 + 5 * k) + 5 := by omega
          clear ho5 hb5 HBR HO3 HG3 HS3 t0 t1 t2 t3 t4 t5 t6 t7 t8 t9 t10 t11 t12
          refine Lib.hid ?_
          go_wp2
          go_roundw
          case rel => exact ⟨k + 1, A5, c5, by omega, by go_num, by rw [e9], by rw [e9]; exact HO6.out, HG6.out, HS6.out⟩
          case measure => simp [intOf]; omega
        · obtain rfl : n2 = k := by omega
          have HO4 : Hid (ON wr (w.heap.size + 1) 28 .u64 A (1 + 4 * n1 + 5 * n2) c LN) := by
            have : L2.take n2 = L2 := by rw [List.take_of_length_le (by have := HZ2L.out; omega)]
            have h := HO.out
            rw [this, ← EN.out] at h
            exact h
          have hB := HB1.out.below (HG2.out.trans HG.out) (Nat.lt_succ_self _)
          have y0 := hB.at 0
          have y1 := hB.at 1
          have HGq : Hid (Grow w wr) := HG0.out.trans' ((HG2.out.trans HG.out).mono (Nat.le_succ _))
          clear hB HO HG HSz HG2
          go_wp2_with fail
          clear y0 y1
          refine (HWd.out _).mono ?_
          rintro e w2 ⟨rfl, hg2⟩
          have HBn := Lib.hid (Blk.new w2 3 #[.int .i64 (byWide wide 4 8 : Nat)])
          have hga := Grow.of_alloc w2 (.cells #[.int .i64 (byWide wide 4 8 : Nat)] 3)
          have HO5 := Lib.hid ((HO4.out.keep (hg2.trans hga)).ns)
          have HG5 : Hid (Grow w (w2.alloc (.cells #[.int .i64 (byWide wide 4 8 : Nat)] 3))) := HGq.out.trans (hg2.trans hga)
          have HH := Lib.hid (hasN_any wide A _ c LN w2.heap.size _ _ HO5.out HLt.out (HBn.out.at 0))
          clear hg2 hga HO4 HGq HBn HO5
          unfold fitF at HH
          rw [← E.out] at HH
          go_wp2_with fail
          refine HH.out.mono ?_
          rintro e w3 ⟨rfl, rfl⟩
          go_wp2
          go_ret
          exact ⟨ret_bool (by simp), HG5.out⟩
end Go.Proofs.Ythebemikhjglbaa
