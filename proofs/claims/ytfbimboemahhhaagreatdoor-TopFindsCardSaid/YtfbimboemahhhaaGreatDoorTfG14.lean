/-
  Several texts in one: The contract of sect; A file's bytes, as plain data; Plain words of layer 8; The contract of the helper Pick.
-/
import Derived.Test.YtfbimboemahhhaaGreatDoorTfG7
import Derived.Test.YtfbimboemahhhaaGreatDoorTfG13
import Derived.Test.YtfbimboemahhhaaGreatDoorTfG12
import Derived.Test.YtfbimboemahhhaaGreatDoorTfG10
import Derived.Test.YtfbimboemahhhaaGreatDoorTfG4
import Derived.Test.YtfbimboemahhhaaGreatDoorTfG11
namespace Go.Proofs.YtfbimboemahhhaaGreatDoor
open Go.Lib (hid)
open Go.RowKit
theorem Blk.belowS {w W : World} {g B : Nat} {t : TypeId} {cs : Array Value} (h : Blk w g t cs) (hb : Below B w W) (hg : g < B) : Blk W g t cs := by rw [Blk, hb.block g hg]; exact h
def Sc.Q (p : Sc) (wide : Bool) : List (Nat × Nat) := p.N.zip (sRow wide)
def Sc.L (p : Sc) (wide big : Bool) : List UInt8 := rowB big (p.Q wide)
theorem Sc.lenN (p : Sc) : p.N.length = 10 := rfl
theorem Sc.lenQ (p : Sc) (wide : Bool) : (p.Q wide).length = 10 := by rw [Sc.Q, List.length_zip, len_sRow]; rfl
theorem Sc.fstQ (p : Sc) (wide : Bool) : (p.Q wide).map (·.1) = p.N := List.map_fst_zip (by rw [len_sRow]; exact Nat.le_refl _)
theorem Sc.sndQ (p : Sc) (wide : Bool) : (p.Q wide).map (·.2) = sRow wide := List.map_snd_zip (by rw [len_sRow]; exact Nat.le_refl _)
theorem Sc.lenL (p : Sc) (wide big : Bool) : (p.L wide big).length = sSize wide := by
 rw [Sc.L, length_rowB, ← sum_sRow, Sc.sndQ]
theorem Sc.atN (p : Sc) (ok : p.Ok) (i : Nat) : p.N.getD i 0 < 18446744073709551616 := by
 obtain ⟨k1, k2, k3, k4, k5, k6, k7, k8, k9, k10⟩ := ok
 match i with
 | 0 => show p.na < _; omega
 | 1 => show p.ty < _; omega
 | 2 => show p.fl < _; omega
 | 3 => show p.ad < _; omega
 | 4 => show p.off < _; omega
 | 5 => show p.sz < _; omega
 | 6 => show p.li < _; omega
 | 7 => show p.inf < _; omega
 | 8 => show p.al < _; omega
 | 9 => show p.en < _; omega
 | _ + 10 => show 0 < _; omega
theorem Sc.atQ (p : Sc) (wide : Bool) (k : Nat) (h : k < (p.Q wide).length) : (p.Q wide)[k].1 = p.N.getD k 0 ∧ (p.Q wide)[k].2 = sWid wide k := by
 have hk : k < 10 := by rw [p.lenQ] at h; exact h
 simp only [Sc.Q, List.getElem_zip]
 constructor
 ·rw [List.getD_eq_getElem?_getD, List.getElem?_eq_getElem (by rw [p.lenN]; exact hk)]; rfl
 ·rw [← sRow_at wide k hk, List.getD_eq_getElem?_getD, List.getElem?_eq_getElem (by rw [len_sRow]; exact hk)]; rfl
theorem Sc.rowed (p : Sc) (ok : p.Ok) (wide : Bool) : Rowed (p.Q wide) :=
 ⟨by rw [p.lenQ]; omega, fun k hk => by rw [(p.atQ wide k hk).2]; exact sWid_wid _ _, fun k hk => by rw [(p.atQ wide k hk).1]; exact p.atN ok _⟩
theorem makeS (wide : Bool) (w : World) : (Instr.makeSlice 29 (.int .i64 0) (.int .i64 (sSize wide : Nat))).run Tryz.prog w = .ok (.slice (some ⟨w.heap.size, 0, none⟩) 0 (sSize wide))
  (w.alloc (.cells (Array.replicate (sSize wide) (.int .u8 0)) 5)) := by cases wide <;> kernel_rfl
def SPut (p : Sc) (wide big : Bool) (w : World) (e : Ending) (w' : World) : Prop :=
 (rowF (p.Q wide) = true ∧ ∃ A c, e = .returned (.tuple #[.slice A (p.L wide big).length c, .nilIface]) ∧ OB w' w.heap.size 5 A (p.L wide big).length c (p.L wide big) ∧ Grow w w') ∨
 (rowF (p.Q wide) = false ∧ e = .returned (.tuple #[.slice none 0 0, .iface 86 (.int .i64 1)]) ∧ Grow w w')
set_option maxHeartbeats 400000 in
theorem sPut_any (p : Sc) (ok : p.Ok) (wide big : Bool) (w : World) : Calls Tryz.prog 80 #[p.V, .agg #[.bool wide, .bool big]] w (SPut p wide big w) := by
 have HR := hid (p.rowed ok wide)
 have HN := hid (fun w => sNum_any p ok w)
 have HSz := hid (fun w => sSize_any wide big w)
 have HWi := hid (fun i w => sWid_any wide big i w)
 have HLQ := hid (p.lenQ wide)
 have HMk := hid (makeS wide)
 have HSp : Hid (sSize wide ≤ 64) := by cases wide <;> exact hid (by decide)
 have HAN : Hid (∀ i, i < 10 → (u64s p.N)[i]? = some (.int .u64 (p.N.getD i 0 : Nat))) := hid (fun i hi => idx_u64s _ _ hi)
 have HAQ := hid (p.atQ wide)
 have HC1 : Hid (p.C.size = 10) := hid rfl
 unfold SPut Sc.L
 unfold Sc.V
 generalize p.Q wide = q at HR HLQ HAQ ⊢
 generalize u64s p.N = RN at HN HAN
 generalize p.N = pn at HAN HAQ
 unfold Sc.V at HN
 generalize p.C = C at HN HC1 ⊢
 generalize sSize wide = sz at HSz HMk HSp
 go_enter Tryz.func80, Tryz.ntmps80
 go_wp2_with fail
 generalize hW : World.alloc _ _ = W0
 obtain ⟨b1, bf, hg0⟩ := blk2 hW
 clear hW
 refine (HSz.out W0).mono ?_
 rintro e w1 ⟨rfl, hg1⟩
 have HB1 := hid (b1.grow hg1)
 have HBF1 := hid (bf.grow hg1)
 have HG1 : Hid (Grow w w1) := hg0.trans hg1
 clear b1 bf hg0 hg1
 have hmk := HMk.out w1
 have HB2 := hid (HB1.out.alloc (.cells (Array.replicate sz (.int .u8 0)) 5))
 go_wp2_with (refine wpList_load_row rfl 172 (.tmp 2) rfl w.heap.size rfl _ C (0, 0) _ HB2.out Tryz.underlying172 rfl (by rw [HC1.out]; kernel_rfl) ?_)
 clear hmk HMk
 refine (HN.out _).mono ?_
 rintro e w3 ⟨rfl, hg3⟩
 have HO3 := hid ((OB.room w1 w1.heap.size 5 sz (.int .u8 0) (by have := HSp.out; unfold maxLen; omega) (Nat.le_refl _)).keep hg3)
 have HBF3 := hid ((HBF1.out.alloc _).grow hg3)
 have HG3 : Hid (Grow w w3) := (HG1.out.trans (Grow.of_alloc _ _)).trans hg3
 have HD : Hid (w.heap.size + 1 < w1.heap.size) := HBF1.out.lt
 have HDs : Hid (w1.heap.size ≤ w3.heap.size) := by have := hg3.size; simp at this; exact hid (by omega)
 generalize w1.heap.size = g7 at HO3 HD HDs ⊢
 clear hg3 HG1 HBF1 HB1 HB2
 go_wp2_with fail
 go_loopw [6, 15] (fun x i wr => ∃ (k : Nat) (A : Option Addr) (c : Nat), k ≤ 10 ∧ i = .int .i64 k ∧ x = .slice A (rowB big (q.take k)).length c ∧ OB wr g7 5 A (rowB big (q.take k)).length c (rowB big (q.take k)) ∧
  Blk wr (w.heap.size + 1) 23 #[.bool wide, .bool big] ∧ rowF (q.take k) = true ∧ Grow w wr ∧ g7 ≤ wr.heap.size) (fun _ i _ => 10 - (intOf i).toNat)
 case atStart => exact ⟨0, some ⟨g7, 0, none⟩, sz, by omega, rfl, rfl, HO3.out, HBF3.out, rfl, HG3.out, HDs.out⟩
 case round =>
  obtain ⟨k, A, c, hk, rfl, rfl, ho, hbf, hrf, hg, hgs⟩ := hrel
  have HO := hid ho
  have HBF := hid hbf
  have HRF := hid hrf
  have HG := hid hg
  have HGs := hid hgs
  clear ho hbf hrf hg hgs HO3 HBF3 HG3 HDs
  by_cases hlt : k < 10
  ·have hkq : k < q.length := by rw [HLQ.out]; exact hlt
   have HB := hid (rowB_succ big q k hkq)
   have HF := hid (rowF_succ q k hkq)
   have HW := hid (HR.out.wide k hkq)
   have HZ := hid (fun h => rowF_false hkq h)
   have HLE := hid (rowB_le HR.out big k (by omega))
   have hv := HR.out.lt k hkq
   have hw8 := HR.out.wide8 k hkq
   have HK1 := hid (HAN.out k hlt)
   obtain ⟨e1, e2⟩ := HAQ.out k hkq
   rw [HRF.out, Bool.true_and] at HF
   rw [← e1] at HK1
   have HW2 := hid (fun w => HWi.out k w)
   rw [← e2] at HW2
   clear e1 e2
   generalize q[k].1 = v at HB HF HZ hv HK1
   generalize q[k].2 = m at HB HF HZ HW hw8 HW2
   obtain ⟨y0, y1⟩ := HBF.out.c2
   clear hkq
   go_wp2_with (refine wpList_index rfl 231 37 (.tmp 14) (.tmp 15) rfl 10 _ Tryz.underlying231 Tryz.underlying37 rfl (by kernel_rfl) RN k (.int .u64 (v : Int)) rfl rfl hlt HK1.out ?_)
   clear y0 y1
   refine (HW2.out _).mono ?_
   rintro e w4 ⟨rfl, hg4⟩
   have HO4 := hid (HO.out.keep hg4)
   have HBF4 := hid (HBF.out.grow hg4)
   have HG4 : Hid (Grow w w4) := HG.out.trans hg4
   have HGs4 : Hid (g7 ≤ w4.heap.size) := Nat.le_trans HGs.out hg4.size
   clear hg4 HO HBF HG HGs
   go_wp2_with fail
   refine (fits_any v m _ (by omega) (by omega)).mono ?_
   rintro e w5 ⟨rfl, rfl⟩
   rw [fits_row v m HW.out]
   cases hfit : decide (v < 256 ^ m)
   ·have HZ2 := hid (HZ.out hfit)
    clear hfit
    go_wp2
    go_ret2
    exact .inr ⟨HZ2.out, rfl, HG4.out⟩
   ·rw [hfit] at HF
    clear hfit HZ
    obtain ⟨y0, y1⟩ := HBF4.out.c2
    go_wp2_with fail
    clear y0 y1
    refine (put_wide v m big _ HW.out (by omega)).mono ?_
    rintro e w7 ⟨A3, c3, rfl, ho3, hb3⟩
    have HO7 := hid (HO4.out.keep hb3)
    have HO3 := hid ho3
    have HBF7 := hid (HBF4.out.grow hb3)
    have HG7 : Hid (Grow w w7) := HG4.out.trans hb3
    have HGs7 : Hid (g7 ≤ w7.heap.size) := Nat.le_trans HGs4.out hb3.size
    clear ho3 hb3 HO4 HBF4 HG4 HGs4
    rw [Int.toNat_natCast] at HO3
    have HS : Hid (w.heap.size ≤ g7) := by have := HD.out; exact hid (by omega)
    go_wp2_with (refine wpList_appendB w7 rfl (.tmp 27) (.tmp 32) 29 rfl g7 5 Tryz.underlying29 (by kernel_rfl) A _ c _ rfl HO7.out w7.heap.size A3 m c3 _ rfl HO3.out.rb (by have := HLE.out; omega) HGs7.out ?_; intro A5 c5 w8 ho5 hb5)
    have HBF8 := hid (HBF7.out.belowS hb5 HD.out)
    have HG8 : Hid (Grow w w8) := HG7.out.trans' (hb5.mono HS.out)
    have HGs8 : Hid (g7 ≤ w8.heap.size) := Nat.le_trans HGs7.out hb5.size
    rw [← HB.out] at ho5
    have hm : (rowB big (q.take k)).length + m = (rowB big (q.take (k + 1))).length := by rw [HB.out, List.length_append, length_putB]
    rw [hm] at ho5 ⊢
    have HO5 := hid ho5
    clear ho5 hb5 hm HO3 HO7 HG7 HBF7 HGs7
    go_roundw
    case rel => exact ⟨k + 1, A5, c5, by omega, by go_num, rfl, HO5.out, HBF8.out, HF.out, HG8.out, HGs8.out⟩
    case measure => simp [intOf]; omega
  ·have HK : Hid (q.take k = q) := by
    have e : k = q.length := by rw [HLQ.out]; omega
    rw [e]
    exact List.take_length
   rw [HK.out] at HO HRF ⊢
   have HO' := hid (HO.out.mono (base' := w.heap.size) (by have := HD.out; omega))
   go_wp2
   go_ret2
   exact .inl ⟨HRF.out, A, c, rfl, HO'.out, HG.out⟩
set_option linter.unusedVariables false
namespace Md
variable (m : Md)
def hd : Hd := ⟨m.wide, m.big, UInt8.ofNat m.osabi, UInt8.ofNat m.abi, m.typ, m.mach, m.entry, m.phoff, m.shoff, m.flags, m.segs.length, if 0 < m.secs.length then m.secs.length + 1 else 0, m.str.toNat⟩
def pg (k : Nat) : Pg := ⟨(m.sg k).typ, (m.sg k).flags, m.P2 k, (m.sg k).vaddr, (m.sg k).paddr, (m.sg k).pl.size, (m.sg k).memsz, (m.sg k).align⟩
def sc (k : Nat) : Sc := ⟨(m.se k).name, (m.se k).typ, (m.se k).flags, (m.se k).addr, m.P3 k, (m.se k).size, (m.se k).link, (m.se k).info, (m.se k).align, (m.se k).entsize⟩
end Md
structure Good (m : Md) : Prop where
 ok : m.Ok
 plan : m.planC = 0
 own1 : ∀ s ∈ m.segs, s.pl.own.length ≤ maxLen
 own2 : ∀ s ∈ m.secs, s.pl.own.length ≤ maxLen
section
variable {m : Md}
theorem Good.planned (h : Good m) : Planned m := planned_of h.ok h.plan h.own1 h.own2
theorem Good.chk (h : Good m) : m.chk = 0 := by
 have := h.plan
 unfold Md.planC at this
 split at this
 ·omega
 ·omega
theorem Good.eT (h : Good m) : m.eT ≤ 65536 := h.planned.fits
theorem Good.n1 (h : Good m) : m.segs.length ≤ 16 := h.planned.ok.n1
theorem Good.n2 (h : Good m) : m.secs.length ≤ 64 := h.planned.ok.n2
theorem Good.fits (h : Good m) : m.fits = true := by
 have := h.chk
 unfold Md.chk at this
 split at this
 ·omega
 split at this
 ·omega
 ·rename_i h1
  simpa using h1
theorem Good.nums (h : Good m) : ∀ v ∈ m.nums, v < 256 ^ byWide m.wide 4 8 := fun v hv => by
 have := List.all_eq_true.1 h.fits v hv
 unfold fitW at this
 simpa using this
theorem Good.entry (h : Good m) : m.entry < 256 ^ byWide m.wide 4 8 := h.nums _ (by simp [Md.nums])
theorem Good.segNum (h : Good m) {k : Nat} (hk : k < m.segs.length) : ∀ v ∈ (m.sg k).nums, v < 256 ^ byWide m.wide 4 8 := fun v hv => h.nums _ (by
 unfold Md.nums
 exact List.mem_cons_of_mem _ (List.mem_append_left _ (List.mem_flatMap.2 ⟨_, m.sg_mem hk, hv⟩)))
theorem Good.secNum (h : Good m) {k : Nat} (hk : k < m.secs.length) : ∀ v ∈ (m.se k).nums, v < 256 ^ byWide m.wide 4 8 := fun v hv => h.nums _ (by
 unfold Md.nums
 exact List.mem_cons_of_mem _ (List.mem_append_right _ (List.mem_flatMap.2 ⟨_, m.se_mem hk, hv⟩)))
theorem Good.segMay (h : Good m) {k : Nat} (hk : k < m.segs.length) : m.may (m.sg k).pl = true := Md.segC_may ((Md.chk_zero h.chk).1 _ (m.sg_mem hk))
theorem Good.secMay (h : Good m) {k : Nat} (hk : k < m.secs.length) : m.may (m.se k).pl = true ∧ (m.se k).pl.size = (m.se k).held := Md.secC_zero ((Md.chk_zero h.chk).2.2 _ (m.se_mem hk))
theorem Good.str (h : Good m) : 0 ≤ m.str ∧ m.str ≤ m.secs.length := by
 have hc := h.chk
 unfold Md.chk at hc
 split at hc
 ·omega
 split at hc
 ·omega
 split at hc
 ·omega
 split at hc
 ·omega
 ·unfold Md.namesC at hc
  split at hc
  ·omega
  split at hc
  ·omega
  ·omega
theorem may_own_len {p : Pl} (h : m.may p = true) (hi : p.inn = -1) : p.off = 0 ∧ p.own.length = p.size := by
 rw [may_own hi] at h
 unfold Pl.ownMay at h
 simp at h
 exact ⟨h.1, h.2.symm⟩
theorem may_in_is {p : Pl} (h : m.may p = true) (hi : p.inn ≠ -1) : p.own = [] ∧ 0 < p.size ∧ ∃ i : Nat, p.inn = (i : Int) ∧ i < m.segs.length ∧ (m.sg i).typ = 1 ∧ p.off + p.size ≤ (m.sg i).pl.own.length := by
 rw [may_in hi] at h
 simp only [Bool.and_eq_true, decide_eq_true_eq] at h
 obtain ⟨⟨h1, h2⟩, h3⟩ := h
 obtain ⟨i, hi, hil⟩ := isSegN_true h1
 rw [hi, m.seg_sg] at h2 h3
 unfold Pl.inMay Pl.within at h3
 simp at h3
 exact ⟨h3.1.1, h3.1.2, i, hi, hil, h2, h3.2⟩
theorem Good.load_len (h : Good m) {k : Nat} (hk : k < m.segs.length) (ht : (m.sg k).typ = 1) : (m.sg k).pl.inn = -1 ∧ (m.sg k).pl.own.length = (m.sg k).pl.size := by
 have a := h.planned.load k hk ht
 exact ⟨a, (may_own_len (h.segMay hk) a).2⟩
theorem Good.seg_at (h : Good m) {k : Nat} (hk : k < m.segs.length) : m.P2 k + (m.sg k).pl.size ≤ m.eT ∧ (m.sg k).pl.own.length ≤ (m.sg k).pl.size ∧ ((m.sg k).pl.own ≠ [] → (m.sg k).pl.inn = -1) := by
 have P := h.planned
 have ho := P.order
 by_cases hi : (m.sg k).pl.inn = -1
 ·have hl := (may_own_len (h.segMay hk) hi).2
  refine ⟨?_, by omega, fun _ => hi⟩
  by_cases ht : (m.sg k).typ = 1
  ·have a := P.load_at hk ht
   have b := P.eL_in (k := k + 1) hk
   omega
  ·have a := P.other_at hk ht hi
   have b := P.eO_in (k := k + 1) hk
   omega
 ·obtain ⟨q1, q2, i, q3, q4, q5, q6⟩ := may_in_is (h.segMay hk) hi
  obtain ⟨_, i', r1, r2, r3, r4⟩ := P.seg_in hk hi
  have e : i = i' := by omega
  subst e
  have a := P.load_at q4 q5
  have b := P.eL_in (k := i + 1) q4
  have c := h.load_len q4 q5
  refine ⟨by omega, by rw [q1]; simp, fun hne => absurd q1 hne⟩
theorem Good.sec_at (h : Good m) {k : Nat} (hk : k < m.secs.length) : m.P3 k + (m.se k).pl.size ≤ m.eT ∧ (m.se k).pl.own.length ≤ (m.se k).pl.size ∧ ((m.se k).pl.own ≠ [] → (m.se k).pl.inn = -1) := by
 have P := h.planned
 have ho := P.order
 by_cases hi : (m.se k).pl.inn = -1
 ·have hl := (may_own_len (h.secMay hk).1 hi).2
  refine ⟨?_, by omega, fun _ => hi⟩
  have a := P.sec_at hk hi
  have b : m.eS (k + 1) ≤ m.eS m.secs.length := mono_of (m.eS_step P.ok.n1) hk
  omega
 ·obtain ⟨q1, q2, i, q3, q4, q5, q6⟩ := may_in_is (h.secMay hk).1 hi
  obtain ⟨i', r1, r2, r3, r4⟩ := P.sec_in hk hi
  have e : i = i' := by omega
  subst e
  have a := P.load_at q4 q5
  have b := P.eL_in (k := i + 1) q4
  have c := h.load_len q4 q5
  refine ⟨by omega, by rw [q1]; simp, fun hne => absurd q1 hne⟩
theorem pow48 (wide : Bool) : 4294967296 ≤ 256 ^ byWide wide 4 8 ∧ 256 ^ byWide wide 4 8 ≤ 18446744073709551616 := by cases wide <;> decide
theorem Good.phoff_le (h : Good m) : m.phoff ≤ 64 := by
 unfold Md.phoff hSize byWide
 split
 ·split <;> omega
 ·omega
theorem Good.shoff_le (h : Good m) : m.shoff ≤ 65536 := by
 have hf := h.eT
 unfold Md.shoff
 split
 ·rename_i h0
  have e : m.eT = fin (m.eS m.secs.length) 0 8 (byWide m.wide 40 64 * (m.secs.length + 1)) := by unfold Md.eT; rw [if_pos h0]
  have hin := fin_in (e := m.eS m.secs.length) (v := 0) (a := 8) (n := byWide m.wide 40 64 * (m.secs.length + 1)) (by rw [← e]; exact hf)
  omega
 ·omega
theorem u8_of (x : Nat) (h : x < 256) : (UInt8.ofNat x).toNat = x := by rw [UInt8.toNat_ofNat', Nat.mod_eq_of_lt h]
theorem Good.hdOk (h : Good m) : m.hd.Ok := by
 have h1 := h.phoff_le
 have h2 := h.shoff_le
 have h3 := h.n1
 have h4 := h.n2
 have h5 := h.str
 refine ⟨h.ok.typ, h.ok.mach, h.ok.entry, ?_, ?_, h.ok.flags, ?_, ?_, ?_⟩
 ·show m.phoff < _; omega
 ·show m.shoff < _; omega
 ·show m.segs.length < _; omega
 ·show (if 0 < m.secs.length then m.secs.length + 1 else 0) < _; split <;> omega
 ·show m.str.toNat < _; omega
theorem Good.hdFits (h : Good m) : rowF m.hd.Q = true := by
 have h1 := h.phoff_le
 have h2 := h.shoff_le
 have h3 := h.n1
 have h4 := h.n2
 have h5 := h.str
 have h6 := h.entry
 have h7 := pow48 m.wide
 have ok := h.hdOk
 have k1 : hSize m.wide ≤ 64 := hSize_le _
 have k2 := ifSome_le ((m.hd.pn : Int) != 0) (byWide m.wide 32 56)
 have k3 := ifSome_le ((m.hd.sh : Int) != 0) (byWide m.wide 40 64)
 have k4 : byWide m.wide 32 56 ≤ 56 := by unfold byWide; split <;> omega
 have k5 : byWide m.wide 40 64 ≤ 64 := by unfold byWide; split <;> omega
 have e1 : (256 : Nat) ^ 2 = 65536 := by decide
 have e2 : (256 : Nat) ^ 4 = 4294967296 := by decide
 have p1 : m.hd.ph ≤ 64 := h1
 have p2 : m.hd.sh ≤ 65536 := h2
 have p3 : m.hd.en < 256 ^ byWide m.wide 4 8 := h6
 have ew : m.hd.wide = m.wide := rfl
 obtain ⟨o1, o2, o3, o4, o5, o6, o7, o8, o9⟩ := ok
 unfold Hd.Q Hd.N hRow
 rw [ew]
 generalize m.hd = H at *
 simp only [List.zip_cons_cons, List.zip_nil_right, rowF, Bool.and_true, Bool.and_eq_true, decide_eq_true_eq, e1, e2]
 generalize 256 ^ byWide m.wide 4 8 = W at *
 omega
end
end Go.Proofs.YtfbimboemahhhaaGreatDoor
namespace Go.Proofs.YtfbimboemahhhaaGreatDoor
open Go.Lib (hid)
open Go.RowKit
structure Sy where
 na : Nat
 inf : Nat
 oth : Nat
 shn : Nat
 val : Nat
 siz : Nat
structure Sy.Ok (p : Sy) : Prop where
 na : p.na < 4294967296
 inf : p.inf < 256
 oth : p.oth < 256
 shn : p.shn < 65536
 val : p.val < 18446744073709551616
 siz : p.siz < 18446744073709551616
def Sy.C (p : Sy) : Array Value := #[.int .u32 (p.na : Int), .int .u8 (p.inf : Int), .int .u8 (p.oth : Int), .int .u16 (p.shn : Int), .int .u64 (p.val : Int), .int .u64 (p.siz : Int)]
def Sy.V (p : Sy) : Value := .agg p.C
def sy0 : Sy := ⟨0, 0, 0, 0, 0, 0⟩
def Sy.N (p : Sy) : List Nat := [p.na, p.inf, p.oth, p.shn, p.val, p.siz]
def ySize (wide : Bool) : Nat := byWide wide 16 24
def yOrd (wide : Bool) : List Nat := if wide then [0, 1, 2, 3, 4, 5] else [0, 4, 5, 1, 2, 3]
def yWid (wide : Bool) (i : Nat) : Nat := if ((i : Int) == 1) || ((i : Int) == 2) then 1 else if (i : Int) == 3 then 2 else if (i : Int) == 0 then 4 else byWide wide 4 8
def yRow (wide : Bool) : List Nat := (yOrd wide).map (yWid wide)
theorem Sy.one (p : Sy) : p.C.all (·.oneCell') = true := by simp [Sy.C, Value.oneCell']
theorem Sy.sz (p : Sy) : p.C.size = 6 := rfl
theorem len_yOrd (wide : Bool) : (yOrd wide).length = 6 := by cases wide <;> rfl
theorem len_yRow (wide : Bool) : (yRow wide).length = 6 := by cases wide <;> rfl
theorem sum_yRow (wide : Bool) : sumN (yRow wide) = ySize wide := by cases wide <;> rfl
theorem ySize_pos (wide : Bool) : 0 < ySize wide := by cases wide <;> decide
theorem ySize_le (wide : Bool) : ySize wide ≤ 24 := by cases wide <;> decide
theorem yOrd_lt (wide : Bool) (k : Nat) (h : k < 6) : (yOrd wide).getD k 0 < 6 := by
 cases wide <;> (match k, h with
  | 0, _ => decide
  | 1, _ => decide
  | 2, _ => decide
  | 3, _ => decide
  | 4, _ => decide
  | 5, _ => decide)
theorem yWid_8 (wide : Bool) (i : Nat) : yWid wide i ≤ 8 := by
 unfold yWid
 split
 ·omega
 ·split
  ·omega
  ·split
   ·omega
   ·cases wide <;> decide
theorem yOrd_all (wide : Bool) (i : Nat) (h : i < 6) : i ∈ yOrd wide := by
 cases wide <;> (match i, h with
  | 0, _ => decide
  | 1, _ => decide
  | 2, _ => decide
  | 3, _ => decide
  | 4, _ => decide
  | 5, _ => decide)
def Sy.Q (p : Sy) (wide : Bool) : List (Nat × Nat) := (yOrd wide).map fun i => (p.N.getD i 0, yWid wide i)
theorem Sy.lenQ (p : Sy) (wide : Bool) : (p.Q wide).length = 6 := by simp [Sy.Q, len_yOrd]
theorem Sy.sndQ (p : Sy) (wide : Bool) : (p.Q wide).map (·.2) = yRow wide := by rw [Sy.Q, List.map_map]; rfl
theorem Sy.fstQ (p : Sy) (wide : Bool) : (p.Q wide).map (·.1) = (yOrd wide).map fun i => p.N.getD i 0 := by rw [Sy.Q, List.map_map]; rfl
theorem Sy.atN (p : Sy) (ok : p.Ok) (i : Nat) : p.N.getD i 0 < 18446744073709551616 := by
 obtain ⟨k1, k2, k3, k4, k5, k6⟩ := ok
 match i with
 | 0 => show p.na < _; omega
 | 1 => show p.inf < _; omega
 | 2 => show p.oth < _; omega
 | 3 => show p.shn < _; omega
 | 4 => show p.val < _; omega
 | 5 => show p.siz < _; omega
 | _ + 6 => show 0 < _; omega
theorem Sy.atQ (p : Sy) (wide : Bool) (k : Nat) (h : k < (p.Q wide).length) : (p.Q wide)[k].1 = p.N.getD ((yOrd wide).getD k 0) 0 ∧ (p.Q wide)[k].2 = yWid wide ((yOrd wide).getD k 0) := by
 have hk : k < (yOrd wide).length := by rw [p.lenQ] at h; rw [len_yOrd]; exact h
 simp only [Sy.Q, List.getElem_map]
 rw [List.getD_eq_getElem?_getD (l := yOrd wide), List.getElem?_eq_getElem hk]
 exact ⟨rfl, rfl⟩
theorem Sy.lenR (p : Sy) (wide big : Bool) : (rowB big (p.Q wide)).length = ySize wide := by rw [length_rowB, p.sndQ, sum_yRow]
def symQ (wide : Bool) (l : List Sy) : List (Nat × Nat) := l.flatMap (·.Q wide)
theorem symQ_len (wide : Bool) : ∀ l : List Sy, (symQ wide l).length = 6 * l.length
 | [] => rfl
 | s :: l => by
  have := symQ_len wide l
  simp only [symQ, List.flatMap_cons, List.length_append, s.lenQ, List.length_cons] at *
  omega
theorem symQ_at (wide : Bool) : ∀ (l : List Sy) (k : Nat) (h : k < l.length) (j : Nat), j < 6 → (symQ wide l)[6 * k + j]? = (l[k].Q wide)[j]?
 | [], _, h, _, _ => absurd h (by simp)
 | s :: l, 0, _, j, hj => by
  simp only [symQ, List.flatMap_cons, Nat.mul_zero, Nat.zero_add, List.getElem_cons_zero]
  rw [List.getElem?_append_left (by rw [s.lenQ]; exact hj)]
 | s :: l, k + 1, h, j, hj => by
  have ih := symQ_at wide l k (by simpa using h) j hj
  simp only [symQ, List.flatMap_cons, List.getElem_cons_succ] at *
  rw [List.getElem?_append_right (by rw [s.lenQ]; omega), ← ih, s.lenQ]
  congr 1
  omega
theorem symQ_get (wide : Bool) (l : List Sy) (k j : Nat) (h : k < l.length) (hj : j < 6) (hq : 6 * k + j < (symQ wide l).length) :
  (symQ wide l)[6 * k + j].1 = l[k].N.getD ((yOrd wide).getD j 0) 0 ∧ (symQ wide l)[6 * k + j].2 = yWid wide ((yOrd wide).getD j 0) := by
 have h1 := symQ_at wide l k h j hj
 have hj' : j < (l[k].Q wide).length := by rw [Sy.lenQ]; exact hj
 rw [List.getElem?_eq_getElem hq, List.getElem?_eq_getElem hj'] at h1
 injection h1 with h1
 rw [h1]
 exact l[k].atQ wide j hj'
theorem rowB_bound {q : List (Nat × Nat)} (h : ∀ k (h : k < q.length), q[k].2 ≤ 8) (big : Bool) : ∀ k, k ≤ q.length → (rowB big (q.take k)).length ≤ 8 * k
 | 0, _ => by simp [rowB]
 | k + 1, hk => by
  rw [rowB_succ big q k (by omega), List.length_append, length_putB]
  have := rowB_bound h big k (by omega)
  have := h k (by omega)
  omega
theorem symQ_8 (wide : Bool) (l : List Sy) (i : Nat) (h : i < (symQ wide l).length) : (symQ wide l)[i].2 ≤ 8 := by
 have hl := symQ_len wide l
 have e : i = 6 * (i / 6) + i % 6 := by omega
 have h1 : i / 6 < l.length := by omega
 have h2 : i % 6 < 6 := by omega
 have h3 : 6 * (i / 6) + i % 6 < (symQ wide l).length := by omega
 have := (symQ_get wide l (i / 6) (i % 6) h1 h2 h3).2
 have e2 : (symQ wide l)[i] = (symQ wide l)[6 * (i / 6) + i % 6] := by congr 1
 rw [e2, this]
 exact yWid_8 _ _
theorem symL_len (wide big : Bool) : ∀ l : List Sy, (rowB big (symQ wide l)).length = l.length * ySize wide
 | [] => by simp [symQ, rowB]
 | s :: l => by
  have := symL_len wide big l
  simp only [symQ, List.flatMap_cons, rowB_append, List.length_append, s.lenR, List.length_cons] at *
  rw [this, Nat.succ_mul]; omega
def laidInB (os ns : List Nat) (n k : Nat) : List Nat := (List.range n).map fun i => if i ∈ os.take k then ns.getD i 0 else 0
theorem laidIn_zeroB (os ns : List Nat) (n : Nat) : laidInB os ns n 0 = List.replicate n 0 := by
 apply List.ext_getElem?
 intro i
 by_cases h : i < n
 ·simp [laidInB, h]
 ·simp [laidInB, h]
theorem laidIn_succB {os ns : List Nat} {n k o v : Nat} (ho : os[k]? = some o) (hv : ns.getD o 0 = v) : (laidInB os ns n k).set o v = laidInB os ns n (k + 1) := by
 obtain ⟨hk, e⟩ := List.getElem?_eq_some_iff.1 ho
 apply List.ext_getElem?
 intro i
 rw [List.getElem?_set]
 simp only [laidInB, List.length_map, List.length_range, List.getElem?_map]
 rw [take_snoc_nat os k hk, e]
 by_cases h : i < n
 ·by_cases e2 : o = i
  ·subst e2
   rw [if_pos rfl, if_pos h, List.getElem?_range h]
   subst hv
   simp
  ·rw [if_neg e2, List.getElem?_range h]
   have e3 : ¬ i = o := fun h => e2 h.symm
   simp [e3]
 ·rw [List.getElem?_eq_none (by simp; omega)]
  by_cases e2 : o = i
  ·subst e2; rw [if_pos rfl, if_neg h]; rfl
  ·rw [if_neg e2]
   rfl
theorem laidIn_allB {os ns : List Nat} {n : Nat} (h : ∀ i, i < n → i ∈ os) (hn : ns.length = n) : laidInB os ns n os.length = ns := by
 apply List.ext_getElem?
 intro i
 by_cases hi : i < n
 ·have hm := h i hi
  simp [laidInB, hi, hm, show i < ns.length by omega]
 ·rw [List.getElem?_eq_none (by simp [laidInB]; omega), List.getElem?_eq_none (by omega)]
theorem len_laidInB (os ns : List Nat) (n k : Nat) : (laidInB os ns n k).length = n := by simp [laidInB]
def yX (l : List UInt8) (p : Nat) (wide big : Bool) : List Nat := nums l big p (yRow wide)
def syOf (l : List UInt8) (p : Nat) (wide big : Bool) : Sy :=
 if wide then ⟨(yX l p wide big).getD 0 0, (yX l p wide big).getD 1 0, (yX l p wide big).getD 2 0, (yX l p wide big).getD 3 0, (yX l p wide big).getD 4 0, (yX l p wide big).getD 5 0⟩
 else ⟨(yX l p wide big).getD 0 0, (yX l p wide big).getD 3 0, (yX l p wide big).getD 4 0, (yX l p wide big).getD 5 0, (yX l p wide big).getD 1 0, (yX l p wide big).getD 2 0⟩
theorem syOf_at (l : List UInt8) (p : Nat) (wide big : Bool) (k : Nat) (h : k < 6) : (syOf l p wide big).N.getD ((yOrd wide).getD k 0) 0 = (yX l p wide big).getD k 0 := by
 cases wide <;> (match k, h with
  | 0, _ => rfl
  | 1, _ => rfl
  | 2, _ => rfl
  | 3, _ => rfl
  | 4, _ => rfl
  | 5, _ => rfl)
theorem yX_lt (l : List UInt8) (p : Nat) (wide big : Bool) (k : Nat) (h : k < 6) : (yX l p wide big).getD k 0 < 256 ^ ((yRow wide).getD k 0) := by
 have h1 : k < (nums l big p (yRow wide)).length := by rw [length_nums, len_yRow]; exact h
 have := nums_lt l big (yRow wide) p k h1
 rw [yX, List.getD_eq_getElem?_getD, List.getElem?_eq_getElem h1]
 exact this
theorem syOf_ok (l : List UInt8) (p : Nat) (wide big : Bool) : (syOf l p wide big).Ok := by
 have h0 := yX_lt l p wide big 0 (by omega)
 have h1 := yX_lt l p wide big 1 (by omega)
 have h2 := yX_lt l p wide big 2 (by omega)
 have h3 := yX_lt l p wide big 3 (by omega)
 have h4 := yX_lt l p wide big 4 (by omega)
 have h5 := yX_lt l p wide big 5 (by omega)
 cases wide
 ·exact ⟨h0, h3, h4, h5, Nat.lt_trans h1 (by decide), Nat.lt_trans h2 (by decide)⟩
 ·exact ⟨h0, h1, h2, h3, h4, h5⟩
theorem nums_drop (l : List UInt8) (big : Bool) (p : Nat) : ∀ (r : List Nat) (q : Nat), nums (l.drop p) big q r = nums l big (p + q) r
 | [], _ => rfl
 | n :: r, q => by simp only [nums, List.drop_drop, nums_drop l big p r (q + n), Nat.add_assoc]
theorem nums_take (l : List UInt8) (big : Bool) (s : Nat) : ∀ (r : List Nat) (q : Nat), q + sumN r ≤ s → nums (l.take s) big q r = nums l big q r
 | [], _, _ => rfl
 | n :: r, q, h => by
  simp only [sumN] at h
  simp only [nums, nums_take l big s r (q + n) (by omega)]
  rw [List.drop_take, List.take_take, Nat.min_eq_left (by omega)]
theorem syOf_sub (l : List UInt8) (p : Nat) (wide big : Bool) : syOf ((l.drop p).take (ySize wide)) 0 wide big = syOf l p wide big := by
 have e : yX ((l.drop p).take (ySize wide)) 0 wide big = yX l p wide big := by
  unfold yX
  rw [nums_take _ _ _ _ _ (by rw [sum_yRow]; omega), nums_drop, Nat.add_zero]
 unfold syOf
 rw [e]
def symsTo (l : List UInt8) (wide big : Bool) (k : Nat) : List Sy := (List.range k).map fun i => syOf l (i * ySize wide) wide big
theorem symsTo_len (l : List UInt8) (wide big : Bool) (k : Nat) : (symsTo l wide big k).length = k := by simp [symsTo]
theorem symsTo_succ (l : List UInt8) (wide big : Bool) (k : Nat) : symsTo l wide big (k + 1) = symsTo l wide big k ++ [syOf l (k * ySize wide) wide big] := by
 simp [symsTo, List.range_succ]
def syms (l : List UInt8) (wide big : Bool) : List Sy := symsTo l wide big (l.length / ySize wide)
theorem syOf_put (s : Sy) (wide big : Bool) (pre post : List UInt8) (h : rowF (s.Q wide) = true) : syOf (pre ++ rowB big (s.Q wide) ++ post) pre.length wide big = s := by
 have e : yX (pre ++ rowB big (s.Q wide) ++ post) pre.length wide big = (yOrd wide).map fun i => s.N.getD i 0 := by
  have := nums_rowB big post (s.Q wide) pre h
  rw [s.sndQ, s.fstQ] at this
  exact this
 unfold syOf
 rw [e]
 cases wide <;> rfl
theorem syms_put (L : List Sy) (wide big : Bool) (h : rowF (symQ wide L) = true) : syms (rowB big (symQ wide L)) wide big = L := by
 have hl : (rowB big (symQ wide L)).length / ySize wide = L.length := by rw [symL_len]; exact Nat.mul_div_cancel _ (ySize_pos wide)
 rw [syms, hl]
 apply List.ext_getElem
 ·rw [symsTo_len]
 ·intro k h1 h2
  simp only [symsTo, List.getElem_map, List.getElem_range]
  have e : L = L.take k ++ L[k] :: L.drop (k + 1) := by rw [← List.drop_eq_getElem_cons h2]; exact (List.take_append_drop k L).symm
  have e2 : symQ wide L = symQ wide (L.take k) ++ (L[k].Q wide ++ symQ wide (L.drop (k + 1))) := by
   have : symQ wide (L.take k ++ L[k] :: L.drop (k + 1)) = symQ wide (L.take k) ++ (L[k].Q wide ++ symQ wide (L.drop (k + 1))) := by
    simp only [symQ, List.flatMap_append, List.flatMap_cons]
   rw [← e] at this
   exact this
  have hf : rowF (L[k].Q wide) = true := by
   rw [e2, rowF_append, rowF_append, Bool.and_eq_true, Bool.and_eq_true] at h
   exact h.2.1
  have hp : (rowB big (symQ wide (L.take k))).length = k * ySize wide := by rw [symL_len, List.length_take, Nat.min_eq_left (by omega)]
  rw [e2, rowB_append, rowB_append, ← List.append_assoc, ← hp]
  exact syOf_put _ wide big _ _ hf
end Go.Proofs.YtfbimboemahhhaaGreatDoor
namespace Go.Proofs.YtfbimboemahhhaaGreatDoor
open Go.Lib (hid)
open Go.RowKit
theorem pick_by (n : Int) (m : Nat) (w : World) (h0 : 0 < m) (h1 : m < 1000000) : Calls Tryz.prog 5 #[.int .i64 n, .int .i64 m] w fun r w' => ∃ k : Nat, k < m ∧ r = .returned (.int .i64 k) ∧ w = w' := by
 have k1 : -(m : Int) < n.tmod m := Int.lt_tmod_of_pos n (by omega)
 have k2 : n.tmod m < m := Int.tmod_lt_of_pos n (by omega)
 have hz : ((m : Int) == 0) = false := by simp; omega
 have hz1 : ¬ (m : Int) = -1 := by omega
 go_enter Tryz.func5, Tryz.ntmps5
 go_wp2
 ·go_ret
  exact ⟨(n.tmod m + m).toNat, by omega, ret_int (by omega), rfl⟩
 ·go_ret
  exact ⟨(n.tmod m).toNat, by omega, ret_int (by omega), rfl⟩
end Go.Proofs.YtfbimboemahhhaaGreatDoor
