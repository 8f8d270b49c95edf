/-
  Several texts in one: The contract of head; What was put is got, in plain words; A file's bytes, as plain data; Bytes laid piece by piece; What was put is got, and what is got, put, is those bytes, in plain words.
-/
import Derived.Test.YtfglppjilcaafaaGreatDoorTtH7
import Derived.Test.YtfglppjilcaafaaGreatDoorTtH11
import Derived.Test.YtfglppjilcaafaaGreatDoorTtH12
import Derived.Test.YtfglppjilcaafaaGreatDoorTtH17
import Derived.Test.YtfglppjilcaafaaGreatDoorTtH13
namespace Go.Proofs.YtfglppjilcaafaaGreatDoor
open Go.Lib (hid)
open Go.RowKit
def Hd.Q (h : Hd) : List (Nat × Nat) := h.N.zip (hRow h.wide)
def Hd.L (h : Hd) : List UInt8 := idL h.wide h.big h.o h.a ++ rowB h.big h.Q
theorem Hd.lenQ (h : Hd) : h.Q.length = 13 := by simp [Hd.Q, Hd.N, hRow]
theorem Hd.rowed (h : Hd) (ok : h.Ok) : Rowed h.Q := by
 obtain ⟨k1, k2, k3, k4, k5, k6, k7, k8, k9⟩ := ok
 have s0 : hSize h.wide ≤ 64 := byWide_le _ _ _ _ (by omega) (by omega)
 have s1 := ifSome_le ((h.pn : Int) != 0) (byWide h.wide 32 56)
 have s2 := ifSome_le ((h.sh : Int) != 0) (byWide h.wide 40 64)
 have s3 : byWide h.wide 32 56 ≤ 64 := byWide_le _ _ _ _ (by omega) (by omega)
 have s4 : byWide h.wide 40 64 ≤ 64 := byWide_le _ _ _ _ (by omega) (by omega)
 have hw : wid (byWide h.wide 4 8 : Nat) = true := by cases h.wide <;> rfl
 refine ⟨by rw [h.lenQ]; omega, fun k hk => ?_, fun k hk => ?_⟩
 ·rw [h.lenQ] at hk
  match k, hk with
  | 0, _ => rfl
  | 1, _ => rfl
  | 2, _ => rfl
  | 3, _ => exact hw
  | 4, _ => exact hw
  | 5, _ => exact hw
  | 6, _ => rfl
  | 7, _ => rfl
  | 8, _ => rfl
  | 9, _ => rfl
  | 10, _ => rfl
  | 11, _ => rfl
  | 12, _ => rfl
 ·rw [h.lenQ] at hk
  match k, hk with
  | 0, _ => show h.ty < _; omega
  | 1, _ => show h.ma < _; omega
  | 2, _ => show 1 < _; omega
  | 3, _ => show h.en < _; omega
  | 4, _ => show h.ph < _; omega
  | 5, _ => show h.sh < _; omega
  | 6, _ => show h.fl < _; omega
  | 7, _ => show hSize h.wide < _; omega
  | 8, _ => show ifSome ((h.pn : Int) != 0) (byWide h.wide 32 56) < _; omega
  | 9, _ => show h.pn < _; omega
  | 10, _ => show ifSome ((h.sh : Int) != 0) (byWide h.wide 40 64) < _; omega
  | 11, _ => show h.sn < _; omega
  | 12, _ => show h.st < _; omega
theorem Hd.atN (h : Hd) (k : Nat) (hk : k < h.Q.length) : (u64s h.N)[k]? = some (.int .u64 (h.Q[k].1 : Int)) := by
 have hk' := hk
 rw [h.lenQ] at hk
 simp [u64s, Hd.Q, show k < h.N.length from hk]
theorem Hd.atW (h : Hd) (k : Nat) (hk : k < h.Q.length) : (i64s (hRow h.wide))[k]? = some (.int .i64 (h.Q[k].2 : Int)) := by
 have hk' := hk
 rw [h.lenQ] at hk
 simp [i64s, Hd.Q, show k < (hRow h.wide).length from hk]
def HPut (h : Hd) (w : World) (e : Ending) (w' : World) : Prop :=
 (rowF h.Q = true ∧ ∃ A c, e = .returned (.tuple #[.slice A h.L.length c, .nilIface]) ∧ OB w' w.heap.size 5 A h.L.length c h.L ∧ Grow w w') ∨
 (rowF h.Q = false ∧ e = .returned (.tuple #[.slice none 0 0, .iface 81 (.int .i64 1)]) ∧ Grow w w')
set_option maxHeartbeats 400000 in
theorem hPut_any (h : Hd) (ok : h.Ok) (w : World) : Calls Tryz.prog 54 #[h.V] w (HPut h w) := by
 have HR := hid (h.rowed ok)
 have HN := hid (fun w => numbers_any h ok w)
 have HAN := hid h.atN
 have HAW := hid h.atW
 have HSN : Hid ((u64s h.N).size = 13) := hid (by simp [u64s, Hd.N])
 have HON := hid (one_u64s h.N)
 have HI := hid (fun w => idPut_any h.wide h.big h.o h.a w)
 have HWi := hid (fun w => widths_any h.wide h.big w)
 have HLQ := hid h.lenQ
 have HL : Hid (h.L = idL h.wide h.big h.o h.a ++ rowB h.big h.Q) := hid rfl
 unfold HPut
 generalize h.L = L at HL ⊢
 generalize h.Q = q at HR HAN HAW HLQ HL ⊢
 generalize u64s h.N = RN at HN HAN HSN HON
 generalize i64s (hRow h.wide) = RW at HAW HWi
 obtain ⟨wide, big, o, a, ty, ma, en, ph, sh, fl, pn, sn, st⟩ := h
 unfold Hd.V Hd.C idV at *
 simp only [] at *
 go_enter Tryz.func54, Tryz.ntmps54
 go_wp2_with fail
 generalize hW : World.alloc _ _ = W0
 obtain ⟨b1, bf, hg0⟩ := blk2 hW
 have HB1 := hid b1
 have HBF := hid bf
 have HG0 := hid hg0
 clear hW b1 bf hg0
 refine (HI.out W0).mono ?_
 rintro e w1 ⟨rfl, ob, hw1⟩
 have hg1 : Grow W0 w1 := by rw [hw1]; exact (Grow.of_alloc _ _).trans (Grow.of_alloc _ _)
 have HBB : Hid (Blk w1 (W0.heap.size + 1) 5 ((idL wide big o a).map byt).toArray) := by
  have := Blk.new (W0.alloc ob) 5 (idC wide big o a)
  rw [show (W0.alloc ob).heap.size = W0.heap.size + 1 by simp] at this
  rw [hw1]; exact this
 have HG1 : Hid (Grow w w1) := HG0.out.trans hg1
 have hb1 := (HB1.out.grow hg1).c13
 have HBF1 := hid (HBF.out.grow hg1)
 have HG5 : Hid (w.heap.size + 1 < W0.heap.size + 1) := Nat.succ_lt_succ (Nat.lt_of_lt_of_le (Nat.lt_succ_self _) (Nat.le_of_lt HBF.out.lt))
 generalize W0.heap.size + 1 = g5 at HBB HG5 ⊢
 clear hw1 hg1 HB1 HBF HG0
 obtain ⟨x0, x1, x2, x3, x4, x5, x6, x7, x8, x9, x10, x11, x12⟩ := hb1
 go_wp2_with fail
 clear x0 x1 x2 x3 x4 x5 x6 x7 x8 x9 x10 x11 x12
 refine (HN.out w1).mono ?_
 rintro e w2 ⟨rfl, hg2⟩
 have HG2 : Hid (Grow w w2) := HG1.out.trans hg2
 have HBB2 := hid (HBB.out.grow hg2)
 have HBF2 := hid (HBF1.out.grow hg2)
 clear hg2 HG1 HBB HBF1
 obtain ⟨y0, y1⟩ := (HBF2.out.alloc (.cells RN 140)).c2
 go_wp2_with (refine wpList_store_row rfl 140 (.tmp 6) (.tmp 16) rfl w2.heap.size RN rfl rfl _ _ (Blk.new _ _ _) (by rw [HSN.out]; kernel_rfl) (by rw [HSN.out]; rfl) HON.out ?_; rw [World.setRow_alloc_new])
 clear y0 y1
 refine (HWi.out _).mono ?_
 rintro e w3 ⟨rfl, hg3⟩
 have HBN := hid ((Blk.new w2 140 RN).grow hg3)
 have HBB3 := hid ((HBB2.out.alloc _).grow hg3)
 have HBF3 := hid ((HBF2.out.alloc _).grow hg3)
 have HG3 : Hid (Grow w w3) := (HG2.out.trans (Grow.of_alloc _ _)).trans hg3
 have HG6 : Hid (g5 < w2.heap.size) := HBB2.out.lt
 generalize w2.heap.size = g6 at HBN HG6 ⊢
 clear hg3 HG2 HBB2 HBF2
 go_wp2_with fail
 have HI0 : Hid (OB w3 w.heap.size 5 (some ⟨g5, 0, none⟩) 16 16 (idL wide big o a)) := OB.of_blk HBB3.out (by have := HG5.out; omega) (by simp [idL, maxLen])
 have HD : Hid (g5 ≠ w.heap.size + 1) := by have := HG5.out; exact hid (by omega)
 have HD6 : Hid (g5 ≠ g6) := by have := HG6.out; exact hid (by omega)
 have HLL : Hid ((idL wide big o a).length = 16) := hid rfl
 generalize idL wide big o a = I at HL HI0 HLL
 clear HBB3 HI HN HWi
 go_loopw [5, 19] (fun x i wr => ∃ (k : Nat) (A : Option Addr) (c : Nat), k ≤ 13 ∧ i = .int .i64 k ∧ x = .slice A (16 + (rowB big (q.take k)).length) c ∧ OB wr w.heap.size 5 A (16 + (rowB big (q.take k)).length) c (I ++ rowB big (q.take k)) ∧
  own A ≠ some (w.heap.size + 1) ∧ own A ≠ some g6 ∧ Blk wr (w.heap.size + 1) 23 #[.bool wide, .bool big] ∧ Blk wr g6 140 RN ∧ rowF (q.take k) = true ∧ Grow w wr) (fun _ i _ => 13 - (intOf i).toNat)
 case atStart => exact ⟨0, some ⟨g5, 0, none⟩, 16, by omega, rfl, rfl, by rw [List.take_zero, rowB, List.append_nil]; exact HI0.out, fun h => HD.out (by injection h), fun h => HD6.out (by injection h), HBF3.out, HBN.out, rfl, HG3.out⟩
 case round =>
  obtain ⟨k, A, c, hk, rfl, rfl, ho, hd1, hd2, hbf, hbn, hrf, hg⟩ := hrel
  have HO := hid ho
  have HD1 := hid hd1
  have HD2 := hid hd2
  have HBF := hid hbf
  have HBN2 := hid hbn
  have HRF := hid hrf
  have HG := hid hg
  clear ho hd1 hd2 hbf hbn hrf hg HI0 HBN HBF3 HG3
  by_cases hlt : k < 13
  ·have hkq : k < q.length := by rw [HLQ.out]; exact hlt
   have HB := hid (rowB_succ big q k hkq)
   have HF := hid (rowF_succ q k hkq)
   have HW := hid (HR.out.wide k hkq)
   have HZ := hid (fun h => rowF_false hkq h)
   have HLE := hid (rowB_le HR.out big k (by omega))
   have hv := HR.out.lt k hkq
   have hw8 := HR.out.wide8 k hkq
   have HK1 := hid (HAN.out k hkq)
   have HK2 := hid (HAW.out k hkq)
   rw [HRF.out, Bool.true_and] at HF
   generalize q[k].1 = v at HB HF HZ hv HK1
   generalize q[k].2 = m at HB HF HZ HW hw8 HK2
   have y1 : wr.cell? ⟨g6, k, none⟩ = some (.int .u64 (v : Int)) := (HBN2.out.at k).trans HK1.out
   have z1 : (0 : Int) ≤ (k : Int) := by omega
   have z2 : (k : Int) < 13 := by omega
   clear hkq
   go_wp2_with (refine wpList_index rfl 141 3 (.tmp 18) (.tmp 19) rfl 13 _ Tryz.underlying141 Tryz.underlying3 rfl (by kernel_rfl) RW k (.int .i64 (m : Int)) rfl rfl hlt HK2.out ?_)
   refine (fits_any v m _ (by omega) (by omega)).mono ?_
   rintro e w5 ⟨rfl, rfl⟩
   rw [fits_row v m HW.out]
   cases hfit : decide (v < 256 ^ m)
   ·have HZ2 := hid (HZ.out hfit)
    clear hfit
    go_wp2
    go_ret2
    exact .inr ⟨HZ2.out, rfl, HG.out⟩
   ·rw [hfit] at HF
    clear hfit HZ
    go_wp2_with fail
    clear y1
    refine wp_region_leap (leap_kept (fun j => j = w.heap.size + 1 ∨ j = g6)) [(0, true), (1, true), (2, true), (3, true), (4, true), (5, true), (6, true), (7, false), (8, false), (9, true)] (by kernel_rfl) (by kernel_rfl) (by kernel_rfl) ?_
    have HX : Hid (∀ W, Kept (fun j => j = w.heap.size + 1 ∨ j = g6) wr.drew W → (_ ∧ _) ∧ W.cell? ⟨g6, k, none⟩ = some (.int .u64 (v : Int))) := fun W hW =>
     ⟨(HBF.out.drew.kept hW (.inl rfl)).c2, ((HBN2.out.drew.kept hW (.inr rfl)).at k).trans HK1.out⟩
    have HO1 : Hid (OB wr.drew _ _ _ _ _ _) := HO.out
    have HBF1 := hid HBF.out.drew
    have HBN1 := hid HBN2.out.drew
    have HG1 : Hid (Grow w wr.drew) := HG.out.trans (Grow.of_drew _)
    generalize wr.drew = w6 at HX HO1 HBF1 HBN1 HG1 ⊢
    clear HO HBF HBN2 HG
    repeat (refine chain_take rfl (by rfl) ?_ (fun W hG => ?_) ?_; rotate_left; (obtain ⟨⟨q1, q2⟩, q3⟩ := HX.out W hG; go_simp; rfl); simp only [Act.put, List.setIfInBounds_toArray, List.set_cons_zero, List.set_cons_succ])
    clear HX
    refine chain_only rfl (by rfl) (fun K hK => ?_)
    go_simp
    refine (put_wide v m big _ HW.out (by omega)).mono ?_
    rintro e w7 ⟨A3, c3, rfl, ho3, hb3⟩
    refine hK _ _ (Kept.of_grow hb3) ?_
    clear hK K
    have HO3 := hid ho3
    have HO4 := hid (HO1.out.keep hb3)
    have HBF7 := hid (HBF1.out.grow hb3)
    have HBN7 := hid (HBN1.out.grow hb3)
    have HG7 : Hid (Grow w w7) := HG1.out.trans hb3
    clear ho3 hb3 HO1 HBF1 HBN1 HG1
    rw [Int.toNat_natCast] at HO3
    refine chain_only rfl (by rfl) (fun K hK => ?_)
    refine wp_appendS w7 (.tmp 30) (.tmp 37) 33 rfl w.heap.size 5 Tryz.underlying33 (by kernel_rfl) A _ c _ rfl HO4.out w7.heap.size A3 m c3 _ rfl HO3.out.rb (by have := HLE.out; omega) HG7.out.size ?_
    intro A5 c5 w8 ho5 hb5 hk5 hn5
    have HBF8 : Hid (Blk w8 (w.heap.size + 1) 23 #[.bool wide, .bool big]) := (hk5 _ HBF7.out.lt HD1.out).trans HBF7.out
    have HBN8 : Hid (Blk w8 g6 140 RN) := (hk5 _ HBN7.out.lt HD2.out).trans HBN7.out
    refine hK _ _ ⟨hb5.size, fun j hj hj2 => by
     rcases hj2 with rfl | rfl
     ·exact hk5 _ hj HD1.out
     ·exact hk5 _ hj HD2.out⟩ ?_
    clear hK K
    have HD1' : Hid (own A5 ≠ some (w.heap.size + 1)) := by
     rcases hn5 with e | e
     ·rw [e]; exact HD1
     ·rw [e]; have := HBF7.out.lt; exact fun h => by injection h; omega
    have HD2' : Hid (own A5 ≠ some g6) := by
     rcases hn5 with e | e
     ·rw [e]; exact HD2
     ·rw [e]; have := HBN7.out.lt; exact fun h => by injection h; omega
    have HG8 : Hid (Grow w w8) := HG7.out.trans' hb5
    rw [List.append_assoc, ← HB.out] at ho5
    have hm : 16 + (rowB big (q.take k)).length + m = 16 + (rowB big (q.take (k + 1))).length := by rw [HB.out, List.length_append, length_putB]; omega
    rw [hm] at ho5 ⊢
    have HO5 := hid ho5
    clear ho5 hb5 hk5 hn5 hm HO3 HO4 HG7 HBF7 HBN7
    repeat (refine chain_take rfl (by rfl) ?_ (fun W hG => ?_) ?_; rotate_left; (go_simp; rfl); simp only [Act.put, List.setIfInBounds_toArray, List.set_cons_zero, List.set_cons_succ])
    refine chain_done ?_
    go_wp2
    go_roundw
    case rel => exact ⟨k + 1, A5, c5, by omega, by go_num, rfl, HO5.out, HD1'.out, HD2'.out, HBF8.out, HBN8.out, HF.out, HG8.out⟩
    case measure => simp [intOf]; omega
  ·have HK : Hid (q.take k = q) := by
    have e : k = q.length := by rw [HLQ.out]; omega
    rw [e]
    exact List.take_length
   rw [HK.out] at HO HRF ⊢
   have HE : Hid (16 + (rowB big q).length = L.length) := by
    have := HLL.out
    rw [HL.out, List.length_append, this]
    exact hid rfl
   rw [HE.out, ← HL.out] at HO
   rw [HE.out]
   go_wp2
   go_ret2
   exact .inl ⟨HRF.out, A, c, rfl, HO.out, HG.out⟩
theorem Hd.lenL (h : Hd) : h.L.length = hSize h.wide := by
 rw [Hd.L, List.length_append, length_rowB, ← sum_hRow h.wide]
 rfl
theorem wide_idL (wide big : Bool) (o a : UInt8) (r : List UInt8) : lWide (idL wide big o a ++ r) = wide := by cases wide <;> rfl
theorem big_idL (wide big : Bool) (o a : UInt8) (r : List UInt8) : lBig (idL wide big o a ++ r) = big := by cases big <;> rfl
theorem clean_idL (wide big : Bool) (o a : UInt8) (r : List UInt8) : Clean (idL wide big o a ++ r) 7 := clean_of fun j hj hlt => by
 rw [List.getElem_append_left (by simp [idL]; omega), List.getD_eq_getElem?_getD, List.getElem?_eq_getElem (by simp [idL]; omega)]
 rfl
theorem hdX_put (h : Hd) (hf : rowF h.Q = true) (r : List UInt8) : hdX (h.L ++ r) = h.N := by
 have e := nums_rowB h.big r h.Q (idL h.wide h.big h.o h.a) hf
 unfold hdX
 rw [Hd.L, List.append_assoc, wide_idL, big_idL, ← List.append_assoc]
 exact e
theorem hdOf_put (h : Hd) (hf : rowF h.Q = true) (r : List UInt8) : hdOf (h.L ++ r) = h := by
 have e := hdX_put h hf r
 unfold hdOf
 rw [e, Hd.L, List.append_assoc, wide_idL, big_idL]
 rfl
theorem put_told (h : Hd) (hf : rowF h.Q = true) (r : List UInt8) : HTold (h.L ++ r) 0 0 h.V := by
 have e1 := hdX_put h hf r
 have e2 := hdOf_put h hf r
 have hl := h.lenL
 have hs : lWide (h.L ++ r) = h.wide := by rw [Hd.L, List.append_assoc, wide_idL]
 have h16 : 16 ≤ hSize h.wide := by cases h.wide <;> decide
 have ht : Told (h.L ++ r) 0 0 := .inl ⟨rfl, rfl, by rw [Hd.L, List.append_assoc]; exact clean_idL _ _ _ _ _, by rw [List.length_append]; omega⟩
 refine .inr ⟨ht, .inr (.inl ⟨by rw [hs, List.length_append]; omega, fun j _ hb => ?_, rfl, rfl⟩), by rw [e2]; rfl⟩
 unfold HBad at hb
 rw [e1, e2] at hb
 exact hb.1 rfl
set_option linter.unusedVariables false
namespace Md
variable (m : Md)
def hd : Hd := ⟨m.wide, m.big, UInt8.ofNat m.osabi, UInt8.ofNat m.abi, m.typ, m.mach, m.entry, m.phoff, m.shoff, m.flags, m.segs.length, if 0 < m.secs.length then m.secs.length + 1 else 0, m.str.toNat⟩
def pg (k : Nat) : Pg := ⟨(m.sg k).typ, (m.sg k).flags, m.P2 k, (m.sg k).vaddr, (m.sg k).paddr, (m.sg k).pl.size, (m.sg k).memsz, (m.sg k).align⟩
def sc (k : Nat) : Sc := ⟨(m.se k).name, (m.se k).typ, (m.se k).flags, (m.se k).addr, m.P3 k, (m.se k).size, (m.se k).link, (m.se k).info, (m.se k).align, (m.se k).entsize⟩
end Md
structure Good (m : Md) : Prop where
 ok : m.Ok
 plan : m.planC = 0
 own1 : ∀ s ∈ m.segs, s.pl.own.length ≤ maxLen
 own2 : ∀ s ∈ m.secs, s.pl.own.length ≤ maxLen
section
variable {m : Md}
theorem Good.planned (h : Good m) : Planned m := planned_of h.ok h.plan h.own1 h.own2
theorem Good.chk (h : Good m) : m.chk = 0 := by
 have := h.plan
 unfold Md.planC at this
 split at this
 ·omega
 ·omega
theorem Good.eT (h : Good m) : m.eT ≤ 65536 := h.planned.fits
theorem Good.n1 (h : Good m) : m.segs.length ≤ 16 := h.planned.ok.n1
theorem Good.n2 (h : Good m) : m.secs.length ≤ 64 := h.planned.ok.n2
theorem Good.fits (h : Good m) : m.fits = true := by
 have := h.chk
 unfold Md.chk at this
 split at this
 ·omega
 split at this
 ·omega
 ·rename_i h1
  simpa using h1
theorem Good.nums (h : Good m) : ∀ v ∈ m.nums, v < 256 ^ byWide m.wide 4 8 := fun v hv => by
 have := List.all_eq_true.1 h.fits v hv
 unfold fitW at this
 simpa using this
theorem Good.entry (h : Good m) : m.entry < 256 ^ byWide m.wide 4 8 := h.nums _ (by simp [Md.nums])
theorem Good.segNum (h : Good m) {k : Nat} (hk : k < m.segs.length) : ∀ v ∈ (m.sg k).nums, v < 256 ^ byWide m.wide 4 8 := fun v hv => h.nums _ (by
 unfold Md.nums
 exact List.mem_cons_of_mem _ (List.mem_append_left _ (List.mem_flatMap.2 ⟨_, m.sg_mem hk, hv⟩)))
theorem Good.secNum (h : Good m) {k : Nat} (hk : k < m.secs.length) : ∀ v ∈ (m.se k).nums, v < 256 ^ byWide m.wide 4 8 := fun v hv => h.nums _ (by
 unfold Md.nums
 exact List.mem_cons_of_mem _ (List.mem_append_right _ (List.mem_flatMap.2 ⟨_, m.se_mem hk, hv⟩)))
theorem Good.segMay (h : Good m) {k : Nat} (hk : k < m.segs.length) : m.may (m.sg k).pl = true := Md.segC_may ((Md.chk_zero h.chk).1 _ (m.sg_mem hk))
theorem Good.secMay (h : Good m) {k : Nat} (hk : k < m.secs.length) : m.may (m.se k).pl = true ∧ (m.se k).pl.size = (m.se k).held := Md.secC_zero ((Md.chk_zero h.chk).2.2 _ (m.se_mem hk))
theorem Good.str (h : Good m) : 0 ≤ m.str ∧ m.str ≤ m.secs.length := by
 have hc := h.chk
 unfold Md.chk at hc
 split at hc
 ·omega
 split at hc
 ·omega
 split at hc
 ·omega
 split at hc
 ·omega
 ·unfold Md.namesC at hc
  split at hc
  ·omega
  split at hc
  ·omega
  ·omega
theorem may_own_len {p : Pl} (h : m.may p = true) (hi : p.inn = -1) : p.off = 0 ∧ p.own.length = p.size := by
 rw [may_own hi] at h
 unfold Pl.ownMay at h
 simp at h
 exact ⟨h.1, h.2.symm⟩
theorem may_in_is {p : Pl} (h : m.may p = true) (hi : p.inn ≠ -1) : p.own = [] ∧ 0 < p.size ∧ ∃ i : Nat, p.inn = (i : Int) ∧ i < m.segs.length ∧ (m.sg i).typ = 1 ∧ p.off + p.size ≤ (m.sg i).pl.own.length := by
 rw [may_in hi] at h
 simp only [Bool.and_eq_true, decide_eq_true_eq] at h
 obtain ⟨⟨h1, h2⟩, h3⟩ := h
 obtain ⟨i, hi, hil⟩ := isSegN_true h1
 rw [hi, m.seg_sg] at h2 h3
 unfold Pl.inMay Pl.within at h3
 simp at h3
 exact ⟨h3.1.1, h3.1.2, i, hi, hil, h2, h3.2⟩
theorem Good.load_len (h : Good m) {k : Nat} (hk : k < m.segs.length) (ht : (m.sg k).typ = 1) : (m.sg k).pl.inn = -1 ∧ (m.sg k).pl.own.length = (m.sg k).pl.size := by
 have a := h.planned.load k hk ht
 exact ⟨a, (may_own_len (h.segMay hk) a).2⟩
theorem Good.seg_at (h : Good m) {k : Nat} (hk : k < m.segs.length) : m.P2 k + (m.sg k).pl.size ≤ m.eT ∧ (m.sg k).pl.own.length ≤ (m.sg k).pl.size ∧ ((m.sg k).pl.own ≠ [] → (m.sg k).pl.inn = -1) := by
 have P := h.planned
 have ho := P.order
 by_cases hi : (m.sg k).pl.inn = -1
 ·have hl := (may_own_len (h.segMay hk) hi).2
  refine ⟨?_, by omega, fun _ => hi⟩
  by_cases ht : (m.sg k).typ = 1
  ·have a := P.load_at hk ht
   have b := P.eL_in (k := k + 1) hk
   omega
  ·have a := P.other_at hk ht hi
   have b := P.eO_in (k := k + 1) hk
   omega
 ·obtain ⟨q1, q2, i, q3, q4, q5, q6⟩ := may_in_is (h.segMay hk) hi
  obtain ⟨_, i', r1, r2, r3, r4⟩ := P.seg_in hk hi
  have e : i = i' := by omega
  subst e
  have a := P.load_at q4 q5
  have b := P.eL_in (k := i + 1) q4
  have c := h.load_len q4 q5
  refine ⟨by omega, by rw [q1]; simp, fun hne => absurd q1 hne⟩
theorem Good.sec_at (h : Good m) {k : Nat} (hk : k < m.secs.length) : m.P3 k + (m.se k).pl.size ≤ m.eT ∧ (m.se k).pl.own.length ≤ (m.se k).pl.size ∧ ((m.se k).pl.own ≠ [] → (m.se k).pl.inn = -1) := by
 have P := h.planned
 have ho := P.order
 by_cases hi : (m.se k).pl.inn = -1
 ·have hl := (may_own_len (h.secMay hk).1 hi).2
  refine ⟨?_, by omega, fun _ => hi⟩
  have a := P.sec_at hk hi
  have b : m.eS (k + 1) ≤ m.eS m.secs.length := mono_of (m.eS_step P.ok.n1) hk
  omega
 ·obtain ⟨q1, q2, i, q3, q4, q5, q6⟩ := may_in_is (h.secMay hk).1 hi
  obtain ⟨i', r1, r2, r3, r4⟩ := P.sec_in hk hi
  have e : i = i' := by omega
  subst e
  have a := P.load_at q4 q5
  have b := P.eL_in (k := i + 1) q4
  have c := h.load_len q4 q5
  refine ⟨by omega, by rw [q1]; simp, fun hne => absurd q1 hne⟩
theorem pow48 (wide : Bool) : 4294967296 ≤ 256 ^ byWide wide 4 8 ∧ 256 ^ byWide wide 4 8 ≤ 18446744073709551616 := by cases wide <;> decide
theorem Good.phoff_le (h : Good m) : m.phoff ≤ 64 := by
 unfold Md.phoff hSize byWide
 split
 ·split <;> omega
 ·omega
theorem Good.shoff_le (h : Good m) : m.shoff ≤ 65536 := by
 have hf := h.eT
 unfold Md.shoff
 split
 ·rename_i h0
  have e : m.eT = fin (m.eS m.secs.length) 0 8 (byWide m.wide 40 64 * (m.secs.length + 1)) := by unfold Md.eT; rw [if_pos h0]
  have hin := fin_in (e := m.eS m.secs.length) (v := 0) (a := 8) (n := byWide m.wide 40 64 * (m.secs.length + 1)) (by rw [← e]; exact hf)
  omega
 ·omega
theorem u8_of (x : Nat) (h : x < 256) : (UInt8.ofNat x).toNat = x := by rw [UInt8.toNat_ofNat', Nat.mod_eq_of_lt h]
theorem Good.hdOk (h : Good m) : m.hd.Ok := by
 have h1 := h.phoff_le
 have h2 := h.shoff_le
 have h3 := h.n1
 have h4 := h.n2
 have h5 := h.str
 refine ⟨h.ok.typ, h.ok.mach, h.ok.entry, ?_, ?_, h.ok.flags, ?_, ?_, ?_⟩
 ·show m.phoff < _; omega
 ·show m.shoff < _; omega
 ·show m.segs.length < _; omega
 ·show (if 0 < m.secs.length then m.secs.length + 1 else 0) < _; split <;> omega
 ·show m.str.toNat < _; omega
theorem Good.hdFits (h : Good m) : rowF m.hd.Q = true := by
 have h1 := h.phoff_le
 have h2 := h.shoff_le
 have h3 := h.n1
 have h4 := h.n2
 have h5 := h.str
 have h6 := h.entry
 have h7 := pow48 m.wide
 have ok := h.hdOk
 have k1 : hSize m.wide ≤ 64 := hSize_le _
 have k2 := ifSome_le ((m.hd.pn : Int) != 0) (byWide m.wide 32 56)
 have k3 := ifSome_le ((m.hd.sh : Int) != 0) (byWide m.wide 40 64)
 have k4 : byWide m.wide 32 56 ≤ 56 := by unfold byWide; split <;> omega
 have k5 : byWide m.wide 40 64 ≤ 64 := by unfold byWide; split <;> omega
 have e1 : (256 : Nat) ^ 2 = 65536 := by decide
 have e2 : (256 : Nat) ^ 4 = 4294967296 := by decide
 have p1 : m.hd.ph ≤ 64 := h1
 have p2 : m.hd.sh ≤ 65536 := h2
 have p3 : m.hd.en < 256 ^ byWide m.wide 4 8 := h6
 have ew : m.hd.wide = m.wide := rfl
 obtain ⟨o1, o2, o3, o4, o5, o6, o7, o8, o9⟩ := ok
 unfold Hd.Q Hd.N hRow
 rw [ew]
 generalize m.hd = H at *
 simp only [List.zip_cons_cons, List.zip_nil_right, rowF, Bool.and_true, Bool.and_eq_true, decide_eq_true_eq, e1, e2]
 generalize 256 ^ byWide m.wide 4 8 = W at *
 omega
end
end Go.Proofs.YtfglppjilcaafaaGreatDoor
namespace Go.Proofs.YtfglppjilcaafaaGreatDoor
open Go.Lib (hid)
open Go.RowKit
set_option linter.unusedVariables false
def put (b : List UInt8) (p : Nat) (x : List UInt8) : List UInt8 := b.take p ++ x ++ b.drop (p + x.length)
theorem put_len {b x : List UInt8} {p : Nat} (h : p + x.length ≤ b.length) : (put b p x).length = b.length := by
 unfold put
 simp only [List.length_append, List.length_take, List.length_drop]
 omega
theorem put_get {b x : List UInt8} {p : Nat} (h : p + x.length ≤ b.length) (j : Nat) : (put b p x)[j]? = if p ≤ j ∧ j < p + x.length then x[j - p]? else b[j]? := by
 unfold put
 have hl : (b.take p).length = p := by rw [List.length_take]; omega
 rcases Nat.lt_or_ge j p with h1 | h1
 ·rw [if_neg (by omega), List.append_assoc, List.getElem?_append_left (by omega), List.getElem?_take_of_lt h1]
 ·rcases Nat.lt_or_ge j (p + x.length) with h2 | h2
  ·rw [if_pos ⟨h1, h2⟩, List.append_assoc, List.getElem?_append_right (by omega), hl, List.getElem?_append_left (by omega)]
  ·rw [if_neg (by omega), List.getElem?_append_right (by rw [List.length_append, hl]; omega), List.length_append, hl, List.getElem?_drop, show p + x.length + (j - (p + x.length)) = j by omega]
def Off (p : Nat) (x : List UInt8) (q : Nat) (y : List UInt8) : Prop := (p = q ∧ x = y) ∨ x.length = 0 ∨ y.length = 0 ∨ p + x.length ≤ q ∨ q + y.length ≤ p
theorem Off.symm {p q : Nat} {x y : List UInt8} (h : Off p x q y) : Off q y p x := by
 rcases h with ⟨h1, h2⟩ | h | h | h | h
 ·exact .inl ⟨h1.symm, h2.symm⟩
 ·exact .inr (.inr (.inl h))
 ·exact .inr (.inl h)
 ·exact .inr (.inr (.inr (.inr h)))
 ·exact .inr (.inr (.inr (.inl h)))
def Laid (S : Nat → List UInt8 → Prop) (b : List UInt8) : Prop :=
 (∀ p x, S p x → ∀ j, j < x.length → b[p + j]? = x[j]?) ∧ ∀ j, j < b.length → (∀ p x, S p x → ¬(p ≤ j ∧ j < p + x.length)) → b[j]? = some 0
theorem Laid.none (n : Nat) : Laid (fun _ _ => False) (List.replicate n 0) := ⟨fun _ _ h => h.elim, fun j hj _ => by rw [List.length_replicate] at hj; rw [List.getElem?_replicate, if_pos hj]⟩
theorem Laid.put {S T : Nat → List UInt8 → Prop} {b x : List UInt8} {p : Nat} (h : Laid S b) (e : ∀ q y, T q y ↔ S q y ∨ (q = p ∧ y = x)) (ho : ∀ q y, S q y → Off q y p x) (hl : p + x.length ≤ b.length) : Laid T (put b p x) := by
 refine ⟨fun q y ht j hj => ?_, fun j hj hn => ?_⟩
 ·rw [put_get hl]
  rcases (e q y).1 ht with hs | ⟨rfl, rfl⟩
  ·split
   ·rename_i hin
    rcases ho q y hs with ⟨rfl, rfl⟩ | h1 | h1 | h1 | h1
    ·congr 1; omega
    ·omega
    ·omega
    ·omega
    ·omega
   ·exact h.1 q y hs j hj
  ·rw [if_pos (by omega)]
   congr 1; omega
 ·rw [put_len hl] at hj
  rw [put_get hl, if_neg (hn p x ((e p x).2 (.inr ⟨rfl, rfl⟩)))]
  exact h.2 j hj fun q y hs => hn q y ((e q y).2 (.inl hs))
theorem Laid.read {S : Nat → List UInt8 → Prop} {b x : List UInt8} {p : Nat} (h : Laid S b) (hs : S p x) : (b.drop p).take x.length = x := by
 apply List.ext_getElem?
 intro j
 rcases Nat.lt_or_ge j x.length with hj | hj
 ·rw [List.getElem?_take_of_lt hj, List.getElem?_drop, h.1 p x hs j hj]
 ·rw [List.getElem?_take_eq_none hj, List.getElem?_eq_none hj]
def Stg (m : Md) (a b c d : Nat) (p : Nat) (x : List UInt8) : Prop :=
 (p = 0 ∧ x = m.hd.L) ∨ (∃ k, k < a ∧ p = m.phoff + k * pSize m.wide ∧ x = (m.pg k).L m.wide m.big) ∨ (∃ k, k < b ∧ p = m.P2 k ∧ x = (m.sg k).pl.own) ∨
 (∃ k, k < c ∧ p = m.P3 k ∧ x = (m.se k).pl.own) ∨ (∃ k, k < d ∧ p = m.shoff + (k + 1) * sSize m.wide ∧ x = (m.sc k).L m.wide m.big)
theorem Stg.head (m : Md) (a b c d : Nat) : Stg m a b c d 0 m.hd.L := .inl ⟨rfl, rfl⟩
theorem Stg.mono {m : Md} {a b c d a' b' c' d' p : Nat} {x : List UInt8} (h : Stg m a b c d p x) (h1 : a ≤ a') (h2 : b ≤ b') (h3 : c ≤ c') (h4 : d ≤ d') : Stg m a' b' c' d' p x := by
 rcases h with h | ⟨k, hk, h⟩ | ⟨k, hk, h⟩ | ⟨k, hk, h⟩ | ⟨k, hk, h⟩
 ·exact .inl h
 ·exact .inr (.inl ⟨k, by omega, h⟩)
 ·exact .inr (.inr (.inl ⟨k, by omega, h⟩))
 ·exact .inr (.inr (.inr (.inl ⟨k, by omega, h⟩)))
 ·exact .inr (.inr (.inr (.inr ⟨k, by omega, h⟩)))
theorem ex_succ {P : Nat → Prop} {n : Nat} : (∃ k, k < n + 1 ∧ P k) ↔ (∃ k, k < n ∧ P k) ∨ P n := by
 constructor
 ·rintro ⟨k, hk, h⟩
  rcases Nat.lt_or_ge k n with h1 | h1
  ·exact .inl ⟨k, h1, h⟩
  ·exact .inr (by rwa [show n = k by omega])
 ·rintro (⟨k, hk, h⟩ | h)
  ·exact ⟨k, by omega, h⟩
  ·exact ⟨n, by omega, h⟩
theorem Stg.a1 (m : Md) (a b c d : Nat) (p : Nat) (x : List UInt8) : Stg m (a + 1) b c d p x ↔ Stg m a b c d p x ∨ (p = m.phoff + a * pSize m.wide ∧ x = (m.pg a).L m.wide m.big) := by
 unfold Stg
 rw [ex_succ]
 simp only [or_assoc, or_comm, or_left_comm]
theorem Stg.b1 (m : Md) (a b c d : Nat) (p : Nat) (x : List UInt8) : Stg m a (b + 1) c d p x ↔ Stg m a b c d p x ∨ (p = m.P2 b ∧ x = (m.sg b).pl.own) := by
 unfold Stg
 rw [ex_succ]
 simp only [or_assoc, or_comm, or_left_comm]
theorem Stg.c1 (m : Md) (a b c d : Nat) (p : Nat) (x : List UInt8) : Stg m a b (c + 1) d p x ↔ Stg m a b c d p x ∨ (p = m.P3 c ∧ x = (m.se c).pl.own) := by
 unfold Stg
 rw [ex_succ]
 simp only [or_assoc, or_comm, or_left_comm]
theorem Stg.d1 (m : Md) (a b c d : Nat) (p : Nat) (x : List UInt8) : Stg m a b c (d + 1) p x ↔ Stg m a b c d p x ∨ (p = m.shoff + (d + 1) * sSize m.wide ∧ x = (m.sc d).L m.wide m.big) := by
 unfold Stg
 rw [ex_succ]
 simp only [or_assoc, or_comm, or_left_comm]
section
variable {m : Md}
theorem shoff_is (h : Good m) (h0 : 0 < m.secs.length) : m.eS m.secs.length ≤ m.shoff ∧ m.shoff + sSize m.wide * (m.secs.length + 1) = m.eT := by
 have hf := h.eT
 have e : m.eT = fin (m.eS m.secs.length) 0 8 (byWide m.wide 40 64 * (m.secs.length + 1)) := by unfold Md.eT; rw [if_pos h0]
 have e2 : m.shoff = plc (m.eS m.secs.length) 0 8 := by unfold Md.shoff; rw [if_pos h0]
 have hin := fin_in (e := m.eS m.secs.length) (v := 0) (a := 8) (n := byWide m.wide 40 64 * (m.secs.length + 1)) (by rw [← e]; exact hf)
 rw [e, e2]
 exact ⟨hin.2.2.2, hin.2.2.1⟩
theorem phoff_is (h : Good m) (h0 : 0 < m.segs.length) : m.phoff = hSize m.wide ∧ m.phoff + pSize m.wide * m.segs.length = m.e1 := by
 unfold Md.phoff Md.e1 pSize
 rw [if_pos h0]
 exact ⟨rfl, rfl⟩
theorem mul_step {k n z : Nat} (h : k < n) : k * z + z ≤ n * z := by
 have := Nat.mul_le_mul_right z (show k + 1 ≤ n from h)
 rw [Nat.succ_mul] at this
 exact this
theorem Good.z1 (h : Good m) {k : Nat} (hk : k < m.segs.length) : hSize m.wide ≤ m.phoff + k * pSize m.wide ∧ m.phoff + k * pSize m.wide + ((m.pg k).L m.wide m.big).length ≤ m.e1 := by
 obtain ⟨h1, h2⟩ := phoff_is h (by omega)
 have := mul_step (z := pSize m.wide) hk
 rw [Nat.mul_comm] at h2
 rw [Pg.lenL]
 omega
theorem Good.z2 (h : Good m) {k : Nat} (hk : k < m.segs.length) : (m.sg k).pl.own.length = 0 ∨ (m.e1 ≤ m.P2 k ∧ m.P2 k + (m.sg k).pl.own.length ≤ m.eS 0) := by
 by_cases hi : (m.sg k).pl.inn = -1
 ·refine .inr ?_
  have hl := (may_own_len (h.segMay hk) hi).2
  have P := h.planned
  have ho := P.order
  by_cases ht : (m.sg k).typ = 1
  ·have a := P.load_at hk ht
   have b := P.eL_in (k := k + 1) hk
   have c : m.eL 0 ≤ m.eL k := mono_of (m.eL_step P.ok.n1) (by omega)
   have d : m.eL 0 = m.e1 := rfl
   omega
  ·have a := P.other_at hk ht hi
   have b := P.eO_in (k := k + 1) hk
   have c : m.eO 0 ≤ m.eO k := mono_of (m.eO_step P.ok.n1) (by omega)
   have d : m.eO 0 = m.eL m.segs.length := rfl
   omega
 ·exact .inl (by rw [(may_in_is (h.segMay hk) hi).1]; rfl)
theorem Good.z3 (h : Good m) {k : Nat} (hk : k < m.secs.length) : (m.se k).pl.own.length = 0 ∨ (m.eS 0 ≤ m.P3 k ∧ m.P3 k + (m.se k).pl.own.length ≤ m.eS m.secs.length) := by
 by_cases hi : (m.se k).pl.inn = -1
 ·refine .inr ?_
  have hl := (may_own_len (h.secMay hk).1 hi).2
  have P := h.planned
  have a := P.sec_at hk hi
  have b : m.eS (k + 1) ≤ m.eS m.secs.length := mono_of (m.eS_step P.ok.n1) hk
  have c : m.eS 0 ≤ m.eS k := mono_of (m.eS_step P.ok.n1) (by omega)
  omega
 ·exact .inl (by rw [(may_in_is (h.secMay hk).1 hi).1]; rfl)
theorem Good.z4 (h : Good m) {k : Nat} (hk : k < m.secs.length) : m.eS m.secs.length ≤ m.shoff + (k + 1) * sSize m.wide ∧ m.shoff + (k + 1) * sSize m.wide + ((m.sc k).L m.wide m.big).length ≤ m.eT := by
 obtain ⟨h1, h2⟩ := shoff_is h (by omega)
 have := mul_step (z := sSize m.wide) (show k + 1 < m.secs.length + 1 by omega)
 rw [Nat.mul_comm] at h2
 rw [Sc.lenL]
 omega
theorem Good.p2 (h : Good m) {k l : Nat} (hk : k < l) (hl : l < m.segs.length) : Off (m.P2 k) (m.sg k).pl.own (m.P2 l) (m.sg l).pl.own := by
 by_cases hi : (m.sg k).pl.inn = -1
 ·by_cases hj : (m.sg l).pl.inn = -1
  ·have h1 := (may_own_len (h.segMay (by omega)) hi).2
   have h2 := (may_own_len (h.segMay hl) hj).2
   have P := h.planned
   refine .inr (.inr (.inr ?_))
   have d : m.eO 0 = m.eL m.segs.length := rfl
   by_cases tk : (m.sg k).typ = 1
   ·have a := P.load_at (k := k) (by omega) tk
    by_cases tl : (m.sg l).typ = 1
    ·have b := P.load_at hl tl
     have c : m.eL (k + 1) ≤ m.eL l := mono_of (m.eL_step P.ok.n1) (by omega)
     omega
    ·have b := P.other_at hl tl hj
     have c := P.eL_in (k := k + 1) (by omega)
     have c2 : m.eO 0 ≤ m.eO l := mono_of (m.eO_step P.ok.n1) (by omega)
     omega
   ·have a := P.other_at (k := k) (by omega) tk hi
    by_cases tl : (m.sg l).typ = 1
    ·have b := P.load_at hl tl
     have c := P.eL_in (k := l + 1) hl
     have c2 : m.eO 0 ≤ m.eO k := mono_of (m.eO_step P.ok.n1) (by omega)
     omega
    ·have b := P.other_at hl tl hj
     have c : m.eO (k + 1) ≤ m.eO l := mono_of (m.eO_step P.ok.n1) (by omega)
     omega
  ·exact .inr (.inr (.inl (by rw [(may_in_is (h.segMay hl) hj).1]; rfl)))
 ·exact .inr (.inl (by rw [(may_in_is (h.segMay (by omega)) hi).1]; rfl))
theorem Good.p3 (h : Good m) {k l : Nat} (hk : k < l) (hl : l < m.secs.length) : Off (m.P3 k) (m.se k).pl.own (m.P3 l) (m.se l).pl.own := by
 by_cases hi : (m.se k).pl.inn = -1
 ·by_cases hj : (m.se l).pl.inn = -1
  ·have h1 := (may_own_len (h.secMay (k := k) (by omega)).1 hi).2
   have P := h.planned
   refine .inr (.inr (.inr ?_))
   have a := P.sec_at (k := k) (by omega) hi
   have b := P.sec_at hl hj
   have c : m.eS (k + 1) ≤ m.eS l := mono_of (m.eS_step P.ok.n1) (by omega)
   omega
  ·exact .inr (.inr (.inl (by rw [(may_in_is (h.secMay hl).1 hj).1]; rfl)))
 ·exact .inr (.inl (by rw [(may_in_is (h.secMay (k := k) (by omega)).1 hi).1]; rfl))
theorem Good.p1 (h : Good m) {k l : Nat} (hk : k < l) : Off (m.phoff + k * pSize m.wide) ((m.pg k).L m.wide m.big) (m.phoff + l * pSize m.wide) ((m.pg l).L m.wide m.big) := by
 have := mul_step (z := pSize m.wide) hk
 refine .inr (.inr (.inr (.inl ?_)))
 rw [Pg.lenL]
 omega
theorem Good.p4 (h : Good m) {k l : Nat} (hk : k < l) : Off (m.shoff + (k + 1) * sSize m.wide) ((m.sc k).L m.wide m.big) (m.shoff + (l + 1) * sSize m.wide) ((m.sc l).L m.wide m.big) := by
 have := mul_step (z := sSize m.wide) (show k + 1 < l + 1 by omega)
 refine .inr (.inr (.inr (.inl ?_)))
 rw [Sc.lenL]
 omega
theorem Good.off (h : Good m) {p q : Nat} {x y : List UInt8} (hp : Stg m m.segs.length m.segs.length m.secs.length m.secs.length p x) (hq : Stg m m.segs.length m.segs.length m.secs.length m.secs.length q y) : Off p x q y := by
 have ho := h.planned.order
 have hh : m.hd.L.length = hSize m.wide := m.hd.lenL
 have key : ∀ {p q : Nat} {x y : List UInt8}, x.length = 0 ∨ y.length = 0 ∨ p + x.length ≤ q → Off p x q y := fun hh => by
  rcases hh with hh | hh | hh
  ·exact .inr (.inl hh)
  ·exact .inr (.inr (.inl hh))
  ·exact .inr (.inr (.inr (.inl hh)))
 rcases hp with ⟨rfl, rfl⟩ | ⟨k, hk, rfl, rfl⟩ | ⟨k, hk, rfl, rfl⟩ | ⟨k, hk, rfl, rfl⟩ | ⟨k, hk, rfl, rfl⟩ <;> rcases hq with ⟨rfl, rfl⟩ | ⟨l, hl, rfl, rfl⟩ | ⟨l, hl, rfl, rfl⟩ | ⟨l, hl, rfl, rfl⟩ | ⟨l, hl, rfl, rfl⟩
 ·exact .inl ⟨rfl, rfl⟩
 ·have b := h.z1 hl; exact key (by omega)
 ·have b := h.z2 hl; exact key (by omega)
 ·have b := h.z3 hl; exact key (by omega)
 ·have b := h.z4 hl; exact key (by omega)
 ·have b := h.z1 hk; exact (key (by omega)).symm
 ·rcases Nat.lt_trichotomy k l with e | rfl | e
  ·exact h.p1 e
  ·exact .inl ⟨rfl, rfl⟩
  ·exact (h.p1 e).symm
 ·have a := h.z1 hk; have b := h.z2 hl; exact key (by omega)
 ·have a := h.z1 hk; have b := h.z3 hl; exact key (by omega)
 ·have a := h.z1 hk; have b := h.z4 hl; exact key (by omega)
 ·have b := h.z2 hk; exact (key (by omega)).symm
 ·have a := h.z1 hl; have b := h.z2 hk; exact (key (by omega)).symm
 ·rcases Nat.lt_trichotomy k l with e | rfl | e
  ·exact h.p2 e hl
  ·exact .inl ⟨rfl, rfl⟩
  ·exact (h.p2 e hk).symm
 ·have a := h.z2 hk; have b := h.z3 hl; exact key (by omega)
 ·have a := h.z2 hk; have b := h.z4 hl; exact key (by omega)
 ·have b := h.z3 hk; exact (key (by omega)).symm
 ·have a := h.z1 hl; have b := h.z3 hk; exact (key (by omega)).symm
 ·have a := h.z2 hl; have b := h.z3 hk; exact (key (by omega)).symm
 ·rcases Nat.lt_trichotomy k l with e | rfl | e
  ·exact h.p3 e hl
  ·exact .inl ⟨rfl, rfl⟩
  ·exact (h.p3 e hk).symm
 ·have a := h.z3 hk; have b := h.z4 hl; exact key (by omega)
 ·have b := h.z4 hk; exact (key (by omega)).symm
 ·have a := h.z1 hl; have b := h.z4 hk; exact (key (by omega)).symm
 ·have a := h.z2 hl; have b := h.z4 hk; exact (key (by omega)).symm
 ·have a := h.z3 hl; have b := h.z4 hk; exact (key (by omega)).symm
 ·rcases Nat.lt_trichotomy k l with e | rfl | e
  ·exact h.p4 e
  ·exact .inl ⟨rfl, rfl⟩
  ·exact (h.p4 e).symm
def FileIs (m : Md) (b : List UInt8) : Prop := Laid (Stg m m.segs.length m.segs.length m.secs.length m.secs.length) b ∧ b.length = m.eT
theorem Good.putA (h : Good m) {a b c d : Nat} {L : List UInt8} (hL : Laid (Stg m a b c d) L) (ha : a < m.segs.length) (hb : b ≤ m.segs.length) (hc : c ≤ m.secs.length) (hd : d ≤ m.secs.length)
  (hl : m.phoff + a * pSize m.wide + ((m.pg a).L m.wide m.big).length ≤ L.length) : Laid (Stg m (a + 1) b c d) (put L (m.phoff + a * pSize m.wide) ((m.pg a).L m.wide m.big)) :=
 hL.put (Stg.a1 m a b c d) (fun q y hs => h.off (hs.mono (by omega) hb hc hd) (.inr (.inl ⟨a, ha, rfl, rfl⟩))) hl
theorem Good.putB (h : Good m) {a b c d : Nat} {L : List UInt8} (hL : Laid (Stg m a b c d) L) (ha : a ≤ m.segs.length) (hb : b < m.segs.length) (hc : c ≤ m.secs.length) (hd : d ≤ m.secs.length)
  (hl : m.P2 b + (m.sg b).pl.own.length ≤ L.length) : Laid (Stg m a (b + 1) c d) (put L (m.P2 b) (m.sg b).pl.own) :=
 hL.put (Stg.b1 m a b c d) (fun q y hs => h.off (hs.mono ha (by omega) hc hd) (.inr (.inr (.inl ⟨b, hb, rfl, rfl⟩)))) hl
theorem Good.putC (h : Good m) {a b c d : Nat} {L : List UInt8} (hL : Laid (Stg m a b c d) L) (ha : a ≤ m.segs.length) (hb : b ≤ m.segs.length) (hc : c < m.secs.length) (hd : d ≤ m.secs.length)
  (hl : m.P3 c + (m.se c).pl.own.length ≤ L.length) : Laid (Stg m a b (c + 1) d) (put L (m.P3 c) (m.se c).pl.own) :=
 hL.put (Stg.c1 m a b c d) (fun q y hs => h.off (hs.mono ha hb (by omega) hd) (.inr (.inr (.inr (.inl ⟨c, hc, rfl, rfl⟩))))) hl
theorem Good.putD (h : Good m) {a b c d : Nat} {L : List UInt8} (hL : Laid (Stg m a b c d) L) (ha : a ≤ m.segs.length) (hb : b ≤ m.segs.length) (hc : c ≤ m.secs.length) (hd : d < m.secs.length)
  (hl : m.shoff + (d + 1) * sSize m.wide + ((m.sc d).L m.wide m.big).length ≤ L.length) : Laid (Stg m a b c (d + 1)) (put L (m.shoff + (d + 1) * sSize m.wide) ((m.sc d).L m.wide m.big)) :=
 hL.put (Stg.d1 m a b c d) (fun q y hs => h.off (hs.mono ha hb hc (by omega)) (.inr (.inr (.inr (.inr ⟨d, hd, rfl, rfl⟩))))) hl
theorem first_laid {L : List UInt8} (hL : Laid (fun _ _ => False) L) (hl : m.hd.L.length ≤ L.length) : Laid (Stg m 0 0 0 0) (put L 0 m.hd.L) := by
 refine hL.put (fun q y => ?_) (fun q y hs => hs.elim) (by omega)
 unfold Stg
 simp
end
end Go.Proofs.YtfglppjilcaafaaGreatDoor
namespace Go.Proofs.YtfglppjilcaafaaGreatDoor
open Go.Lib (hid)
open Go.RowKit
theorem Pg.sndQ (p : Pg) (wide : Bool) : (p.Q wide).map (·.2) = pRow wide := by
 rw [Pg.Q, pRow, List.map_map]; rfl
theorem pX_put (p : Pg) (wide big : Bool) (hf : rowF (p.Q wide) = true) (pre post : List UInt8) : pX (pre ++ p.L wide big ++ post) pre.length wide big = (pOrd wide).map fun i => p.N.getD i 0 := by
 have := nums_rowB big post (p.Q wide) pre hf
 rw [p.sndQ] at this
 rw [pX, Pg.L, this, Pg.Q, List.map_map]
 rfl
theorem pgOf_put (p : Pg) (wide big : Bool) (hf : rowF (p.Q wide) = true) (pre post : List UInt8) : pgOf (pre ++ p.L wide big ++ post) pre.length wide big = p := by
 have e := pX_put p wide big hf pre post
 unfold pgOf
 rw [e]
 obtain ⟨ty, fl, off, va, pa, fs, ms, al⟩ := p
 cases wide <;> rfl
end Go.Proofs.YtfglppjilcaafaaGreatDoor
