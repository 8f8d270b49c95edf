/-
  Several texts in one: The contract of prog; What is told of any bytes as a program header, in plain words; Plain answers of layer 6, and the contracts of sect; The contract of sect; What is told of any bytes as a section header, in plain words.
-/
import Derived.Test.YtfglppjilcaafaaGreatDoorTtH7
import Derived.Test.YtfglppjilcaafaaGreatDoorTtH12
import Derived.Test.YtfglppjilcaafaaGreatDoorRows
import Derived.Test.YtfglppjilcaafaaGreatDoorTtH2
import Derived.Test.YtfglppjilcaafaaGreatDoorTtH3
import Derived.WalkKit
import Derived.Laws.ResultCell
import Derived.Lib.Hide
namespace Go.Proofs.YtfglppjilcaafaaGreatDoor
open Go.Lib (hid)
open Go.RowKit
def Pg.Q (p : Pg) (wide : Bool) : List (Nat × Nat) := (pOrd wide).map fun i => (p.N.getD i 0, pWid wide i)
def Pg.L (p : Pg) (wide big : Bool) : List UInt8 := rowB big (p.Q wide)
theorem Pg.lenQ (p : Pg) (wide : Bool) : (p.Q wide).length = 8 := by simp [Pg.Q, len_pOrd]
theorem Pg.lenL (p : Pg) (wide big : Bool) : (p.L wide big).length = pSize wide := by
 rw [Pg.L, length_rowB, ← sum_pRow, pRow, Pg.Q, List.map_map]
 rfl
theorem Pg.atN (p : Pg) (ok : p.Ok) (i : Nat) : p.N.getD i 0 < 18446744073709551616 := by
 obtain ⟨k1, k2, k3, k4, k5, k6, k7, k8⟩ := ok
 match i with
 | 0 => show p.ty < _; omega
 | 1 => show p.fl < _; omega
 | 2 => show p.off < _; omega
 | 3 => show p.va < _; omega
 | 4 => show p.pa < _; omega
 | 5 => show p.fs < _; omega
 | 6 => show p.ms < _; omega
 | 7 => show p.al < _; omega
 | _ + 8 => show 0 < _; omega
theorem Pg.rowed (p : Pg) (ok : p.Ok) (wide : Bool) : Rowed (p.Q wide) :=
 ⟨by rw [p.lenQ]; omega, fun k hk => by simp only [Pg.Q, List.getElem_map]; exact pWid_wid _ _, fun k hk => by simp only [Pg.Q, List.getElem_map]; exact p.atN ok _⟩
theorem makeP (wide : Bool) (w : World) : (Instr.makeSlice 33 (.int .i64 0) (.int .i64 (pSize wide : Nat))).run Tryz.prog w = .ok (.slice (some ⟨w.heap.size, 0, none⟩) 0 (pSize wide))
  (w.alloc (.cells (Array.replicate (pSize wide) (.int .u8 0)) 5)) := by cases wide <;> kernel_rfl
def PPut (p : Pg) (wide big : Bool) (w : World) (e : Ending) (w' : World) : Prop :=
 (rowF (p.Q wide) = true ∧ ∃ A c, e = .returned (.tuple #[.slice A (p.L wide big).length c, .nilIface]) ∧ OB w' w.heap.size 5 A (p.L wide big).length c (p.L wide big) ∧ Grow w w') ∨
 (rowF (p.Q wide) = false ∧ e = .returned (.tuple #[.slice none 0 0, .iface 81 (.int .i64 1)]) ∧ Grow w w')
set_option maxHeartbeats 400000 in
theorem pPut_any (p : Pg) (ok : p.Ok) (wide big : Bool) (w : World) : Calls Tryz.prog 56 #[p.V, .agg #[.bool wide, .bool big]] w (PPut p wide big w) := by
 have HR := hid (p.rowed ok wide)
 have HN := hid (fun w => pNum_any p ok w)
 have HSz := hid (fun w => pSize_any wide big w)
 have HOr := hid (fun w => pOrd_any wide big w)
 have HWi := hid (fun i w => pWid_any wide big i w)
 have HSN : Hid ((u64s p.N).size = 8) := hid rfl
 have HON := hid (one_u64s p.N)
 have HLQ := hid (p.lenQ wide)
 have HMk := hid (makeP wide)
 have HSp : Hid (pSize wide ≤ 56) := by cases wide <;> exact hid (by decide)
 have HAO : Hid (∀ k, k < 8 → (i64s (pOrd wide))[k]? = some (.int .i64 ((pOrd wide).getD k 0 : Nat))) := hid (fun k hk => idx_i64s _ _ (by rw [len_pOrd]; exact hk))
 have HOl := hid (pOrd_lt wide)
 have HAN : Hid (∀ i, i < 8 → (u64s p.N)[i]? = some (.int .u64 (p.N.getD i 0 : Nat))) := hid (fun i hi => idx_u64s _ _ hi)
 have HAQ : Hid (∀ k (h : k < (p.Q wide).length), (p.Q wide)[k].1 = p.N.getD ((pOrd wide).getD k 0) 0 ∧ (p.Q wide)[k].2 = pWid wide ((pOrd wide).getD k 0)) := hid (fun k h => by
  have hk : k < (pOrd wide).length := by rw [p.lenQ] at h; rw [len_pOrd]; exact h
  simp only [Pg.Q, List.getElem_map]
  rw [List.getD_eq_getElem?_getD (l := pOrd wide), List.getElem?_eq_getElem hk]
  exact ⟨rfl, rfl⟩)
 have HC1 : Hid (p.C.size = 8) := hid rfl
 unfold PPut Pg.L
 unfold Pg.V
 generalize p.Q wide = q at HR HLQ HAQ ⊢
 generalize u64s p.N = RN at HN HSN HON HAN
 generalize i64s (pOrd wide) = RO at HOr HAO
 generalize pOrd wide = os at HAO HOl HAQ
 generalize p.N = pn at HAN HAQ
 unfold Pg.V at HN
 generalize p.C = C at HN HC1 ⊢
 generalize pSize wide = sz at HSz HMk HSp
 go_enter Tryz.func56, Tryz.ntmps56
 go_wp2_with (refine wpList_load_row rfl 130 (.tmp 2) rfl w.heap.size rfl _ C (0, 0) _ (blk2 rfl).1 Tryz.underlying130 rfl (by rw [HC1.out]; kernel_rfl) ?_)
 generalize hW : World.alloc _ _ = W0
 obtain ⟨b1, bf, hg0⟩ := blk2 hW
 clear hW b1
 refine (HN.out W0).mono ?_
 rintro e w1 ⟨rfl, hg1⟩
 have HBF1 := hid (bf.grow hg1)
 have HG1 : Hid (Grow w w1) := hg0.trans hg1
 clear bf hg0 hg1
 obtain ⟨y0, y1⟩ := (HBF1.out.alloc (.cells RN 198)).c2
 go_wp2_with (refine wpList_store_row rfl 198 (.tmp 6) (.tmp 12) rfl w1.heap.size RN rfl rfl _ _ (Blk.new _ _ _) (by rw [HSN.out]; kernel_rfl) (by rw [HSN.out]; rfl) HON.out ?_; rw [World.setRow_alloc_new])
 clear y0 y1
 refine (HSz.out _).mono ?_
 rintro e w2 ⟨rfl, hg2⟩
 have HBN := hid ((Blk.new w1 198 RN).grow hg2)
 have HBF2 := hid ((HBF1.out.alloc _).grow hg2)
 have HG2 : Hid (Grow w w2) := (HG1.out.trans (Grow.of_alloc _ _)).trans hg2
 have HG6 : Hid (w.heap.size + 1 < w1.heap.size) := HBF1.out.lt
 generalize w1.heap.size = g6 at HBN HG6 ⊢
 clear hg2 HG1 HBF1
 have hmk := HMk.out w2
 obtain ⟨y0, y1⟩ := (HBF2.out.alloc (.cells (Array.replicate sz (.int .u8 0)) 5)).c2
 go_wp2_with fail
 clear y0 y1 hmk HMk
 refine (HOr.out _).mono ?_
 rintro e w3 ⟨rfl, hg3⟩
 have HO3 := hid ((OB.room w2 w.heap.size 5 sz (.int .u8 0) (by have := HSp.out; unfold maxLen; omega) HG2.out.size).keep hg3)
 have HBN3 := hid ((HBN.out.alloc _).grow hg3)
 have HBF3 := hid ((HBF2.out.alloc _).grow hg3)
 have HG3 : Hid (Grow w w3) := (HG2.out.trans (Grow.of_alloc _ _)).trans hg3
 have HD : Hid (w2.heap.size ≠ w.heap.size + 1) := by have := HBF2.out.lt; exact hid (by omega)
 have HD6 : Hid (w2.heap.size ≠ g6) := by have := HBN.out.lt; exact hid (by omega)
 generalize w2.heap.size = g7 at HO3 HD HD6 ⊢
 clear hg3 HG2 HBN HBF2
 go_wp2_with fail
 go_loopw [7, 18] (fun x i wr => ∃ (k : Nat) (A : Option Addr) (c : Nat), k ≤ 8 ∧ i = .int .i64 k ∧ x = .slice A (rowB big (q.take k)).length c ∧ OB wr w.heap.size 5 A (rowB big (q.take k)).length c (rowB big (q.take k)) ∧
  own A ≠ some (w.heap.size + 1) ∧ own A ≠ some g6 ∧ Blk wr (w.heap.size + 1) 23 #[.bool wide, .bool big] ∧ Blk wr g6 198 RN ∧ rowF (q.take k) = true ∧ Grow w wr) (fun _ i _ => 8 - (intOf i).toNat)
 case atStart => exact ⟨0, some ⟨g7, 0, none⟩, sz, by omega, rfl, rfl, HO3.out, fun h => HD.out (by injection h), fun h => HD6.out (by injection h), HBF3.out, HBN3.out, rfl, HG3.out⟩
 case round =>
  obtain ⟨k, A, c, hk, rfl, rfl, ho, hd1, hd2, hbf, hbn, hrf, hg⟩ := hrel
  have HO := hid ho
  have HD1 := hid hd1
  have HD2 := hid hd2
  have HBF := hid hbf
  have HBN2 := hid hbn
  have HRF := hid hrf
  have HG := hid hg
  clear ho hd1 hd2 hbf hbn hrf hg HO3 HBN3 HBF3 HG3
  by_cases hlt : k < 8
  ·have hkq : k < q.length := by rw [HLQ.out]; exact hlt
   have HB := hid (rowB_succ big q k hkq)
   have HF := hid (rowF_succ q k hkq)
   have HW := hid (HR.out.wide k hkq)
   have HZ := hid (fun h => rowF_false hkq h)
   have HLE := hid (rowB_le HR.out big k (by omega))
   have hv := HR.out.lt k hkq
   have hw8 := HR.out.wide8 k hkq
   have HK1 := hid (HAN.out (os.getD k 0) (HOl.out k hlt))
   have HK2 := hid (HAO.out k hlt)
   have ho8 := HOl.out k hlt
   obtain ⟨e1, e2⟩ := HAQ.out k hkq
   rw [HRF.out, Bool.true_and] at HF
   rw [← e1] at HK1
   have HW2 := hid (fun w => HWi.out (os.getD k 0) w)
   rw [← e2] at HW2
   clear e1 e2
   generalize q[k].1 = v at HB HF HZ hv HK1
   generalize q[k].2 = m at HB HF HZ HW hw8 HW2
   generalize os.getD k 0 = i at HK1 HK2 HW2 ho8
   have z1 : (0 : Int) ≤ (i : Int) := by omega
   have z2 : (i : Int) < 8 := by omega
   obtain ⟨y0, y1⟩ := HBF.out.c2
   clear hkq
   go_wp2_with (refine wpList_index rfl 200 3 (.tmp 17) (.tmp 18) rfl 8 _ Tryz.underlying200 Tryz.underlying3 rfl (by kernel_rfl) RO k (.int .i64 (i : Int)) rfl rfl hlt HK2.out ?_)
   clear y0 y1
   refine (HW2.out _).mono ?_
   rintro e w4 ⟨rfl, hg4⟩
   have HO4 := hid (HO.out.keep hg4)
   have HBF4 := hid (HBF.out.grow hg4)
   have HBN4 := hid (HBN2.out.grow hg4)
   have HG4 : Hid (Grow w w4) := HG.out.trans hg4
   clear hg4 HO HBF HBN2 HG
   have y1 : w4.cell? ⟨g6, i, none⟩ = some (.int .u64 (v : Int)) := (HBN4.out.at i).trans HK1.out
   go_wp2_with fail
   refine (fits_any v m _ (by omega) (by omega)).mono ?_
   rintro e w5 ⟨rfl, rfl⟩
   rw [fits_row v m HW.out]
   cases hfit : decide (v < 256 ^ m)
   ·have HZ2 := hid (HZ.out hfit)
    clear hfit
    go_wp2
    go_ret2
    exact .inr ⟨HZ2.out, rfl, HG4.out⟩
   ·rw [hfit] at HF
    clear hfit HZ
    go_wp2_with fail
    clear y1
    refine wp_region_leap (leap_kept (fun j => j = w.heap.size + 1 ∨ j = g6)) [(0, true), (1, true), (2, true), (3, true), (4, true), (5, true), (6, true), (7, false), (8, false), (9, true)] (by kernel_rfl) (by kernel_rfl) (by kernel_rfl) ?_
    have HX : Hid (∀ W, Kept (fun j => j = w.heap.size + 1 ∨ j = g6) w4.drew W → (_ ∧ _) ∧ W.cell? ⟨g6, i, none⟩ = some (.int .u64 (v : Int))) := fun W hW =>
     ⟨(HBF4.out.drew.kept hW (.inl rfl)).c2, ((HBN4.out.drew.kept hW (.inr rfl)).at i).trans HK1.out⟩
    have HO1 : Hid (OB w4.drew _ _ _ _ _ _) := HO4.out
    have HBF1 := hid HBF4.out.drew
    have HBN1 := hid HBN4.out.drew
    have HG1 : Hid (Grow w w4.drew) := HG4.out.trans (Grow.of_drew _)
    generalize w4.drew = w6 at HX HO1 HBF1 HBN1 HG1 ⊢
    clear HO4 HBF4 HBN4 HG4
    repeat (refine chain_take rfl (by rfl) ?_ (fun W hG => ?_) ?_; rotate_left; (obtain ⟨⟨q1, q2⟩, q3⟩ := HX.out W hG; go_simp; rfl); simp only [Act.put, List.setIfInBounds_toArray, List.set_cons_zero, List.set_cons_succ])
    clear HX
    refine chain_only rfl (by rfl) (fun K hK => ?_)
    go_simp
    refine (put_wide v m big _ HW.out (by omega)).mono ?_
    rintro e w7 ⟨A3, c3, rfl, ho3, hb3⟩
    refine hK _ _ (Kept.of_grow hb3) ?_
    clear hK K
    have HO3 := hid ho3
    have HO4 := hid (HO1.out.keep hb3)
    have HBF7 := hid (HBF1.out.grow hb3)
    have HBN7 := hid (HBN1.out.grow hb3)
    have HG7 : Hid (Grow w w7) := HG1.out.trans hb3
    clear ho3 hb3 HO1 HBF1 HBN1 HG1
    rw [Int.toNat_natCast] at HO3
    refine chain_only rfl (by rfl) (fun K hK => ?_)
    refine wp_appendS w7 (.tmp 31) (.tmp 38) 33 rfl w.heap.size 5 Tryz.underlying33 (by kernel_rfl) A _ c _ rfl HO4.out w7.heap.size A3 m c3 _ rfl HO3.out.rb (by have := HLE.out; omega) HG7.out.size ?_
    intro A5 c5 w8 ho5 hb5 hk5 hn5
    have HBF8 : Hid (Blk w8 (w.heap.size + 1) 23 #[.bool wide, .bool big]) := (hk5 _ HBF7.out.lt HD1.out).trans HBF7.out
    have HBN8 : Hid (Blk w8 g6 198 RN) := (hk5 _ HBN7.out.lt HD2.out).trans HBN7.out
    refine hK _ _ ⟨hb5.size, fun j hj hj2 => by
     rcases hj2 with rfl | rfl
     ·exact hk5 _ hj HD1.out
     ·exact hk5 _ hj HD2.out⟩ ?_
    clear hK K
    have HD1' : Hid (own A5 ≠ some (w.heap.size + 1)) := by
     rcases hn5 with e | e
     ·rw [e]; exact HD1
     ·rw [e]; have := HBF7.out.lt; exact fun h => by injection h; omega
    have HD2' : Hid (own A5 ≠ some g6) := by
     rcases hn5 with e | e
     ·rw [e]; exact HD2
     ·rw [e]; have := HBN7.out.lt; exact fun h => by injection h; omega
    have HG8 : Hid (Grow w w8) := HG7.out.trans' hb5
    rw [← HB.out] at ho5
    have hm : (rowB big (q.take k)).length + m = (rowB big (q.take (k + 1))).length := by rw [HB.out, List.length_append, length_putB]
    rw [hm] at ho5 ⊢
    have HO5 := hid ho5
    clear ho5 hb5 hk5 hn5 hm HO3 HO4 HG7 HBF7 HBN7
    repeat (refine chain_take rfl (by rfl) ?_ (fun W hG => ?_) ?_; rotate_left; (go_simp; rfl); simp only [Act.put, List.setIfInBounds_toArray, List.set_cons_zero, List.set_cons_succ])
    refine chain_done ?_
    go_wp2
    go_roundw
    case rel => exact ⟨k + 1, A5, c5, by omega, by go_num, rfl, HO5.out, HD1'.out, HD2'.out, HBF8.out, HBN8.out, HF.out, HG8.out⟩
    case measure => simp [intOf]; omega
  ·have HK : Hid (q.take k = q) := by
    have e : k = q.length := by rw [HLQ.out]; omega
    rw [e]
    exact List.take_length
   rw [HK.out] at HO HRF ⊢
   go_wp2
   go_ret2
   exact .inl ⟨HRF.out, A, c, rfl, HO.out, HG.out⟩
def laidIn (os ns : List Nat) (n k : Nat) : List Nat := (List.range n).map fun i => if i ∈ os.take k then ns.getD i 0 else 0
theorem laidIn_zero (os ns : List Nat) (n : Nat) : laidIn os ns n 0 = List.replicate n 0 := by
 apply List.ext_getElem?
 intro i
 by_cases h : i < n
 ·simp [laidIn, h]
 ·simp [laidIn, h]
theorem laidIn_succ {os ns : List Nat} {n k o v : Nat} (ho : os[k]? = some o) (hv : ns.getD o 0 = v) : (laidIn os ns n k).set o v = laidIn os ns n (k + 1) := by
 obtain ⟨hk, e⟩ := List.getElem?_eq_some_iff.1 ho
 apply List.ext_getElem?
 intro i
 rw [List.getElem?_set]
 simp only [laidIn, List.length_map, List.length_range, List.getElem?_map]
 rw [take_snoc_nat os k hk, e]
 by_cases h : i < n
 ·by_cases e2 : o = i
  ·subst e2
   rw [if_pos rfl, if_pos h, List.getElem?_range h]
   subst hv
   simp
  ·rw [if_neg e2, List.getElem?_range h]
   have e3 : ¬ i = o := fun h => e2 h.symm
   simp [e3]
 ·rw [List.getElem?_eq_none (by simp; omega)]
  by_cases e2 : o = i
  ·subst e2; rw [if_pos rfl, if_neg h]; rfl
  ·rw [if_neg e2]
   rfl
theorem laidIn_all {os ns : List Nat} {n : Nat} (h : ∀ i, i < n → i ∈ os) (hn : ns.length = n) : laidIn os ns n os.length = ns := by
 apply List.ext_getElem?
 intro i
 by_cases hi : i < n
 ·have hm := h i hi
  simp [laidIn, hi, hm, show i < ns.length by omega]
 ·rw [List.getElem?_eq_none (by simp [laidIn]; omega), List.getElem?_eq_none (by omega)]
theorem len_laidIn (os ns : List Nat) (n k : Nat) : (laidIn os ns n k).length = n := by simp [laidIn]
def pX (l : List UInt8) (p : Nat) (wide big : Bool) : List Nat := nums l big p (pRow wide)
def pgOf (l : List UInt8) (p : Nat) (wide big : Bool) : Pg :=
 if wide then ⟨(pX l p wide big).getD 0 0, (pX l p wide big).getD 1 0, (pX l p wide big).getD 2 0, (pX l p wide big).getD 3 0, (pX l p wide big).getD 4 0, (pX l p wide big).getD 5 0, (pX l p wide big).getD 6 0, (pX l p wide big).getD 7 0⟩
 else ⟨(pX l p wide big).getD 0 0, (pX l p wide big).getD 6 0, (pX l p wide big).getD 1 0, (pX l p wide big).getD 2 0, (pX l p wide big).getD 3 0, (pX l p wide big).getD 4 0, (pX l p wide big).getD 5 0, (pX l p wide big).getD 7 0⟩
theorem pgOf_at (l : List UInt8) (p : Nat) (wide big : Bool) (k : Nat) (h : k < 8) : (pgOf l p wide big).N.getD ((pOrd wide).getD k 0) 0 = (pX l p wide big).getD k 0 := by
 cases wide <;> (match k, h with
  | 0, _ => rfl
  | 1, _ => rfl
  | 2, _ => rfl
  | 3, _ => rfl
  | 4, _ => rfl
  | 5, _ => rfl
  | 6, _ => rfl
  | 7, _ => rfl)
theorem pX_lt (l : List UInt8) (p : Nat) (wide big : Bool) (k : Nat) (h : k < 8) : (pX l p wide big).getD k 0 < 256 ^ ((pRow wide).getD k 0) := by
 have h1 : k < (nums l big p (pRow wide)).length := by rw [length_nums, len_pRow]; exact h
 have := nums_lt l big (pRow wide) p k h1
 rw [pX, List.getD_eq_getElem?_getD, List.getElem?_eq_getElem h1]
 exact this
theorem pX_64 (l : List UInt8) (p : Nat) (wide big : Bool) (k : Nat) (h : k < 8) : (pX l p wide big).getD k 0 < 18446744073709551616 := by
 refine Nat.lt_of_lt_of_le (pX_lt l p wide big k h) (show _ ≤ 256 ^ 8 from Nat.pow_le_pow_right (by decide) ?_)
 have e : (pRow wide).getD k 0 = pWid wide ((pOrd wide).getD k 0) := by
  rw [pRow, List.getD_eq_getElem?_getD, List.getD_eq_getElem?_getD, List.getElem?_map, List.getElem?_eq_getElem (by rw [len_pOrd]; exact h)]
  rfl
 rw [e]
 unfold pWid
 split <;> omega
theorem pgOf_ok (l : List UInt8) (p : Nat) (wide big : Bool) : (pgOf l p wide big).Ok := by
 have h := pX_64 l p wide big
 have h0 := pX_lt l p wide big 0 (by omega)
 cases wide
 ·have h6 := pX_lt l p false big 6 (by omega)
  exact ⟨h0, h6, h 1 (by omega), h 2 (by omega), h 3 (by omega), h 4 (by omega), h 5 (by omega), h 7 (by omega)⟩
 ·have h1 := pX_lt l p true big 1 (by omega)
  exact ⟨h0, h1, h 2 (by omega), h 3 (by omega), h 4 (by omega), h 5 (by omega), h 6 (by omega), h 7 (by omega)⟩
theorem pOrd_all (wide : Bool) (i : Nat) (h : i < 8) : i ∈ pOrd wide := by
 cases wide <;> (match i, h with
  | 0, _ => decide
  | 1, _ => decide
  | 2, _ => decide
  | 3, _ => decide
  | 4, _ => decide
  | 5, _ => decide
  | 6, _ => decide
  | 7, _ => decide)
structure Sc where
 na : Nat
 ty : Nat
 fl : Nat
 ad : Nat
 off : Nat
 sz : Nat
 li : Nat
 inf : Nat
 al : Nat
 en : Nat
structure Sc.Ok (p : Sc) : Prop where
 na : p.na < 4294967296
 ty : p.ty < 4294967296
 fl : p.fl < 18446744073709551616
 ad : p.ad < 18446744073709551616
 off : p.off < 18446744073709551616
 sz : p.sz < 18446744073709551616
 li : p.li < 4294967296
 inf : p.inf < 4294967296
 al : p.al < 18446744073709551616
 en : p.en < 18446744073709551616
def Sc.C (p : Sc) : Array Value := #[.int .u32 (p.na : Int), .int .u32 (p.ty : Int), .int .u64 (p.fl : Int), .int .u64 (p.ad : Int), .int .u64 (p.off : Int), .int .u64 (p.sz : Int), .int .u32 (p.li : Int), .int .u32 (p.inf : Int), .int .u64 (p.al : Int), .int .u64 (p.en : Int)]
def Sc.V (p : Sc) : Value := .agg p.C
def sc0 : Sc := ⟨0, 0, 0, 0, 0, 0, 0, 0, 0, 0⟩
def Sc.N (p : Sc) : List Nat := [p.na, p.ty, p.fl, p.ad, p.off, p.sz, p.li, p.inf, p.al, p.en]
def sSize (wide : Bool) : Nat := byWide wide 40 64
def sWid (wide : Bool) (i : Nat) : Nat := if ((i : Int) == 0) || ((i : Int) == 1) || ((i : Int) == 6) || ((i : Int) == 7) then 4 else byWide wide 4 8
def sRow (wide : Bool) : List Nat := [4, 4, byWide wide 4 8, byWide wide 4 8, byWide wide 4 8, byWide wide 4 8, 4, 4, byWide wide 4 8, byWide wide 4 8]
theorem Sc.one (p : Sc) : p.C.all (·.oneCell') = true := by simp [Sc.C, Value.oneCell']
theorem len_sRow (wide : Bool) : (sRow wide).length = 10 := by cases wide <;> rfl
theorem sum_sRow (wide : Bool) : sumN (sRow wide) = sSize wide := by cases wide <;> rfl
theorem sRow_at (wide : Bool) (k : Nat) (h : k < 10) : (sRow wide).getD k 0 = sWid wide k := by
 cases wide <;> (match k, h with
  | 0, _ => rfl
  | 1, _ => rfl
  | 2, _ => rfl
  | 3, _ => rfl
  | 4, _ => rfl
  | 5, _ => rfl
  | 6, _ => rfl
  | 7, _ => rfl
  | 8, _ => rfl
  | 9, _ => rfl)
theorem sWid_wid (wide : Bool) (i : Nat) : wid (sWid wide i : Nat) = true := by
 unfold sWid
 split
 ·rfl
 ·cases wide <;> rfl
theorem sSize_any (wide big : Bool) (w : World) : Calls Tryz.prog 62 #[.agg #[.bool wide, .bool big]] w fun e w' => e = .returned (.int .i64 (sSize wide : Nat)) ∧ Grow w w' := by
 cases wide
 ·go_enter Tryz.func62, Tryz.ntmps62
  go_wp2
  go_ret
  exact ⟨rfl, Grow.of_alloc _ _⟩
 ·go_enter Tryz.func62, Tryz.ntmps62
  go_wp2
  go_ret
  exact ⟨rfl, Grow.of_alloc _ _⟩
theorem sWid_any (wide big : Bool) (i : Nat) (w : World) : Calls Tryz.prog 116 #[.int .i64 i, .agg #[.bool wide, .bool big]] w fun e w' => e = .returned (.int .i64 (sWid wide i : Nat)) ∧ Grow w w' := by
 unfold sWid
 cases h0 : ((i : Int) == 0)
 ·cases h1 : ((i : Int) == 1)
  ·cases h6 : ((i : Int) == 6)
   ·cases h7 : ((i : Int) == 7)
    ·cases wide
     ·go_enter Tryz.func116, Tryz.ntmps116
      go_wp2
      go_ret
      exact ⟨rfl, Grow.of_alloc _ _⟩
     ·go_enter Tryz.func116, Tryz.ntmps116
      go_wp2
      go_ret
      exact ⟨rfl, Grow.of_alloc _ _⟩
    ·go_enter Tryz.func116, Tryz.ntmps116
     go_wp2
     go_ret
     exact ⟨rfl, Grow.of_alloc _ _⟩
   ·go_enter Tryz.func116, Tryz.ntmps116
    go_wp2
    go_ret
    exact ⟨rfl, Grow.of_alloc _ _⟩
  ·go_enter Tryz.func116, Tryz.ntmps116
   go_wp2
   go_ret
   exact ⟨rfl, Grow.of_alloc _ _⟩
 ·go_enter Tryz.func116, Tryz.ntmps116
  go_wp2
  go_ret
  exact ⟨rfl, Grow.of_alloc _ _⟩
theorem sNum_any (p : Sc) (ok : p.Ok) (w : World) : Calls Tryz.prog 115 #[p.V] w fun e w' => e = .returned (.agg (u64s p.N)) ∧ Grow w w' := by
 obtain ⟨na, ty, fl, ad, off, sz, li, inf, al, en⟩ := p
 obtain ⟨k1, k2, k3, k4, k5, k6, k7, k8, k9, k10⟩ := ok
 unfold Sc.V Sc.C
 simp only [] at *
 have z1 : IntKind.u64.wrap (na : Int) = (na : Int) := by rw [IntKind.wrap_u64]; omega
 have z2 : IntKind.u64.wrap (ty : Int) = (ty : Int) := by rw [IntKind.wrap_u64]; omega
 have z3 : IntKind.u64.wrap (li : Int) = (li : Int) := by rw [IntKind.wrap_u64]; omega
 have z4 : IntKind.u64.wrap (inf : Int) = (inf : Int) := by rw [IntKind.wrap_u64]; omega
 clear k1 k2 k3 k4 k5 k6 k7 k8 k9 k10
 go_enter Tryz.func115, Tryz.ntmps115
 go_wp2_with (refine wpList_store_row rfl 203 (.tmp 2) (.tmp 27) rfl (w.heap.size + 1) (u64s (Sc.N ⟨na, ty, fl, ad, off, sz, li, inf, al, en⟩)) rfl rfl _ _ (blk2 rfl).2.1 (by kernel_rfl) rfl (one_u64s _) ?_)
 refine bodyPost_ret (results_cell_row (cs := u64s (Sc.N ⟨na, ty, fl, ad, off, sz, li, inf, al, en⟩)) rfl _ _ (w.heap.size + 1) _ (0, 0) _ rfl ((blk2 rfl).2.1.set _) Tryz.underlying203 rfl (by kernel_rfl)) rfl ?_
 exact ⟨rfl, Grow.set (blk2 rfl).2.2 (Nat.le_succ _) _⟩
theorem sHdr_any (x0 x1 x2 x3 x4 x5 x6 x7 x8 x9 : Nat) (w : World) (k0 : x0 < 4294967296) (k1 : x1 < 4294967296) (k6 : x6 < 4294967296) (k7 : x7 < 4294967296) :
  Calls Tryz.prog 122 #[.agg (u64s [x0, x1, x2, x3, x4, x5, x6, x7, x8, x9])] w fun e w' => e = .returned (Sc.V ⟨x0, x1, x2, x3, x4, x5, x6, x7, x8, x9⟩) ∧ Grow w w' := by
 have z0 : IntKind.u32.wrap (x0 : Int) = (x0 : Int) := by rw [IntKind.wrap_u32]; omega
 have z1 : IntKind.u32.wrap (x1 : Int) = (x1 : Int) := by rw [IntKind.wrap_u32]; omega
 have z6 : IntKind.u32.wrap (x6 : Int) = (x6 : Int) := by rw [IntKind.wrap_u32]; omega
 have z7 : IntKind.u32.wrap (x7 : Int) = (x7 : Int) := by rw [IntKind.wrap_u32]; omega
 clear k0 k1 k6 k7
 unfold u64s
 simp only [List.map_cons, List.map_nil]
 go_enter Tryz.func122, Tryz.ntmps122
 go_wp2_with (refine wpList_store_row rfl 136 (.tmp 2) (.tmp 27) rfl (w.heap.size + 1) (Sc.C ⟨x0, x1, x2, x3, x4, x5, x6, x7, x8, x9⟩) rfl rfl _ _ (blk2 rfl).2.1 (by kernel_rfl) rfl (Sc.one _) ?_)
 refine bodyPost_ret (results_cell_row (cs := Sc.C ⟨x0, x1, x2, x3, x4, x5, x6, x7, x8, x9⟩) rfl _ _ (w.heap.size + 1) _ (0, 0) _ rfl ((blk2 rfl).2.1.set _) Tryz.underlying136 rfl (by kernel_rfl)) rfl ?_
 exact ⟨rfl, Grow.set (blk2 rfl).2.2 (Nat.le_succ _) _⟩
theorem Blk.belowS {w W : World} {g B : Nat} {t : TypeId} {cs : Array Value} (h : Blk w g t cs) (hb : Below B w W) (hg : g < B) : Blk W g t cs := by rw [Blk, hb.block g hg]; exact h
def Sc.Q (p : Sc) (wide : Bool) : List (Nat × Nat) := p.N.zip (sRow wide)
def Sc.L (p : Sc) (wide big : Bool) : List UInt8 := rowB big (p.Q wide)
theorem Sc.lenN (p : Sc) : p.N.length = 10 := rfl
theorem Sc.lenQ (p : Sc) (wide : Bool) : (p.Q wide).length = 10 := by rw [Sc.Q, List.length_zip, len_sRow]; rfl
theorem Sc.fstQ (p : Sc) (wide : Bool) : (p.Q wide).map (·.1) = p.N := List.map_fst_zip (by rw [len_sRow]; exact Nat.le_refl _)
theorem Sc.sndQ (p : Sc) (wide : Bool) : (p.Q wide).map (·.2) = sRow wide := List.map_snd_zip (by rw [len_sRow]; exact Nat.le_refl _)
theorem Sc.lenL (p : Sc) (wide big : Bool) : (p.L wide big).length = sSize wide := by
 rw [Sc.L, length_rowB, ← sum_sRow, Sc.sndQ]
theorem Sc.atN (p : Sc) (ok : p.Ok) (i : Nat) : p.N.getD i 0 < 18446744073709551616 := by
 obtain ⟨k1, k2, k3, k4, k5, k6, k7, k8, k9, k10⟩ := ok
 match i with
 | 0 => show p.na < _; omega
 | 1 => show p.ty < _; omega
 | 2 => show p.fl < _; omega
 | 3 => show p.ad < _; omega
 | 4 => show p.off < _; omega
 | 5 => show p.sz < _; omega
 | 6 => show p.li < _; omega
 | 7 => show p.inf < _; omega
 | 8 => show p.al < _; omega
 | 9 => show p.en < _; omega
 | _ + 10 => show 0 < _; omega
theorem Sc.atQ (p : Sc) (wide : Bool) (k : Nat) (h : k < (p.Q wide).length) : (p.Q wide)[k].1 = p.N.getD k 0 ∧ (p.Q wide)[k].2 = sWid wide k := by
 have hk : k < 10 := by rw [p.lenQ] at h; exact h
 simp only [Sc.Q, List.getElem_zip]
 constructor
 ·rw [List.getD_eq_getElem?_getD, List.getElem?_eq_getElem (by rw [p.lenN]; exact hk)]; rfl
 ·rw [← sRow_at wide k hk, List.getD_eq_getElem?_getD, List.getElem?_eq_getElem (by rw [len_sRow]; exact hk)]; rfl
theorem Sc.rowed (p : Sc) (ok : p.Ok) (wide : Bool) : Rowed (p.Q wide) :=
 ⟨by rw [p.lenQ]; omega, fun k hk => by rw [(p.atQ wide k hk).2]; exact sWid_wid _ _, fun k hk => by rw [(p.atQ wide k hk).1]; exact p.atN ok _⟩
theorem makeS (wide : Bool) (w : World) : (Instr.makeSlice 33 (.int .i64 0) (.int .i64 (sSize wide : Nat))).run Tryz.prog w = .ok (.slice (some ⟨w.heap.size, 0, none⟩) 0 (sSize wide))
  (w.alloc (.cells (Array.replicate (sSize wide) (.int .u8 0)) 5)) := by cases wide <;> kernel_rfl
def SPut (p : Sc) (wide big : Bool) (w : World) (e : Ending) (w' : World) : Prop :=
 (rowF (p.Q wide) = true ∧ ∃ A c, e = .returned (.tuple #[.slice A (p.L wide big).length c, .nilIface]) ∧ OB w' w.heap.size 5 A (p.L wide big).length c (p.L wide big) ∧ Grow w w') ∨
 (rowF (p.Q wide) = false ∧ e = .returned (.tuple #[.slice none 0 0, .iface 81 (.int .i64 1)]) ∧ Grow w w')
set_option maxHeartbeats 400000 in
theorem sPut_any (p : Sc) (ok : p.Ok) (wide big : Bool) (w : World) : Calls Tryz.prog 60 #[p.V, .agg #[.bool wide, .bool big]] w (SPut p wide big w) := by
 have HR := hid (p.rowed ok wide)
 have HN := hid (fun w => sNum_any p ok w)
 have HSz := hid (fun w => sSize_any wide big w)
 have HWi := hid (fun i w => sWid_any wide big i w)
 have HLQ := hid (p.lenQ wide)
 have HMk := hid (makeS wide)
 have HSp : Hid (sSize wide ≤ 64) := by cases wide <;> exact hid (by decide)
 have HAN : Hid (∀ i, i < 10 → (u64s p.N)[i]? = some (.int .u64 (p.N.getD i 0 : Nat))) := hid (fun i hi => idx_u64s _ _ hi)
 have HAQ := hid (p.atQ wide)
 have HC1 : Hid (p.C.size = 10) := hid rfl
 unfold SPut Sc.L
 unfold Sc.V
 generalize p.Q wide = q at HR HLQ HAQ ⊢
 generalize u64s p.N = RN at HN HAN
 generalize p.N = pn at HAN HAQ
 unfold Sc.V at HN
 generalize p.C = C at HN HC1 ⊢
 generalize sSize wide = sz at HSz HMk HSp
 go_enter Tryz.func60, Tryz.ntmps60
 go_wp2_with fail
 generalize hW : World.alloc _ _ = W0
 obtain ⟨b1, bf, hg0⟩ := blk2 hW
 clear hW
 refine (HSz.out W0).mono ?_
 rintro e w1 ⟨rfl, hg1⟩
 have HB1 := hid (b1.grow hg1)
 have HBF1 := hid (bf.grow hg1)
 have HG1 : Hid (Grow w w1) := hg0.trans hg1
 clear b1 bf hg0 hg1
 have hmk := HMk.out w1
 have HB2 := hid (HB1.out.alloc (.cells (Array.replicate sz (.int .u8 0)) 5))
 go_wp2_with (refine wpList_load_row rfl 136 (.tmp 2) rfl w.heap.size rfl _ C (0, 0) _ HB2.out Tryz.underlying136 rfl (by rw [HC1.out]; kernel_rfl) ?_)
 clear hmk HMk
 refine (HN.out _).mono ?_
 rintro e w3 ⟨rfl, hg3⟩
 have HO3 := hid ((OB.room w1 w1.heap.size 5 sz (.int .u8 0) (by have := HSp.out; unfold maxLen; omega) (Nat.le_refl _)).keep hg3)
 have HBF3 := hid ((HBF1.out.alloc _).grow hg3)
 have HG3 : Hid (Grow w w3) := (HG1.out.trans (Grow.of_alloc _ _)).trans hg3
 have HD : Hid (w.heap.size + 1 < w1.heap.size) := HBF1.out.lt
 have HDs : Hid (w1.heap.size ≤ w3.heap.size) := by have := hg3.size; simp at this; exact hid (by omega)
 generalize w1.heap.size = g7 at HO3 HD HDs ⊢
 clear hg3 HG1 HBF1 HB1 HB2
 go_wp2_with fail
 go_loopw [6, 15] (fun x i wr => ∃ (k : Nat) (A : Option Addr) (c : Nat), k ≤ 10 ∧ i = .int .i64 k ∧ x = .slice A (rowB big (q.take k)).length c ∧ OB wr g7 5 A (rowB big (q.take k)).length c (rowB big (q.take k)) ∧
  Blk wr (w.heap.size + 1) 23 #[.bool wide, .bool big] ∧ rowF (q.take k) = true ∧ Grow w wr ∧ g7 ≤ wr.heap.size) (fun _ i _ => 10 - (intOf i).toNat)
 case atStart => exact ⟨0, some ⟨g7, 0, none⟩, sz, by omega, rfl, rfl, HO3.out, HBF3.out, rfl, HG3.out, HDs.out⟩
 case round =>
  obtain ⟨k, A, c, hk, rfl, rfl, ho, hbf, hrf, hg, hgs⟩ := hrel
  have HO := hid ho
  have HBF := hid hbf
  have HRF := hid hrf
  have HG := hid hg
  have HGs := hid hgs
  clear ho hbf hrf hg hgs HO3 HBF3 HG3 HDs
  by_cases hlt : k < 10
  ·have hkq : k < q.length := by rw [HLQ.out]; exact hlt
   have HB := hid (rowB_succ big q k hkq)
   have HF := hid (rowF_succ q k hkq)
   have HW := hid (HR.out.wide k hkq)
   have HZ := hid (fun h => rowF_false hkq h)
   have HLE := hid (rowB_le HR.out big k (by omega))
   have hv := HR.out.lt k hkq
   have hw8 := HR.out.wide8 k hkq
   have HK1 := hid (HAN.out k hlt)
   obtain ⟨e1, e2⟩ := HAQ.out k hkq
   rw [HRF.out, Bool.true_and] at HF
   rw [← e1] at HK1
   have HW2 := hid (fun w => HWi.out k w)
   rw [← e2] at HW2
   clear e1 e2
   generalize q[k].1 = v at HB HF HZ hv HK1
   generalize q[k].2 = m at HB HF HZ HW hw8 HW2
   obtain ⟨y0, y1⟩ := HBF.out.c2
   clear hkq
   go_wp2_with (refine wpList_index rfl 203 28 (.tmp 14) (.tmp 15) rfl 10 _ Tryz.underlying203 Tryz.underlying28 rfl (by kernel_rfl) RN k (.int .u64 (v : Int)) rfl rfl hlt HK1.out ?_)
   clear y0 y1
   refine (HW2.out _).mono ?_
   rintro e w4 ⟨rfl, hg4⟩
   have HO4 := hid (HO.out.keep hg4)
   have HBF4 := hid (HBF.out.grow hg4)
   have HG4 : Hid (Grow w w4) := HG.out.trans hg4
   have HGs4 : Hid (g7 ≤ w4.heap.size) := Nat.le_trans HGs.out hg4.size
   clear hg4 HO HBF HG HGs
   go_wp2_with fail
   refine (fits_any v m _ (by omega) (by omega)).mono ?_
   rintro e w5 ⟨rfl, rfl⟩
   rw [fits_row v m HW.out]
   cases hfit : decide (v < 256 ^ m)
   ·have HZ2 := hid (HZ.out hfit)
    clear hfit
    go_wp2
    go_ret2
    exact .inr ⟨HZ2.out, rfl, HG4.out⟩
   ·rw [hfit] at HF
    clear hfit HZ
    obtain ⟨y0, y1⟩ := HBF4.out.c2
    go_wp2_with fail
    clear y0 y1
    refine (put_wide v m big _ HW.out (by omega)).mono ?_
    rintro e w7 ⟨A3, c3, rfl, ho3, hb3⟩
    have HO7 := hid (HO4.out.keep hb3)
    have HO3 := hid ho3
    have HBF7 := hid (HBF4.out.grow hb3)
    have HG7 : Hid (Grow w w7) := HG4.out.trans hb3
    have HGs7 : Hid (g7 ≤ w7.heap.size) := Nat.le_trans HGs4.out hb3.size
    clear ho3 hb3 HO4 HBF4 HG4 HGs4
    rw [Int.toNat_natCast] at HO3
    have HS : Hid (w.heap.size ≤ g7) := by have := HD.out; exact hid (by omega)
    go_wp2_with (refine wpList_appendB w7 rfl (.tmp 27) (.tmp 32) 33 rfl g7 5 Tryz.underlying33 (by kernel_rfl) A _ c _ rfl HO7.out w7.heap.size A3 m c3 _ rfl HO3.out.rb (by have := HLE.out; omega) HGs7.out ?_; intro A5 c5 w8 ho5 hb5)
    have HBF8 := hid (HBF7.out.belowS hb5 HD.out)
    have HG8 : Hid (Grow w w8) := HG7.out.trans' (hb5.mono HS.out)
    have HGs8 : Hid (g7 ≤ w8.heap.size) := Nat.le_trans HGs7.out hb5.size
    rw [← HB.out] at ho5
    have hm : (rowB big (q.take k)).length + m = (rowB big (q.take (k + 1))).length := by rw [HB.out, List.length_append, length_putB]
    rw [hm] at ho5 ⊢
    have HO5 := hid ho5
    clear ho5 hb5 hm HO3 HO7 HG7 HBF7 HGs7
    go_roundw
    case rel => exact ⟨k + 1, A5, c5, by omega, by go_num, rfl, HO5.out, HBF8.out, HF.out, HG8.out, HGs8.out⟩
    case measure => simp [intOf]; omega
  ·have HK : Hid (q.take k = q) := by
    have e : k = q.length := by rw [HLQ.out]; omega
    rw [e]
    exact List.take_length
   rw [HK.out] at HO HRF ⊢
   have HO' := hid (HO.out.mono (base' := w.heap.size) (by have := HD.out; omega))
   go_wp2
   go_ret2
   exact .inl ⟨HRF.out, A, c, rfl, HO'.out, HG.out⟩
def laidUp (ns : List Nat) (n k : Nat) : List Nat := (List.range n).map fun i => if i < k then ns.getD i 0 else 0
theorem laidUp_zero (ns : List Nat) (n : Nat) : laidUp ns n 0 = List.replicate n 0 := by
 apply List.ext_getElem?
 intro i
 by_cases h : i < n
 ·simp [laidUp, h]
 ·simp [laidUp, h]
theorem len_laidUp (ns : List Nat) (n k : Nat) : (laidUp ns n k).length = n := by simp [laidUp]
theorem laidUp_succ {ns : List Nat} {n k v : Nat} (hv : ns.getD k 0 = v) : (laidUp ns n k).set k v = laidUp ns n (k + 1) := by
 apply List.ext_getElem?
 intro i
 rw [List.getElem?_set]
 simp only [laidUp, List.length_map, List.length_range, List.getElem?_map]
 by_cases h : i < n
 ·by_cases e2 : k = i
  ·subst e2
   rw [if_pos rfl, if_pos h, List.getElem?_range h]
   subst hv
   simp
  ·rw [if_neg e2, List.getElem?_range h]
   have e3 : i < k ↔ i < k + 1 := by omega
   simp only [Option.map_some, e3]
 ·rw [List.getElem?_eq_none (by simp; omega)]
  by_cases e2 : k = i
  ·subst e2; rw [if_pos rfl, if_neg h]; rfl
  ·rw [if_neg e2]
   rfl
theorem laidUp_all {ns : List Nat} {n : Nat} (hn : ns.length = n) : laidUp ns n n = ns := by
 apply List.ext_getElem?
 intro i
 by_cases hi : i < n
 ·simp [laidUp, hi, show i < ns.length by omega]
 ·rw [List.getElem?_eq_none (by simp [laidUp]; omega), List.getElem?_eq_none (by omega)]
def sX (l : List UInt8) (p : Nat) (wide big : Bool) : List Nat := nums l big p (sRow wide)
def scOf (l : List UInt8) (p : Nat) (wide big : Bool) : Sc :=
 ⟨(sX l p wide big).getD 0 0, (sX l p wide big).getD 1 0, (sX l p wide big).getD 2 0, (sX l p wide big).getD 3 0, (sX l p wide big).getD 4 0, (sX l p wide big).getD 5 0, (sX l p wide big).getD 6 0, (sX l p wide big).getD 7 0, (sX l p wide big).getD 8 0, (sX l p wide big).getD 9 0⟩
theorem sX_len (l : List UInt8) (p : Nat) (wide big : Bool) : (sX l p wide big).length = 10 := by rw [sX, length_nums, len_sRow]
theorem scOf_N (l : List UInt8) (p : Nat) (wide big : Bool) : (scOf l p wide big).N = sX l p wide big := by
 obtain ⟨x0, x1, x2, x3, x4, x5, x6, x7, x8, x9, hx⟩ := list10 (sX_len l p wide big)
 unfold scOf
 rw [hx]
 rfl
theorem sX_lt (l : List UInt8) (p : Nat) (wide big : Bool) (k : Nat) (h : k < 10) : (sX l p wide big).getD k 0 < 256 ^ ((sRow wide).getD k 0) := by
 have h1 : k < (nums l big p (sRow wide)).length := by rw [length_nums, len_sRow]; exact h
 have := nums_lt l big (sRow wide) p k h1
 rw [sX, List.getD_eq_getElem?_getD, List.getElem?_eq_getElem h1]
 exact this
theorem sX_64 (l : List UInt8) (p : Nat) (wide big : Bool) (k : Nat) (h : k < 10) : (sX l p wide big).getD k 0 < 18446744073709551616 := by
 refine Nat.lt_of_lt_of_le (sX_lt l p wide big k h) (show _ ≤ 256 ^ 8 from Nat.pow_le_pow_right (by decide) ?_)
 rw [sRow_at wide k h]
 unfold sWid
 split
 ·omega
 ·cases wide <;> decide
theorem scOf_ok (l : List UInt8) (p : Nat) (wide big : Bool) : (scOf l p wide big).Ok := by
 have h := sX_64 l p wide big
 exact ⟨sX_lt l p wide big 0 (by omega), sX_lt l p wide big 1 (by omega), h 2 (by omega), h 3 (by omega), h 4 (by omega), h 5 (by omega), sX_lt l p wide big 6 (by omega), sX_lt l p wide big 7 (by omega), h 8 (by omega), h 9 (by omega)⟩
end Go.Proofs.YtfglppjilcaafaaGreatDoor
