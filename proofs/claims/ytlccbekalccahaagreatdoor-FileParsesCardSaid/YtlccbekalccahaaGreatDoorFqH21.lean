/-
  Several texts in one: The contract of prog.
-/
import Derived.Test.YtlccbekalccahaaGreatDoorFqH15
import Derived.Lib.SmallJoins
namespace Go.Proofs.YtlccbekalccahaaGreatDoor
open Go.Lib (hid)
open Go.RowKit
def PGot (l : List UInt8) (p : Nat) (wide big : Bool) (w : World) (e : Ending) (w' : World) : Prop :=
 (p + pSize wide ≤ l.length ∧ e = .returned (.tuple #[(pgOf l p wide big).V, .nilIface]) ∧ Grow w w') ∨
 (l.length < p + pSize wide ∧ e = .returned (.tuple #[pg0.V, .iface 81 (.int .i64 2)]) ∧ Grow w w')
theorem sz_pg (p : Pg) : (Tryz.prog.info? 76).map (·.size) = some p.C.size := by kernel_rfl
theorem Blk.put {w : World} {g : Nat} {t : TypeId} {l : List Nat} (h : Blk w g t (u64s l)) (i x : Nat) : Blk (w.setCell ⟨g, i, none⟩ (.int .u64 (x : Int))) g t (u64s (l.set i x)) := by
 have := Joins.block_setCell (i := i) h (.int .u64 (x : Int))
 rw [Blk, this]
 simp [u64s, List.map_set]
theorem pgot_ret {K : Ending → World → Prop} {W : World} {tmps : Array Value} {g : Nat} {err : Value} {t : TypeId} {h : Pg} (ht : tmps.getD 6 undef = .pointer (some ⟨g, 0, none⟩)) (he : tmps.getD 7 undef = err)
  (hx : Blk W g t h.C) (hk : K (.returned (.tuple #[h.V, err])) W) : bodyPost Tryz.prog Tryz.f69 K .ret ⟨tmps, []⟩ W := by
 refine bodyPost_ret (v := .tuple #[h.V, err]) ?_ rfl hk
 rw [results_cell_tmp rfl, ht, he]
 simp [asAddr, Result.andThen, hx.var _ _ Tryz.underlying76 rfl (by kernel_rfl)]
 rfl
set_option maxHeartbeats 400000 in
theorem pGet_any (A : Option Addr) (n c : Nat) (l : List UInt8) (p : Nat) (wide big : Bool) (w : World) (h : RB w w.heap.size A n c l) (hp : p < 18446744073709551616) :
  Calls Tryz.prog 69 #[.slice A n c, .int .u64 p, .agg #[.bool wide, .bool big]] w (PGot l p wide big w) := by
 have HR := hid h
 have HLen := hid h.len
 have hcp := h.cap
 have hmx := h.max
 unfold maxLen at hmx
 clear h
 have HSz := hid (fun w => pSize_any wide big w)
 have HOr := hid (fun w => pOrd_any wide big w)
 have HWi := hid (fun i w => pWid_any wide big i w)
 have HAO : Hid (∀ k, k < 8 → (i64s (pOrd wide))[k]? = some (.int .i64 ((pOrd wide).getD k 0 : Nat))) := hid (fun k hk => idx_i64s _ _ (by rw [len_pOrd]; exact hk))
 have HOl := hid (pOrd_lt wide)
 have HOk : Hid (∀ k, k < 8 → (pOrd wide)[k]? = some ((pOrd wide).getD k 0)) := hid (fun k hk => by rw [List.getD_eq_getElem?_getD, List.getElem?_eq_getElem (by rw [len_pOrd]; exact hk)]; rfl)
 have HAt := hid (pgOf_at l p wide big)
 have HNA : Hid (∀ k, k < 8 → (pX l p wide big).getD k 0 = getB ((l.drop (p + sumN ((pRow wide).take k))).take (pWid wide ((pOrd wide).getD k 0))) big) := hid (fun k hk => by
  have h1 : k < (pRow wide).length := by rw [len_pRow]; exact hk
  have := nums_at l big (pRow wide) p k h1
  rw [pX, List.getD_eq_getElem?_getD, this]
  simp only [pRow, List.getElem_map, Option.getD_some]
  rw [List.getD_eq_getElem?_getD, List.getElem?_eq_getElem (by rw [len_pOrd]; exact hk)]
  rfl)
 have HSu : Hid (∀ k, k < 8 → sumN ((pRow wide).take (k + 1)) = sumN ((pRow wide).take k) + pWid wide ((pOrd wide).getD k 0)) := hid (fun k hk => by
  have h1 : k < (pRow wide).length := by rw [len_pRow]; exact hk
  rw [sumN_succ _ k h1]
  simp only [pRow, List.getElem_map]
  rw [List.getD_eq_getElem?_getD, List.getElem?_eq_getElem (by rw [len_pOrd]; exact hk)]
  rfl)
 have HSl : Hid (∀ k, sumN ((pRow wide).take k) ≤ pSize wide) := hid (fun k => by rw [← sum_pRow]; exact sumN_le _ _)
 have HWw := hid (pWid_wid wide)
 have HHd : Hid (∀ w, Calls Tryz.prog 115 #[.agg (u64s (pgOf l p wide big).N)] w fun e w' => e = .returned (pgOf l p wide big).V ∧ Grow w w') := hid (fun w =>
  have ok := pgOf_ok l p wide big
  pHdr_any _ _ _ _ _ _ _ _ w ok.ty ok.fl)
 have HAll : Hid (laidIn (pOrd wide) (pgOf l p wide big).N 8 8 = (pgOf l p wide big).N) := hid (by
  have := laidIn_all (os := pOrd wide) (ns := (pgOf l p wide big).N) (n := 8) (pOrd_all wide) rfl
  rwa [len_pOrd] at this)
 have HSp : Hid (pSize wide ≤ 56) := by cases wide <;> exact hid (by decide)
 have HC : Hid ((pgOf l p wide big).C.size = 8) := hid rfl
 have HC1 := hid (pgOf l p wide big).one
 unfold PGot
 generalize hpg : pgOf l p wide big = pg at HAt HHd HAll HC HC1 ⊢
 clear hpg
 generalize pX l p wide big = xs at HAt HNA
 generalize i64s (pOrd wide) = RO at HOr HAO
 generalize pRow wide = row at HNA HSu HSl
 generalize pOrd wide = os at HAO HOl HOk HAt HNA HSu HAll
 generalize pSize wide = sz at HSz HSp HSl ⊢
 generalize hns : pg.N = ns at HAt HHd HAll
 have HVC : Hid (pg.V = .agg pg.C) := hid rfl
 clear hns
 go_enter Tryz.func69, Tryz.ntmps69
 go_wp2_with fail
 generalize hW : World.alloc _ _ = W0
 obtain ⟨bf, b6, hg0⟩ := blk2 hW
 clear hW
 refine (HSz.out W0).mono ?_
 rintro e w1 ⟨rfl, hg1⟩
 have HBF1 := hid (bf.grow hg1)
 have HB61 : Hid (Blk w1 (w.heap.size + 1) 76 pg0.C) := b6.grow hg1
 have HG1 : Hid (Grow w w1) := hg0.trans hg1
 clear bf b6 hg0 hg1
 have z1 : IntKind.u64.wrap (sz : Int) = (sz : Int) := by rw [IntKind.wrap_u64]; have := HSp.out; omega
 have z2 : IntKind.u64.wrap (n : Int) = (n : Int) := by rw [IntKind.wrap_u64]; omega
 go_wp2_with fail
 refine (within_any p sz n _ (by omega) (by omega) (by omega)).mono ?_
 rintro e w2 ⟨rfl, rfl⟩
 have hwt : wthn (p : Int) (sz : Int) (n : Int) = decide (p + sz ≤ l.length) := by
  have e := HLen.out
  simp only [wthn]
  rw [Bool.eq_iff_iff, decide_eq_true_iff, decide_eq_true_iff]; omega
 rw [hwt]
 clear hwt z1 z2
 by_cases hin : p + sz ≤ l.length
 ·rw [decide_eq_true hin]
  have HIn := hid hin
  have HS1 := HSp.out
  have HSl2 : Hid (∀ k, p + sumN (row.take k) ≤ n) := hid (fun k => by have := HSl.out k; have := HLen.out; omega)
  clear hin
  obtain ⟨y0, y1⟩ := (HBF1.out.alloc (.cells #[.int .u64 0, .int .u64 0, .int .u64 0, .int .u64 0, .int .u64 0, .int .u64 0, .int .u64 0, .int .u64 0] 180)).c2
  go_wp2_with fail
  clear y0 y1
  refine (HOr.out _).mono ?_
  rintro e w3 ⟨rfl, hg3⟩
  have hb8 : Blk w3 w1.heap.size 180 (u64s (List.replicate 8 0)) := (Blk.new w1 180 (u64s (List.replicate 8 0))).grow hg3
  rw [← laidIn_zero os ns 8] at hb8
  have HB8 := hid hb8
  have HBF3 := hid ((HBF1.out.alloc _).grow hg3)
  have HB63 := hid ((HB61.out.alloc _).grow hg3)
  have HG3 : Hid (Grow w w3) := (HG1.out.trans (Grow.of_alloc _ _)).trans hg3
  have HG8 : Hid (w.heap.size + 1 < w1.heap.size) := HB61.out.lt
  generalize w1.heap.size = g8 at HB8 HG8 ⊢
  clear hb8 hg3 HBF1 HB61 HG1
  go_wp2_with fail
  go_loopw [1, 25] (fun a i wr => ∃ (k q : Nat), k ≤ 8 ∧ i = .int .i64 k ∧ a = .int .u64 q ∧ q = p + sumN (row.take k) ∧ Blk wr w.heap.size 23 #[.bool wide, .bool big] ∧ Blk wr (w.heap.size + 1) 76 pg0.C ∧ Blk wr g8 180 (u64s (laidIn os ns 8 k)) ∧ Grow w wr) (fun _ i _ => 8 - (intOf i).toNat)
  case atStart => exact ⟨0, p, by omega, rfl, rfl, rfl, HBF3.out, HB63.out, HB8.out, HG3.out⟩
  case round =>
   obtain ⟨k, q, hk, rfl, rfl, hq, hbf, hb6, hb8, hg⟩ := hrel
   have HBF := hid hbf
   have HB6 := hid hb6
   have HB8k := hid hb8
   have HG := hid hg
   have HQ := hid hq
   have hqn : q ≤ n := by rw [hq]; exact HSl2.out k
   clear hbf hb6 hb8 hg hq HBF3 HB63 HB8 HG3
   by_cases hlt : k < 8
   ·have HK2 := hid (HAO.out k hlt)
    have HKo := hid (HOk.out k hlt)
    have ho8 := HOl.out k hlt
    have HAk := hid (HAt.out k hlt)
    have HNk := hid (HNA.out k hlt)
    have HSk := hid (HSu.out k hlt)
    rw [← HQ.out] at HNk
    have HW2 := hid (fun w => HWi.out (os.getD k 0) w)
    have HWk := hid (HWw.out (os.getD k 0))
    have hqm : q + pWid wide (os.getD k 0) ≤ n := by rw [HQ.out, Nat.add_assoc, ← HSk.out]; exact HSl2.out (k + 1)
    rw [HNk.out] at HAk
    generalize pWid wide (os.getD k 0) = m at HNk HSk HW2 HWk hqm HAk
    generalize os.getD k 0 = i at HK2 HKo ho8 HAk HW2
    have z1 : (0 : Int) ≤ (i : Int) := by omega
    have z2 : (i : Int) < 8 := by omega
    obtain ⟨y0, y1⟩ := HBF.out.c2
    go_wp2_with (refine wpList_index rfl 182 3 (.tmp 24) (.tmp 25) rfl 8 _ Tryz.underlying182 Tryz.underlying3 rfl (by kernel_rfl) RO k (.int .i64 (i : Int)) rfl rfl hlt HK2.out ?_)
    clear y0 y1
    refine (HW2.out _).mono ?_
    rintro e w4 ⟨rfl, hg4⟩
    have HBF4 := hid (HBF.out.grow hg4)
    have HB64 := hid (HB6.out.grow hg4)
    have HB84 := hid (HB8k.out.grow hg4)
    have HG4 : Hid (Grow w w4) := HG.out.trans hg4
    clear hg4 HBF HB6 HB8k HG
    obtain ⟨y0, y1⟩ := HBF4.out.c2
    go_wp2_with fail
    clear y0 y1
    refine (get_any A n c l _ q m big _ (HR.out.belowAt HG4.out (Nat.le_refl _)) (by omega)).mono ?_
    rintro e w5 ⟨rfl, j, hw5⟩
    have hgb : gotB l q m = true := by
     simp only [gotB, HWk.out, Bool.true_and, wthn]
     exact decide_eq_true (by have := HLen.out; omega)
    have hgv : gotV l q m big = getB ((l.drop q).take m) big := by
     simp only [gotV, hgb, if_true, Int.toNat_natCast]
    rw [hgb, hgv]
    generalize getB ((l.drop q).take m) big = v at HAk ⊢
    have HBF5 : Hid (Blk w5 w.heap.size 23 #[.bool wide, .bool big]) := by rw [hw5]; exact HBF4.out
    have HB65 : Hid (Blk w5 (w.heap.size + 1) 76 pg0.C) := by rw [hw5]; exact HB64.out
    have HB85 : Hid (Blk w5 g8 180 (u64s (laidIn os ns 8 k))) := by rw [hw5]; exact HB84.out
    have HG5 : Hid (Grow w w5) := by rw [hw5]; exact HG4.out.trans (Grow.of_drewN _ _)
    clear hgb hgv hw5 HBF4 HB64 HB84 HG4
    have c1 : w5.cell? ⟨g8, i, none⟩ = some (.int .u64 ((laidIn os ns 8 k).getD i 0 : Nat)) := by rw [HB85.out.at, idx_u64s _ _ (by rw [len_laidIn]; exact ho8)]
    have f1 := HB85.out.soft i
    have hB := HB85.out.put i v
    rw [laidIn_succ HKo.out HAk.out] at hB
    have HB86 := hid hB
    have HBF6 := hid (HBF5.out.cellset (a := ⟨g8, i, none⟩) (show w.heap.size ≠ g8 by have := HG8.out; omega) (.int .u64 (v : Int)))
    have HB66 := hid (HB65.out.cellset (a := ⟨g8, i, none⟩) (show w.heap.size + 1 ≠ g8 by have := HG8.out; omega) (.int .u64 (v : Int)))
    have HG6 : Hid (Grow w (w5.setCell ⟨g8, i, none⟩ (.int .u64 (v : Int)))) := Grow.cellset HG5.out (by have := HG8.out; omega) _ _
    have z3 : IntKind.u64.wrap (m : Int) = (m : Int) := by rw [IntKind.wrap_u64]; omega
    have z4 : IntKind.u64.wrap ((q : Int) + (m : Int)) = ((q + m : Nat) : Int) := by rw [IntKind.wrap_u64]; omega
    clear hB
    go_wp2_with fail
    go_roundw
    case rel => exact ⟨k + 1, q + m, by omega, by go_num, rfl, by rw [HSk.out, HQ.out]; omega, HBF6.out, HB66.out, HB86.out, HG6.out⟩
    case measure => simp [intOf]; omega
   ·have e : k = 8 := by omega
    rw [e, HAll.out] at HB8k
    have HNs : Hid ((u64s ns).size = 8) := hid (by rw [← HAll.out]; simp [u64s, len_laidIn])
    generalize u64s ns = RN at HHd HB8k HNs
    clear HSl HSl2 HNA
    go_wp2_with (refine wpList_load_row rfl 180 (.tmp 8) rfl g8 rfl _ RN (0, 0) _ HB8k.out Tryz.underlying180 rfl (by rw [HNs.out]; kernel_rfl) ?_)
    refine (HHd.out _).mono ?_
    rintro e w5 ⟨rfl, hg5⟩
    have HB65 := hid (HB6.out.grow hg5)
    have HG5 : Hid (Grow w w5) := HG.out.trans hg5
    clear hg5
    rw [HVC.out]
    have HB66 := hid (HB65.out.set pg.C)
    have HG6 : Hid (Grow w (w5.setRow (w.heap.size + 1) pg.C)) := Grow.set HG5.out (Nat.le_succ _) _
    obtain ⟨R, hR⟩ : ∃ R, R = pg.C := ⟨_, rfl⟩
    rw [← hR] at HC HC1 HG6 HB66 ⊢
    have HR2 := hid hR
    clear hR
    go_wp2_with (refine wpList_store_row rfl 76 (.tmp 6) (.tmp 48) rfl (w.heap.size + 1) R rfl rfl _ _ HB65.out (by rw [HC.out]; kernel_rfl) (by rw [HC.out]; rfl) HC1.out ?_)
    rw [HR2.out] at HB66 HG6 ⊢
    exact pgot_ret (err := .nilIface) rfl rfl HB66.out (.inl ⟨HIn.out, rfl, HG6.out⟩)
 ·rw [decide_eq_false hin]
  have HIn : Hid (l.length < p + sz) := hid (by omega)
  clear hin
  go_wp2_with (refine wpList_store_row rfl 76 (.tmp 6) (.tmp 21) rfl (w.heap.size + 1) pg0.C rfl rfl _ _ HB61.out (sz_pg pg0) rfl pg0.one ?_; rw [HB61.out.same])
  exact pgot_ret rfl rfl HB61.out (.inr ⟨HIn.out, rfl, HG1.out⟩)
end Go.Proofs.YtlccbekalccahaaGreatDoor
