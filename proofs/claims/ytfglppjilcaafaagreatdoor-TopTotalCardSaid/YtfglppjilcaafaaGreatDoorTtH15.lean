/-
  Several texts in one: The contract of prog; The contract of image; A region that draws its order and whose last operation changes what the others read; What of an image's making stays; The contract of bytes.
-/
import Derived.Test.YtfglppjilcaafaaGreatDoorTtH13
import Derived.Lib.SmallJoins
import Derived.Test.YtfglppjilcaafaaGreatDoorTtH14
import Derived.Test.YtfglppjilcaafaaGreatDoorTtH6
import Derived.Test.YtfglppjilcaafaaGreatDoorTtH1
import Derived.Test.YtfglppjilcaafaaGreatDoorRows
import Derived.Test.YtfglppjilcaafaaGreatDoorTtH4
namespace Go.Proofs.YtfglppjilcaafaaGreatDoor
open Go.Lib (hid)
open Go.RowKit
def PGot (l : List UInt8) (p : Nat) (wide big : Bool) (w : World) (e : Ending) (w' : World) : Prop :=
 (p + pSize wide ≤ l.length ∧ e = .returned (.tuple #[(pgOf l p wide big).V, .nilIface]) ∧ Grow w w') ∨
 (l.length < p + pSize wide ∧ e = .returned (.tuple #[pg0.V, .iface 81 (.int .i64 2)]) ∧ Grow w w')
theorem sz_pg (p : Pg) : (Tryz.prog.info? 130).map (·.size) = some p.C.size := by kernel_rfl
theorem Blk.put {w : World} {g : Nat} {t : TypeId} {l : List Nat} (h : Blk w g t (u64s l)) (i x : Nat) : Blk (w.setCell ⟨g, i, none⟩ (.int .u64 (x : Int))) g t (u64s (l.set i x)) := by
 have := Joins.block_setCell (i := i) h (.int .u64 (x : Int))
 rw [Blk, this]
 simp [u64s, List.map_set]
theorem pgot_ret {K : Ending → World → Prop} {W : World} {tmps : Array Value} {g : Nat} {err : Value} {t : TypeId} {h : Pg} (ht : tmps.getD 6 undef = .pointer (some ⟨g, 0, none⟩)) (he : tmps.getD 7 undef = err)
  (hx : Blk W g t h.C) (hk : K (.returned (.tuple #[h.V, err])) W) : bodyPost Tryz.prog Tryz.f74 K .ret ⟨tmps, []⟩ W := by
 refine bodyPost_ret (v := .tuple #[h.V, err]) ?_ rfl hk
 rw [results_cell_tmp rfl, ht, he]
 simp [asAddr, Result.andThen, hx.var _ _ Tryz.underlying130 rfl (by kernel_rfl)]
 rfl
set_option maxHeartbeats 400000 in
theorem pGet_any (A : Option Addr) (n c : Nat) (l : List UInt8) (p : Nat) (wide big : Bool) (w : World) (h : RB w w.heap.size A n c l) (hp : p < 18446744073709551616) :
  Calls Tryz.prog 74 #[.slice A n c, .int .u64 p, .agg #[.bool wide, .bool big]] w (PGot l p wide big w) := by
 have HR := hid h
 have HLen := hid h.len
 have hcp := h.cap
 have hmx := h.max
 unfold maxLen at hmx
 clear h
 have HSz := hid (fun w => pSize_any wide big w)
 have HOr := hid (fun w => pOrd_any wide big w)
 have HWi := hid (fun i w => pWid_any wide big i w)
 have HAO : Hid (∀ k, k < 8 → (i64s (pOrd wide))[k]? = some (.int .i64 ((pOrd wide).getD k 0 : Nat))) := hid (fun k hk => idx_i64s _ _ (by rw [len_pOrd]; exact hk))
 have HOl := hid (pOrd_lt wide)
 have HOk : Hid (∀ k, k < 8 → (pOrd wide)[k]? = some ((pOrd wide).getD k 0)) := hid (fun k hk => by rw [List.getD_eq_getElem?_getD, List.getElem?_eq_getElem (by rw [len_pOrd]; exact hk)]; rfl)
 have HAt := hid (pgOf_at l p wide big)
 have HNA : Hid (∀ k, k < 8 → (pX l p wide big).getD k 0 = getB ((l.drop (p + sumN ((pRow wide).take k))).take (pWid wide ((pOrd wide).getD k 0))) big) := hid (fun k hk => by
  have h1 : k < (pRow wide).length := by rw [len_pRow]; exact hk
  have := nums_at l big (pRow wide) p k h1
  rw [pX, List.getD_eq_getElem?_getD, this]
  simp only [pRow, List.getElem_map, Option.getD_some]
  rw [List.getD_eq_getElem?_getD, List.getElem?_eq_getElem (by rw [len_pOrd]; exact hk)]
  rfl)
 have HSu : Hid (∀ k, k < 8 → sumN ((pRow wide).take (k + 1)) = sumN ((pRow wide).take k) + pWid wide ((pOrd wide).getD k 0)) := hid (fun k hk => by
  have h1 : k < (pRow wide).length := by rw [len_pRow]; exact hk
  rw [sumN_succ _ k h1]
  simp only [pRow, List.getElem_map]
  rw [List.getD_eq_getElem?_getD, List.getElem?_eq_getElem (by rw [len_pOrd]; exact hk)]
  rfl)
 have HSl : Hid (∀ k, sumN ((pRow wide).take k) ≤ pSize wide) := hid (fun k => by rw [← sum_pRow]; exact sumN_le _ _)
 have HWw := hid (pWid_wid wide)
 have HHd : Hid (∀ w, Calls Tryz.prog 123 #[.agg (u64s (pgOf l p wide big).N)] w fun e w' => e = .returned (pgOf l p wide big).V ∧ Grow w w') := hid (fun w =>
  have ok := pgOf_ok l p wide big
  pHdr_any _ _ _ _ _ _ _ _ w ok.ty ok.fl)
 have HAll : Hid (laidIn (pOrd wide) (pgOf l p wide big).N 8 8 = (pgOf l p wide big).N) := hid (by
  have := laidIn_all (os := pOrd wide) (ns := (pgOf l p wide big).N) (n := 8) (pOrd_all wide) rfl
  rwa [len_pOrd] at this)
 have HSp : Hid (pSize wide ≤ 56) := by cases wide <;> exact hid (by decide)
 have HC : Hid ((pgOf l p wide big).C.size = 8) := hid rfl
 have HC1 := hid (pgOf l p wide big).one
 unfold PGot
 generalize hpg : pgOf l p wide big = pg at HAt HHd HAll HC HC1 ⊢
 clear hpg
 generalize pX l p wide big = xs at HAt HNA
 generalize i64s (pOrd wide) = RO at HOr HAO
 generalize pRow wide = row at HNA HSu HSl
 generalize pOrd wide = os at HAO HOl HOk HAt HNA HSu HAll
 generalize pSize wide = sz at HSz HSp HSl ⊢
 generalize hns : pg.N = ns at HAt HHd HAll
 have HVC : Hid (pg.V = .agg pg.C) := hid rfl
 clear hns
 go_enter Tryz.func74, Tryz.ntmps74
 go_wp2_with fail
 generalize hW : World.alloc _ _ = W0
 obtain ⟨bf, b6, hg0⟩ := blk2 hW
 clear hW
 refine (HSz.out W0).mono ?_
 rintro e w1 ⟨rfl, hg1⟩
 have HBF1 := hid (bf.grow hg1)
 have HB61 : Hid (Blk w1 (w.heap.size + 1) 130 pg0.C) := b6.grow hg1
 have HG1 : Hid (Grow w w1) := hg0.trans hg1
 clear bf b6 hg0 hg1
 have z1 : IntKind.u64.wrap (sz : Int) = (sz : Int) := by rw [IntKind.wrap_u64]; have := HSp.out; omega
 have z2 : IntKind.u64.wrap (n : Int) = (n : Int) := by rw [IntKind.wrap_u64]; omega
 go_wp2_with fail
 refine (within_any p sz n _ (by omega) (by omega) (by omega)).mono ?_
 rintro e w2 ⟨rfl, rfl⟩
 have hwt : wthn (p : Int) (sz : Int) (n : Int) = decide (p + sz ≤ l.length) := by
  have e := HLen.out
  simp only [wthn]
  rw [Bool.eq_iff_iff, decide_eq_true_iff, decide_eq_true_iff]; omega
 rw [hwt]
 clear hwt z1 z2
 by_cases hin : p + sz ≤ l.length
 ·rw [decide_eq_true hin]
  have HIn := hid hin
  have HS1 := HSp.out
  have HSl2 : Hid (∀ k, p + sumN (row.take k) ≤ n) := hid (fun k => by have := HSl.out k; have := HLen.out; omega)
  clear hin
  obtain ⟨y0, y1⟩ := (HBF1.out.alloc (.cells #[.int .u64 0, .int .u64 0, .int .u64 0, .int .u64 0, .int .u64 0, .int .u64 0, .int .u64 0, .int .u64 0] 198)).c2
  go_wp2_with fail
  clear y0 y1
  refine (HOr.out _).mono ?_
  rintro e w3 ⟨rfl, hg3⟩
  have hb8 : Blk w3 w1.heap.size 198 (u64s (List.replicate 8 0)) := (Blk.new w1 198 (u64s (List.replicate 8 0))).grow hg3
  rw [← laidIn_zero os ns 8] at hb8
  have HB8 := hid hb8
  have HBF3 := hid ((HBF1.out.alloc _).grow hg3)
  have HB63 := hid ((HB61.out.alloc _).grow hg3)
  have HG3 : Hid (Grow w w3) := (HG1.out.trans (Grow.of_alloc _ _)).trans hg3
  have HG8 : Hid (w.heap.size + 1 < w1.heap.size) := HB61.out.lt
  generalize w1.heap.size = g8 at HB8 HG8 ⊢
  clear hb8 hg3 HBF1 HB61 HG1
  go_wp2_with fail
  go_loopw [1, 25] (fun a i wr => ∃ (k q : Nat), k ≤ 8 ∧ i = .int .i64 k ∧ a = .int .u64 q ∧ q = p + sumN (row.take k) ∧ Blk wr w.heap.size 23 #[.bool wide, .bool big] ∧ Blk wr (w.heap.size + 1) 130 pg0.C ∧ Blk wr g8 198 (u64s (laidIn os ns 8 k)) ∧ Grow w wr) (fun _ i _ => 8 - (intOf i).toNat)
  case atStart => exact ⟨0, p, by omega, rfl, rfl, rfl, HBF3.out, HB63.out, HB8.out, HG3.out⟩
  case round =>
   obtain ⟨k, q, hk, rfl, rfl, hq, hbf, hb6, hb8, hg⟩ := hrel
   have HBF := hid hbf
   have HB6 := hid hb6
   have HB8k := hid hb8
   have HG := hid hg
   have HQ := hid hq
   have hqn : q ≤ n := by rw [hq]; exact HSl2.out k
   clear hbf hb6 hb8 hg hq HBF3 HB63 HB8 HG3
   by_cases hlt : k < 8
   ·have HK2 := hid (HAO.out k hlt)
    have HKo := hid (HOk.out k hlt)
    have ho8 := HOl.out k hlt
    have HAk := hid (HAt.out k hlt)
    have HNk := hid (HNA.out k hlt)
    have HSk := hid (HSu.out k hlt)
    rw [← HQ.out] at HNk
    have HW2 := hid (fun w => HWi.out (os.getD k 0) w)
    have HWk := hid (HWw.out (os.getD k 0))
    have hqm : q + pWid wide (os.getD k 0) ≤ n := by rw [HQ.out, Nat.add_assoc, ← HSk.out]; exact HSl2.out (k + 1)
    rw [HNk.out] at HAk
    generalize pWid wide (os.getD k 0) = m at HNk HSk HW2 HWk hqm HAk
    generalize os.getD k 0 = i at HK2 HKo ho8 HAk HW2
    have z1 : (0 : Int) ≤ (i : Int) := by omega
    have z2 : (i : Int) < 8 := by omega
    obtain ⟨y0, y1⟩ := HBF.out.c2
    go_wp2_with (refine wpList_index rfl 200 3 (.tmp 24) (.tmp 25) rfl 8 _ Tryz.underlying200 Tryz.underlying3 rfl (by kernel_rfl) RO k (.int .i64 (i : Int)) rfl rfl hlt HK2.out ?_)
    clear y0 y1
    refine (HW2.out _).mono ?_
    rintro e w4 ⟨rfl, hg4⟩
    have HBF4 := hid (HBF.out.grow hg4)
    have HB64 := hid (HB6.out.grow hg4)
    have HB84 := hid (HB8k.out.grow hg4)
    have HG4 : Hid (Grow w w4) := HG.out.trans hg4
    clear hg4 HBF HB6 HB8k HG
    obtain ⟨y0, y1⟩ := HBF4.out.c2
    go_wp2_with fail
    clear y0 y1
    refine (get_any A n c l _ q m big _ (HR.out.belowAt HG4.out (Nat.le_refl _)) (by omega)).mono ?_
    rintro e w5 ⟨rfl, j, hw5⟩
    have hgb : gotB l q m = true := by
     simp only [gotB, HWk.out, Bool.true_and, wthn]
     exact decide_eq_true (by have := HLen.out; omega)
    have hgv : gotV l q m big = getB ((l.drop q).take m) big := by
     simp only [gotV, hgb, if_true, Int.toNat_natCast]
    rw [hgb, hgv]
    generalize getB ((l.drop q).take m) big = v at HAk ⊢
    have HBF5 : Hid (Blk w5 w.heap.size 23 #[.bool wide, .bool big]) := by rw [hw5]; exact HBF4.out
    have HB65 : Hid (Blk w5 (w.heap.size + 1) 130 pg0.C) := by rw [hw5]; exact HB64.out
    have HB85 : Hid (Blk w5 g8 198 (u64s (laidIn os ns 8 k))) := by rw [hw5]; exact HB84.out
    have HG5 : Hid (Grow w w5) := by rw [hw5]; exact HG4.out.trans (Grow.of_drewN _ _)
    clear hgb hgv hw5 HBF4 HB64 HB84 HG4
    have c1 : w5.cell? ⟨g8, i, none⟩ = some (.int .u64 ((laidIn os ns 8 k).getD i 0 : Nat)) := by rw [HB85.out.at, idx_u64s _ _ (by rw [len_laidIn]; exact ho8)]
    have f1 := HB85.out.soft i
    have hB := HB85.out.put i v
    rw [laidIn_succ HKo.out HAk.out] at hB
    have HB86 := hid hB
    have HBF6 := hid (HBF5.out.cellset (a := ⟨g8, i, none⟩) (show w.heap.size ≠ g8 by have := HG8.out; omega) (.int .u64 (v : Int)))
    have HB66 := hid (HB65.out.cellset (a := ⟨g8, i, none⟩) (show w.heap.size + 1 ≠ g8 by have := HG8.out; omega) (.int .u64 (v : Int)))
    have HG6 : Hid (Grow w (w5.setCell ⟨g8, i, none⟩ (.int .u64 (v : Int)))) := Grow.cellset HG5.out (by have := HG8.out; omega) _ _
    have z3 : IntKind.u64.wrap (m : Int) = (m : Int) := by rw [IntKind.wrap_u64]; omega
    have z4 : IntKind.u64.wrap ((q : Int) + (m : Int)) = ((q + m : Nat) : Int) := by rw [IntKind.wrap_u64]; omega
    clear hB
    go_wp2_with fail
    go_roundw
    case rel => exact ⟨k + 1, q + m, by omega, by go_num, rfl, by rw [HSk.out, HQ.out]; omega, HBF6.out, HB66.out, HB86.out, HG6.out⟩
    case measure => simp [intOf]; omega
   ·have e : k = 8 := by omega
    rw [e, HAll.out] at HB8k
    have HNs : Hid ((u64s ns).size = 8) := hid (by rw [← HAll.out]; simp [u64s, len_laidIn])
    generalize u64s ns = RN at HHd HB8k HNs
    clear HSl HSl2 HNA
    go_wp2_with (refine wpList_load_row rfl 198 (.tmp 8) rfl g8 rfl _ RN (0, 0) _ HB8k.out Tryz.underlying198 rfl (by rw [HNs.out]; kernel_rfl) ?_)
    refine (HHd.out _).mono ?_
    rintro e w5 ⟨rfl, hg5⟩
    have HB65 := hid (HB6.out.grow hg5)
    have HG5 : Hid (Grow w w5) := HG.out.trans hg5
    clear hg5
    rw [HVC.out]
    have HB66 := hid (HB65.out.set pg.C)
    have HG6 : Hid (Grow w (w5.setRow (w.heap.size + 1) pg.C)) := Grow.set HG5.out (Nat.le_succ _) _
    obtain ⟨R, hR⟩ : ∃ R, R = pg.C := ⟨_, rfl⟩
    rw [← hR] at HC HC1 HG6 HB66 ⊢
    have HR2 := hid hR
    clear hR
    go_wp2_with (refine wpList_store_row rfl 130 (.tmp 6) (.tmp 48) rfl (w.heap.size + 1) R rfl rfl _ _ HB65.out (by rw [HC.out]; kernel_rfl) (by rw [HC.out]; rfl) HC1.out ?_)
    rw [HR2.out] at HB66 HG6 ⊢
    exact pgot_ret (err := .nilIface) rfl rfl HB66.out (.inl ⟨HIn.out, rfl, HG6.out⟩)
 ·rw [decide_eq_false hin]
  have HIn : Hid (l.length < p + sz) := hid (by omega)
  clear hin
  go_wp2_with (refine wpList_store_row rfl 130 (.tmp 6) (.tmp 21) rfl (w.heap.size + 1) pg0.C rfl rfl _ _ HB61.out (sz_pg pg0) rfl pg0.one ?_; rw [HB61.out.same])
  exact pgot_ret rfl rfl HB61.out (.inr ⟨HIn.out, rfl, HG1.out⟩)
set_option maxRecDepth 100000
set_option linter.unusedVariables false
def HdsR (l : List UInt8) (w : World) (e : Ending) (w' : World) : Prop :=
 (ImIn l ∧ ∃ A c, e = .returned (.tuple #[.slice A (hdOf l).pn c, .nilIface]) ∧ ZS w' w'.heap.size 8 A (hdOf l).pn c (pgR l (hdOf l).pn) ∧ Grow w w') ∨
 (¬ ImIn l ∧ e = .returned (.tuple #[.slice none 0 0, .iface 81 (.int .i64 4)]) ∧ Grow w w')
structure HB (w W : World) (g6 base : Nat) (wide big : Bool) : Prop where
 f : Blk W g6 23 #[.bool wide, .bool big]
 b : base = g6 + 1
 o : w.heap.size ≤ g6
 g : Grow w W
section
variable {w W W' : World} {g6 base : Nat} {wide big : Bool}
theorem HB.grow (h : HB w W g6 base wide big) (hg : Grow W W') : HB w W' g6 base wide big := ⟨h.f.grow hg, h.b, h.o, h.g.trans hg⟩
theorem HB.by_ (h : HB w W g6 base wide big) {row : Option Nat} (hg : W.grownBy W' row) (hr : ∀ k, row = some k → base ≤ k) : HB w W' g6 base wide big :=
 ⟨h.f.grownBy hg (fun e => by have := hr g6 e.symm; have := h.b; omega), h.b, h.o, h.g.trans' ((Below.refl _ W).grown hg h.g.size fun k hk => by have := hr k hk; have := h.b; have := h.o; omega)⟩
theorem HB.base_le (h : HB w W g6 base wide big) : base ≤ W.heap.size := by have := h.f.lt; have := h.b; omega
end
theorem below_alloc_two (w : World) (a b : Obj) : Below w.heap.size (w.alloc a) (w.alloc b) := by
 refine ⟨rfl, rfl, rfl, ?_, fun k hk => ?_⟩
 ·show (w.heap.push a).size ≤ (w.heap.push b).size
  simp
 ·show (w.heap.push b)[k]? = (w.heap.push a)[k]?
  rw [Array.getElem?_push, Array.getElem?_push, if_neg (by omega), if_neg (by omega)]
set_option maxHeartbeats 8000000 in
theorem imHeaders_any (l : List UInt8) (A : Option Addr) (n c : Nat) (w : World) (hr : RB w w.heap.size A n c l) : Calls Tryz.prog 40 #[.slice A n c, (hdOf l).V] w (HdsR l w) := by
 have hlen := hr.len
 have hcap := hr.cap
 have hmax := hr.max
 unfold maxLen at hmax
 have HGet : Hid (∀ k, pAt l k < 18446744073709551616 → ∀ W, Grow w W → Calls Tryz.prog 74 #[.slice A n c, .int .u64 (pAt l k : Nat), .agg #[.bool (lWide l), .bool (lBig l)]] W (PGot l (pAt l k) (lWide l) (lBig l) W)) := hid fun k hk W hg =>
  pGet_any A n c l (pAt l k) (lWide l) (lBig l) W (hr.grow hg) hk
 have HPs := hid (fun W => pSize_any (lWide l) (lBig l) W)
 have HP0 : Hid (pAt l 0 = (hdOf l).ph) := hid (by unfold pAt; rw [Nat.zero_mul]; rfl)
 have HPS : Hid (∀ k, pAt l (k + 1) = pAt l k + pSize (lWide l)) := hid fun k => by unfold pAt; rw [Nat.succ_mul, Nat.add_assoc]
 have HPh : Hid ((hdOf l).ph < 18446744073709551616) := hid (hdOf_ok l).ph
 have HPn : Hid ((hdOf l).pn < 65536) := hid (hdOf_ok l).pn
 have HPc := hid (pgR_succ l)
 have HR0 : Hid (pgR l 0 = []) := hid rfl
 have HIn : Hid (ImIn l ↔ ∀ i, i < (hdOf l).pn → pAt l i + pSize (lWide l) ≤ n) := hid (by rw [hlen]; rfl)
 have HSz : Hid (pSize (lWide l) ≤ 64) := hid (by cases lWide l <;> decide)
 have HV : Hid (∀ k, pgOf l (pAt l k) (lWide l) (lBig l) = pgs l k) := hid fun k => rfl
 unfold HdsR
 unfold PGot at HGet
 rw [← hlen] at HGet
 have HNn : Hid (n ≤ 9223372036854775807) := hid (by omega)
 clear hr hlen hcap hmax
 obtain ⟨y2, y3, y4, y5, y6, y8, y9, y11, y12, hC⟩ : ∃ y2 y3 y4 y5 y6 y8 y9 y11 y12 : Value, (hdOf l).C = #[.bool (lWide l), .bool (lBig l), y2, y3, y4, y5, y6, .int .u64 ((hdOf l).ph : Nat), y8, y9, .int .u16 ((hdOf l).pn : Nat), y11, y12] := ⟨_, _, _, _, _, _, _, _, _, rfl⟩
 unfold Hd.V
 rw [hC]
 clear hC
 simp only [HV.out] at HGet
 generalize (hdOf l).ph = ph at *
 generalize (hdOf l).pn = P at *
 generalize pAt l = pA at *
 generalize pgR l = PR at *
 generalize pgs l = pgF at *
 generalize lWide l = wide at *
 generalize lBig l = big at *
 generalize pSize wide = sz at *
 generalize ImIn l = II at *
 go_enter Tryz.func40, Tryz.ntmps40
 go_wp2_with fail
 generalize hW : World.alloc _ _ = W0
 obtain ⟨b1, hg⟩ := blk1 hW
 clear hW
 have HX := hid b1.drew
 have HG := hid (hg.trans (Grow.of_drew W0))
 clear b1 hg
 refine wp_region_leap (leap_below W0.drew.heap.size) [(0, true), (1, true), (2, true), (3, true), (4, true), (5, false), (6, false), (7, true)] (by kernel_rfl) (by kernel_rfl) (by kernel_rfl) ?_
 generalize W0.drew = v0 at HX HG ⊢
 have hlt := HX.out.lt
 have q0 : ∀ W, Below v0.heap.size v0 W → W.cell? ⟨w.heap.size, 0, none⟩ = some (.bool wide) := fun W hW => (Blk.below HX.out hW hlt).at 0
 have q1 : ∀ W, Below v0.heap.size v0 W → W.cell? ⟨w.heap.size, 1, none⟩ = some (.bool big) := fun W hW => (Blk.below HX.out hW hlt).at 1
 have q7 : ∀ W, Below v0.heap.size v0 W → W.cell? ⟨w.heap.size, 7, none⟩ = some (.int .u64 (ph : Nat)) := fun W hW => (Blk.below HX.out hW hlt).at 7
 repeat ((first | (refine chain_take rfl (by rfl) ?_ (fun W hG => ?_) ?_; rotate_left; (go_simp; rfl)) | refine chain_skip rfl (by rfl) ?_); simp only [Act.put, List.setIfInBounds_toArray, List.set_cons_zero, List.set_cons_succ])
 clear q0 q1 q7
 refine chain_only rfl (by rfl) (fun K hK => ?_)
 go_simp
 refine hK _ _ (Below.alloc (Below.refl _ _) (Nat.le_refl _) _) ?_
 clear hK K
 refine chain_only rfl (by rfl) (fun K hK => ?_)
 go_simp
 refine hK _ _ (below_alloc_two _ _ _) ?_
 clear hK K
 generalize hW : World.alloc _ _ = W1
 obtain ⟨b6, hg⟩ := blk1 hW
 clear hW
 have p17 := (HX.out.grow hg).at 10
 have HB0 : Hid (HB w W1 v0.heap.size (v0.heap.size + 1) wide big) := hid ⟨b6, rfl, HG.out.size, HG.out.trans hg⟩
 clear b6 hg hlt HG HX
 generalize v0.heap.size = g6 at HB0 ⊢
 generalize g6 + 1 = base at HB0
 repeat ((first | (refine chain_take rfl (by rfl) ?_ (fun W hG => ?_) ?_; rotate_left; (go_simp; rfl)) | refine chain_skip rfl (by rfl) ?_); simp only [Act.put, List.setIfInBounds_toArray, List.set_cons_zero, List.set_cons_succ])
 refine chain_done ?_
 go_wp2_with fail
 clear p17
 go_loopw [7, 8, 18] (fun a s i wr => ∃ (k q : Nat) (As : Option Addr) (cs : Nat), k ≤ P ∧ i = .int .u16 k ∧ a = .int .u64 q ∧ s = .slice As k cs ∧ Hid (q = pA k) ∧ Hid (q < 18446744073709551616) ∧ Hid (∀ j, j < k → pA j + sz ≤ n) ∧ ZO wr base 130 8 As k cs (PR k) ∧ HB w wr g6 base wide big) (fun _ _ i _ => P - (intOf i).toNat)
 case atStart => exact ⟨0, ph, none, 0, Nat.zero_le _, rfl, rfl, rfl, hid HP0.out.symm, HPh, hid fun j hj => by omega, by rw [HR0.out]; exact ZO.nil, HB0.out⟩
 case round =>
  obtain ⟨k, q, As, cs, hk, rfl, rfl, rfl, HQ, HQ64, HJ, ho, hb⟩ := hrel
  have HOa := hid ho
  have HBa := hid hb
  clear ho hb HB0
  by_cases hlt : k < P
  ·have d1 : decide ((k : Int) < (P : Int)) = true := decide_eq_true (by omega)
   have HK : Hid (k ≤ 65535) := hid (by have := HPn.out; omega)
   have HLt := hid hlt
   obtain ⟨y0, y1⟩ := HBa.out.f.c2
   go_wp2_with fail
   clear y0 y1 d1
   have HGk := hid (HGet.out k (by rw [← HQ.out]; exact HQ64.out) wr HBa.out.g)
   rw [← HQ.out] at HGk
   refine HGk.out.mono ?_
   rintro e w2 (⟨hin, rfl, hg⟩ | ⟨hout, rfl, hg⟩)
   ·have HB2 := hid (HBa.out.grow hg)
    have HO2 := hid (HOa.out.keep hg)
    have HJ2 : Hid (∀ j, j < k + 1 → pA j + sz ≤ n) := hid fun j hj => by
     rcases Nat.lt_or_ge j k with h | h
     ·exact HJ.out j h
     ·rw [show j = k by omega, ← HQ.out]; exact hin
    have HIq : Hid (q + sz ≤ n) := hid hin
    have HPck := hid (HPc.out k)
    clear hg hin HBa HOa HGk HJ
    generalize pgF k = p at HPck ⊢
    obtain ⟨ty, fl, off, va, pa, fs, ms, al⟩ := p
    unfold Pg.C at HPck
    unfold Pg.V Pg.C
    simp only [] at HPck
    obtain ⟨W5, hW⟩ : ∃ W5, W5 = (w2.alloc (.cells #[.int .u32 (ty : Int), .int .u32 (fl : Int), .int .u64 (off : Int), .int .u64 (va : Int), .int .u64 (pa : Int), .int .u64 (fs : Int), .int .u64 (ms : Int), .int .u64 (al : Int)] 130)).alloc (.cells #[.int .u32 (ty : Int), .int .u32 (fl : Int), .int .u64 (off : Int), .int .u64 (va : Int), .int .u64 (pa : Int), .int .u64 (fs : Int), .int .u64 (ms : Int), .int .u64 (al : Int)] 130) := ⟨_, rfl⟩
    obtain ⟨b5, b7, hg⟩ := blk2 hW.symm
    clear b5
    have HNu := hid b7
    have HBn := hid (HB2.out.grow hg)
    have HOn := hid (HO2.out.keep hg)
    have HBs := hid (HBn.out.base_le)
    clear b7 hg HB2 HO2
    have HWe := hid hW
    clear hW
    go_wp2_with (at_builtin; rw [← HWe.out]; refine wpList_appendZ W5 rfl (.tmp 30) (.tmp 32) 88 rfl base 130 pg0.V 8 56 Tryz.underlying88 (by kernel_rfl) rfl (by omega) As k cs _ rfl HOn.out (w2.heap.size + 1) _ _ rfl HNu.out rfl (by simp [Value.oneCell']) (by have := HK.out; unfold maxLen; omega) (by have := HK.out; omega) HBs.out ?_; intro A5 c5 w9 ho9 hg9 _; refine Hid.out ?_)
    have HB9 := hid (HBn.out.by_ hg9 (fun k e => HOn.out.ge e))
    rw [← HPck.out] at ho9
    have HO9 := hid ho9
    clear ho9 hg9 HOn HBn HBs HNu HWe
    refine hid ?_
    obtain ⟨y0, y1⟩ := HB9.out.f.c2
    go_wp2_with fail
    clear y0 y1
    refine (HPs.out _).mono ?_
    rintro e w10 ⟨rfl, hg⟩
    have HB10 := hid (HB9.out.grow hg)
    have HO10 := hid (HO9.out.keep hg)
    clear hg HB9 HO9
    have HIb : q + sz ≤ n := HIq.out
    have HNb := HNn.out
    have HSb := HSz.out
    have HKb := HK.out
    have z1 : IntKind.u64.wrap (sz : Int) = (sz : Int) := by rw [IntKind.wrap_u64]; omega
    have z2 : IntKind.u64.wrap ((q : Int) + (sz : Int)) = ((q + sz : Nat) : Int) := by rw [IntKind.wrap_u64]; omega
    have Z2 := hid z2
    have Z3 : Hid (IntKind.u16.wrap ((k : Int) + 1) = ((k + 1 : Nat) : Int)) := hid (by have := HLt.out; have := HPn.out; rw [IntKind.wrap_u16]; omega)
    clear z2
    have HQn : Hid (q + sz = pA (k + 1)) := hid (by rw [HPS.out, HQ.out])
    clear HIb HNb HSb
    go_wp2
    go_roundw
    case rel => exact ⟨k + 1, q + sz, A5, c5, HLt.out, by rw [Z3.out], by rw [Z2.out], rfl, HQn, hid (by have := HIq.out; have := HNn.out; omega), HJ2, HO10.out, HB10.out⟩
    case measure =>
     rw [Z3.out]
     have := HLt.out
     simp [intOf]; omega
   ·have HB2 := hid (HBa.out.grow hg)
    have HNo : ¬ II := by
     rw [HIn.out]
     intro h
     have := h k hlt
     rw [← HQ.out] at this
     omega
    clear hg HBa HOa HGk HJ hout
    unfold pg0 Pg.V Pg.C
    simp only []
    go_wp2
    go_ret2
    exact .inr ⟨HNo, rfl, HB2.out.g.trans (Grow.of_alloc _ _)⟩
  ·have e : k = P := by omega
   subst e
   have d1 : decide ((k : Int) < (k : Int)) = false := decide_eq_false (by omega)
   have HI : II := by rw [HIn.out]; exact HJ.out
   clear hlt
   go_wp2
   go_ret2
   exact .inl ⟨HI, As, cs, rfl, HOa.out.zs, HBa.out.g⟩
def waits (ops : Array Oper) : Nat → Nat → Nat → Bool
 | 0, _, _ => false
 | n + 1, z, i => ((ops[z]?).map fun o => o.after.any fun e => Region.binds .any e && (e.on == i || waits ops n e.on i)).getD false
def Closed (ops : Array Oper) (listed : Array Bool) : Prop := ∀ j o, ops[j]? = some o → listed.getD j false = true → ∀ e ∈ o.after, Region.binds .any e = true → listed.getD e.on false = true
theorem Closed.waits {ops : Array Oper} {listed : Array Bool} (h : Closed ops listed) {i : Nat} : ∀ n z, waits ops n z i = true → listed.getD z false = true → listed.getD i false = true
 | 0, _, hw, _ => by simp [Go.Proofs.YtfglppjilcaafaaGreatDoor.waits] at hw
 | n + 1, z, hw, hz => by
  unfold Go.Proofs.YtfglppjilcaafaaGreatDoor.waits at hw
  cases ho : ops[z]? with
  | none => simp [ho] at hw
  | some o =>
   simp only [ho, Option.map_some, Option.getD_some, Array.any_eq_true, Bool.and_eq_true, Bool.or_eq_true, beq_iff_eq] at hw
   obtain ⟨q, hq, hb, hi⟩ := hw
   have h1 := h z o ho hz _ (Array.getElem_mem hq) hb
   rcases hi with hi | hi
   ·rw [← hi]; exact h1
   ·exact h.waits n _ hi h1
theorem Closed.set {ops : Array Oper} {listed : Array Bool} (h : Closed ops listed) {j : Nat} (hj : j ∈ Region.ready .any ops listed) : Closed ops (listed.setIfInBounds j true) := fun k o ho hk e he hb => by
 by_cases hjk : j = k
 ·subst hjk
  obtain ⟨_, o', ho', hall⟩ := mem_ready.1 hj
  rw [ho] at ho'
  injection ho' with ho'
  subst ho'
  exact getD_set_true (hall e he hb)
 ·rw [getD_set_ne false hjk] at hk
  exact getD_set_true (h k o ho hk e he hb)
theorem getD_rep (n i : Nat) : (Array.replicate n false).getD i false = false := by
 rw [Array.getD_eq_getD_getElem?, Array.getElem?_replicate]
 split <;> rfl
theorem Closed.start (ops : Array Oper) : Closed ops (Array.replicate ops.size false) := fun k o _ hk => by rw [getD_rep] at hk; cases hk
def wpAnyZ (P : Program) (ops : Array Oper) (Q : Exit → Act → World → Prop) (S : World → Prop) (z : Nat) : Nat → Array Bool → Act → World → Prop
 | 0, listed, a, w => Region.ready .any ops listed = [] ∧ Q .normal a w
 | fuel + 1, listed, a, w => (Region.ready .any ops listed = [] → Q .normal a w) ∧
  ∀ i ∈ Region.ready .any ops listed, wpOp P ops Q i (fun a' w' => (i ≠ z → S w') ∧ wpAnyZ P ops Q S z fuel (listed.setIfInBounds i true) a' w') a w
section
variable {P : Program} {ops : Array Oper} {Q : Exit → Act → World → Prop} {S S' : World → Prop} {z : Nat} {Y : World → World → Prop} {R : Act → World → Prop}
theorem wpAny_of_Z : ∀ (fuel : Nat) (listed : Array Bool) (a : Act) (w : World), wpAnyZ P ops Q S z fuel listed a w → wpAny P .any ops Q fuel listed a w
 | 0, _, _, _, h => h
 | fuel + 1, _, _, _, h => ⟨h.1, fun i hi => wpOp_mono (fun a' w' h' => wpAny_of_Z fuel _ a' w' h'.2) (h.2 i hi)⟩
theorem wpAnyZ_weaken (hS : ∀ w, S' w → S w) : ∀ (fuel : Nat) (listed : Array Bool) (a : Act) (w : World), wpAnyZ P ops Q S' z fuel listed a w → wpAnyZ P ops Q S z fuel listed a w
 | 0, _, _, _, h => h
 | fuel + 1, _, _, _, h => ⟨h.1, fun i hi => wpOp_mono (fun a' w' h' => ⟨fun hz => hS w' (h'.1 hz), wpAnyZ_weaken hS fuel _ a' w' h'.2⟩) (h.2 i hi)⟩
theorem wpAnyZ_all {rs : List Nat} {fuel : Nat} {listed : Array Bool} {a : Act} {w : World} (hr : Region.ready .any ops listed = rs) (hne : rs ≠ [])
  (h : ∀ i ∈ rs, wpOp P ops Q i (fun a' w' => (i ≠ z → S w') ∧ wpAnyZ P ops Q S z fuel (listed.setIfInBounds i true) a' w') a w) : wpAnyZ P ops Q S z (fuel + 1) listed a w :=
 ⟨fun h0 => absurd (hr ▸ h0) hne, hr ▸ h⟩
theorem wpAnyZ_first {i : Nat} {oi : Oper} {v : Value} (hi : ops[i]? = some oi) (hsel : ∀ (j : Nat) (o : Oper) cs b, ops[j]? = some o → o.op ≠ .select cs b)
  (hQ : ∀ c a w, Q (.panic c) (a.put oi.dst v) w → Q (.panic c) a w) {n : Nat} (hz : waits ops n z i = true) :
  ∀ (fuel : Nat) (listed : Array Bool) (a : Act) (w : World), Closed ops listed →
   (∀ j oj, ops[j]? = some oj → j ≠ i → listed.getD j true = false → (∀ e ∈ oj.after, Region.binds .any e = true → e.on ≠ i) → oi.apart ops oj = true) →
   i ∈ Region.ready .any ops listed → YieldsIf P ops S oi v a → S w →
   wpAnyZ P ops Q S z fuel (listed.setIfInBounds i true) (a.put oi.dst v) w → wpAnyZ P ops Q S z (fuel + 1) listed a w := by
 intro fuel
 induction fuel with
 | zero =>
  intro listed a w _ _ hr hy hS H
  refine ⟨fun h => (by rw [h] at hr; cases hr), fun j hj => ?_⟩
  by_cases hji : j = i
  ·subst hji; exact hy.wpOp hi hS ⟨fun _ => hS, H⟩
  ·have := ready_mono hj hji
   rw [H.1] at this
   cases this
 | succ fuel ih =>
  intro listed a w hcl hfree hr hy hS H
  refine ⟨fun h => (by rw [h] at hr; cases hr), fun j hj => ?_⟩
  by_cases hji : j = i
  ·subst hji; exact hy.wpOp hi hS ⟨fun _ => hS, H⟩
  ·have hil : listed.getD i false = false := by
    have h0 := (mem_ready.1 hr).1
    rcases Nat.lt_or_ge i listed.size with h' | h'
    ·simp [h'] at h0 ⊢; exact h0
    ·simp [Array.getElem?_eq_none h']
   have hjz : j ≠ z := fun e => by
    subst e
    have h1 := (hcl.set hj).waits n j hz (by
     obtain ⟨h0, o, ho, _⟩ := mem_ready.1 hj
     rcases Nat.lt_or_ge j listed.size with h' | h'
     ·simp [h']
     ·simp [Array.getElem?_eq_none h'] at h0)
    rw [getD_set_ne false hji, hil] at h1
    cases h1
   have h1 := H.2 j (ready_mono hj hji)
   obtain ⟨hjun, oj, hoj, hall⟩ := mem_ready.1 hj
   have hnot : ∀ e ∈ oj.after, Region.binds .any e = true → e.on ≠ i := fun e he hb heq => by
    have h1 := hall e he hb
    rw [heq, hil] at h1
    cases h1
   have h2 := wpOp_putIf hoj (hfree j oj hoj hji hjun hnot) (fun cs b => hsel i oi cs b hi) (fun cs b => hsel j oj cs b hoj) hQ hy h1
   have hfree' : ∀ k ok, ops[k]? = some ok → k ≠ i → (listed.setIfInBounds j true).getD k true = false →
     (∀ e ∈ ok.after, Region.binds .any e = true → e.on ≠ i) → oi.apart ops ok = true := fun k ok hk hki hun hno => by
    refine hfree k ok hk hki ?_ hno
    by_cases hjk : j = k
    ·subst hjk; exact hjun
    ·rw [getD_set_ne true hjk] at hun; exact hun
   refine wpOp_mono (fun a' w' h3 => ⟨h3.2.1, ih (listed.setIfInBounds j true) a' w' (hcl.set hj) hfree' (ready_mono hr (Ne.symm hji)) h3.1 (h3.2.1 hjz) ?_⟩) h2
   rw [Array.setIfInBounds_comm _ _ hji]
   exact h3.2.2
attribute [local semireducible] wpChain
theorem wpChainZ_sound (hy : Leap Y) (hs : Region.noSelect ops = true) (hQ : ∀ c a w, ¬ Q (.panic c) a w) (n : Nat) : ∀ (c : Chain) (listed : Array Bool) (a : Act) (w : World), Closed ops listed →
  (∀ a w, R a w → wpAnyZ P ops Q (Y w) z n (Chain.after listed c) a w) →
  Chain.ok ops c listed = true → c.all (fun p => !p.2 || waits ops ops.size z p.1) = true → wpChain P ops Q Y R c a w → wpAnyZ P ops Q (Y w) z (n + c.length) listed a w
 | [], listed, a, w, _, hR, _, _, h => hR a w h
 | (i, true) :: r, listed, a, w, hcl, hR, hB, hW, h => by
  simp only [Chain.ok, Bool.and_eq_true] at hB
  simp only [List.all_cons, Bool.and_eq_true, Bool.not_true, Bool.false_or] at hW
  obtain ⟨o, ho, hh⟩ := h
  rw [List.length_cons, ← Nat.add_assoc]
  have hr : i ∈ Region.ready .any ops listed := by simpa using hB.1.2
  rcases hh with ⟨hw, v, hv, hr'⟩ | ⟨hw, hr'⟩
  ·exact wpAnyZ_first ho (Region.noSelect_spec hs) (fun c a w h => absurd h (hQ _ _ _)) hW.1 _ listed a w hcl (Region.free_spec ho hB.1.1) hr (.inl ⟨hw, hv⟩) (hy.refl w) (wpChainZ_sound hy hs hQ n r _ _ w (hcl.set hr) hR hB.2 hW.2 hr')
  ·exact wpAnyZ_first ho (Region.noSelect_spec hs) (fun c a w h => absurd h (hQ _ _ _)) hW.1 _ listed a w hcl (Region.free_spec ho hB.1.1) hr (.inr ⟨hw, rfl⟩) (hy.refl w) (wpChainZ_sound hy hs hQ n r _ _ w (hcl.set hr) hR hB.2 hW.2 hr')
 | (i, false) :: r, listed, a, w, hcl, hR, hB, hW, h => by
  simp only [Chain.ok, Bool.and_eq_true] at hB
  simp only [List.all_cons, Bool.and_eq_true] at hW
  rw [List.length_cons, ← Nat.add_assoc]
  have hr : Region.ready .any ops listed = [i] := by simpa using hB.1
  refine wpAnyZ_all (rs := [i]) hr (by simp) ?_
  intro k hk
  obtain rfl : k = i := by simpa using hk
  exact wpOp_mono (fun a' w' h' => ⟨fun _ => h'.1, wpAnyZ_weaken (fun W hW => hy.trans _ _ _ h'.1 hW) _ _ _ _ (wpChainZ_sound hy hs hQ n r _ a' w' (hcl.set (by rw [hr]; simp)) hR hB.2 hW.2 h'.2)⟩) h
theorem wp_region_last (hy : Leap Y) {id : Nat} {a : Act} {w : World} (c : Chain) (z : Nat) (hm : P.follows .mixedOrders = true) (hs : Region.noSelect ops = true)
  (hB : (Chain.ok ops c (Array.replicate ops.size false) && (Region.ready .any ops (Chain.after (Array.replicate ops.size false) c) == [z]) && (c.length + 1 == ops.size) &&
   (Region.ready .any ops ((Chain.after (Array.replicate ops.size false) c).setIfInBounds z true) == []) && c.all (fun p => !p.2 || waits ops ops.size z p.1)) = true)
  (h : wpChain P ops (NoPanic Q) Y (fun a w => wpOp P ops (NoPanic Q) z (fun a' w' => Q .normal a' w') a w) c a w.drew) : (Code.region id ops true).wp P Q a w := by
 simp only [Bool.and_eq_true] at hB
 obtain ⟨⟨⟨⟨b1, b2⟩, b3⟩, b4⟩, b5⟩ := hB
 have hl : c.length + 1 = ops.size := by simpa using b3
 refine wp_region_noPanic (wp_region_any hm (wpAny_of_Z (S := Y w.drew) (z := z) _ _ _ _ ?_))
 have := wpChainZ_sound (P := P) (ops := ops) (Q := NoPanic Q) (Y := Y) (z := z) (R := fun a w => wpOp P ops (NoPanic Q) z (fun a' w' => Q .normal a' w') a w) hy hs (fun _ _ _ h => h) 1 c (Array.replicate ops.size false) a w.drew (Closed.start ops)
  (fun a w h => by
   have hr : Region.ready .any ops (Chain.after (Array.replicate ops.size false) c) = [z] := by simpa using b2
   refine wpAnyZ_all (fuel := 0) (rs := [z]) hr (by simp) ?_
   intro k hk
   obtain rfl : k = z := by simpa using hk
   exact wpOp_mono (fun a' w' h' => ⟨fun e => absurd rfl e, by simpa using b4, h'⟩) h) b1 b5 h
 rw [Nat.add_comm, hl] at this
 exact this
theorem last_op {l rest : List Oper} {i : Nat} {a : Act} {w : World} {o : Oper} (hi : l.drop i = o :: rest) (hw : Region.wanted o (yielded l.toArray a.tmps) = true)
  (h : ∀ K : Act → World → Prop, (∀ a' w', R a' w' → K a' w') → o.wp P a w K Q) : wpOp P l.toArray Q i (fun a' w' => R a' w') a w := by
 unfold wpOp
 simp only [at_of_drop hi, hw, if_true]
 exact .inl (h _ fun a' w' h1 => h1)
end
set_option linter.unusedVariables false
structure IB (w W : World) (g2 g3 : Nat) (en : Nat) (S : Value) : Prop where
 z : Blk W g2 52 #[.int .u64 0, .slice none 0 0]
 x : Blk W g3 52 #[.int .u64 (en : Nat), S]
 g : Grow w W
structure IBA (w : World) (g2 g3 base : Nat) : Prop where
 b : base = g3 + 1
 a2 : g2 < g3
 w2 : w.heap.size ≤ g2
section
variable {w W W' : World} {g2 g3 base en : Nat} {S : Value}
theorem IB.grow (h : IB w W g2 g3 en S) (hg : Grow W W') : IB w W' g2 g3 en S := ⟨h.z.grow hg, h.x.grow hg, h.g.trans hg⟩
theorem IB.by_ (h : IB w W g2 g3 en S) (a : IBA w g2 g3 base) {row : Option Nat} (hg : W.grownBy W' row) (hr : ∀ k, row = some k → base ≤ k) : IB w W' g2 g3 en S :=
 have key : ∀ g, g < base → some g ≠ row := fun g hl e => by have := hr g e.symm; omega
 ⟨h.z.grownBy hg (key _ (by have := a.b; have := a.a2; omega)), h.x.grownBy hg (key _ (by have := a.b; omega)), h.g.trans' ((Below.refl _ W).grown hg h.g.size fun k hk => by have := hr k hk; have := a.b; have := a.a2; have := a.w2; omega)⟩
theorem IB.set (h : IB w W g2 g3 en S) (a : IBA w g2 g3 base) (S' : Value) : IB w (W.setRow g3 #[.int .u64 (en : Nat), S']) g2 g3 en S' :=
 ⟨h.z.other (by have := a.a2; omega) _, h.x.set _, h.g.set (by have := a.a2; have := a.w2; omega) _⟩
theorem IB.base_le (h : IB w W g2 g3 en S) (a : IBA w g2 g3 base) : base ≤ W.heap.size := by have := h.x.lt; have := a.b; omega
theorem ZO.under {e : TypeId} {z : Nat} {A : Option Addr} {n c : Nat} {l : List (Array Value)} (h : ZO W base e z A n c l) {g : Nat} (hg : own A = some g) : g < W.heap.size := by
 rcases h.1.2 with ⟨hv, _⟩ | ⟨g', cap, cur, hv, _, hh, _⟩
 ·injection hv with e1 _ _; subst e1; cases hg
 ·injection hv with e1 _ _; subst e1
  have e3 : g' = g := Option.some.inj hg
  subst e3
  rcases Nat.lt_or_ge g' W.heap.size with h | h
  ·exact h
  ·rw [Array.getElem?_eq_none h] at hh; cases hh
theorem IB.apart {e : TypeId} {z : Nat} {A : Option Addr} {n c g5 : Nat} {l : List (Array Value)} (a : IBA w g2 g3 base) (h : ZO W base e z A n c l) (h5 : W.heap.size ≤ g5) : ∀ k, own A = some k → ¬ (k = g3 ∨ k = g5) := fun k hk => by
 have := h.ge hk
 have := h.under hk
 have := a.b
 omega
end
set_option maxRecDepth 100000
set_option maxHeartbeats 400000 in
theorem clone_some (a : Addr) (n c : Nat) (l : List UInt8) (B : Nat) (w : World) (h : RB w B (some a) n c l) (hB : B ≤ w.heap.size) (hn : n ≤ 140737488355328) :
  Calls Tryz.prog 140 #[.slice (some a) n c] w fun e w' => ∃ A2 c2, e = .returned (.slice A2 n c2) ∧ OB w' w.heap.size 5 A2 n c2 l ∧ Grow w w' := by
 have HR := hid h
 have HL := hid h.len
 have hc := h.cap
 have hm := h.max
 unfold maxLen at hm
 clear h
 have hz : n ≤ 140737488355328 := hn
 have HO := hid (OB.of_blk (base := w.heap.size) (l := []) (Blk.new w 5 #[]) (Nat.le_refl _) (by decide))
 have hg1 := Grow.of_alloc w (.cells #[] 5)
 have HR1 := hid (HR.out.belowAt hg1 hB)
 have HG1 := hid hg1
 have HS1 := hid hg1.size
 clear hg1 HR
 have heq : ∀ w, (binOp .eql 33 (.slice (some a) n c) (.slice none 0 0)).run Tryz.prog w = .ok (.bool false) w := fun w => by rfl
 go_enter Tryz.func140, Tryz.ntmps140
 go_wp2_with (refine wpList_appendB (w.alloc (.cells #[] 5)) rfl (.tmp 5) (.tmp 6) 33 rfl w.heap.size 5 Tryz.underlying33 (by kernel_rfl) _ _ _ _ rfl HO.out B _ n c l rfl HR1.out (by simpa using hz) HS1.out ?_; intro A5 c5 w9 ho9 hb9; refine Hid.out ?_)
 have HO9 := hid ho9
 have HB9 : Hid (Grow w w9) := HG1.out.trans' hb9
 clear ho9 hb9 HO HR1 HG1 HS1
 refine hid ?_
 go_wp2
 go_ret
 have h9 := HO9.out
 rw [Nat.zero_add, List.nil_append] at h9
 exact ⟨A5, c5, rfl, h9, HB9.out⟩
def NewB (l : List UInt8) (w : World) (e : Ending) (w' : World) : Prop := ∃ A2 c2, e = .returned (.slice A2 l.length c2) ∧ OB w' w.heap.size 5 A2 l.length c2 l ∧ Grow w w'
theorem NewB.nil (w w' : World) (h : Grow w w') : NewB [] w (.returned (.slice none 0 0)) w' := ⟨none, 0, rfl, OB.nil, h⟩
theorem clone_any (A : Option Addr) (n c : Nat) (l : List UInt8) (B : Nat) (w : World) (h : RB w B A n c l) (hB : B ≤ w.heap.size) (hn : n ≤ 140737488355328) :
  Calls Tryz.prog 140 #[.slice A n c] w (NewB l w) := by
 rcases A with _ | a
 ·have hl : l = [] := by
   rcases Nat.eq_zero_or_pos n with h0 | h0
   ·exact List.eq_nil_of_length_eq_zero (by rw [← h.len]; exact h0)
   ·obtain ⟨_, _, e, _⟩ := h.pos h0
    cases e
  subst hl
  clear h
  have heq : ∀ w, (binOp .eql 33 (.slice none n c) (.slice none 0 0)).run Tryz.prog w = .ok (.bool true) w := fun w => by rfl
  go_enter Tryz.func140, Tryz.ntmps140
  go_wp2
  go_ret
  exact NewB.nil _ _ (Grow.refl _)
 ·refine (clone_some a n c l B w h hB hn).mono ?_
  rintro e w' ⟨A2, c2, rfl, h1, h2⟩
  obtain rfl := h.len
  exact ⟨A2, c2, rfl, h1, h2⟩
end Go.Proofs.YtfglppjilcaafaaGreatDoor
