/-
  The contract of sym.read: the symbol of just as many bytes as one has.
-/
import Derived.Test.YtodcnlihhilfkaaSyA
import Derived.Test.YtodcnlihhilfkaaWireGet
import Derived.Lib.SmallJoins
namespace Go.Proofs.Ytodcnlihhilfkaa
open Go.RowKit

theorem Blk.put {w : World} {g : Nat} {t : TypeId} {l : List Nat} (h : Blk w g t (u64s l)) (i x : Nat) : Blk (w.setCell ⟨g, i, none⟩ (.int .u64 (x : Int))) g t (u64s (l.set i x)) := by
  have := Joins.block_setCell (i := i) h (.int .u64 (x : Int))
  rw [Blk, this]
  simp [u64s, List.map_set]

set_option maxHeartbeats 400000 in
theorem yRead_any (A : Option Addr) (n c : Nat) (l : List UInt8) (wide big : Bool) (w : World) (h : RB w w.heap.size A n c l) (hn : n = ySize wide) :
    Calls Try.prog 23 #[.slice A n c, .agg #[.bool wide, .bool big]] w fun e w' => e = .returned (syOf l 0 wide big).V ∧ Grow w w' := by
  have HR := Lib.hid h
  have HLen := Lib.hid h.len
  have hcp := h.cap
  have hmx := h.max
  unfold maxLen at hmx
  clear h
  have HOr := Lib.hid (fun w => yOrd_any wide big w)
  have HWi := Lib.hid (fun i w => yWid_any wide big i w)
  have HAO : Hid (∀ k, k < 6 → (i64s (yOrd wide))[k]? = some (.int .i64 ((yOrd wide).getD k 0 : Nat))) := Lib.hid (fun k hk => idx_i64s _ _ (by rw [len_yOrd]; exact hk))
  have HOl := Lib.hid (yOrd_lt wide)
  have HOk : Hid (∀ k, k < 6 → (yOrd wide)[k]? = some ((yOrd wide).getD k 0)) := Lib.hid (fun k hk => by rw [List.getD_eq_getElem?_getD, List.getElem?_eq_getElem (by rw [len_yOrd]; exact hk)]; rfl)
  have HAt := Lib.hid (syOf_at l 0 wide big)
  have HNA : Hid (∀ k, k < 6 → (yX l 0 wide big).getD k 0 = getB ((l.drop (sumN ((yRow wide).take k))).take (yWid wide ((yOrd wide).getD k 0))) big) := Lib.hid (fun k hk => by
    have h1 : k < (yRow wide).length := by rw [len_yRow]; exact hk
    have := nums_at l big (yRow wide) 0 k h1
    rw [Nat.zero_add] at this
    rw [yX, List.getD_eq_getElem?_getD, this]
    simp only [yRow, List.getElem_map, Option.getD_some]
    rw [List.getD_eq_getElem?_getD, List.getElem?_eq_getElem (by rw [len_yOrd]; exact hk)]
    rfl)
  have HSu : Hid (∀ k, k < 6 → sumN ((yRow wide).take (k + 1)) = sumN ((yRow wide).take k) + yWid wide ((yOrd wide).getD k 0)) := Lib.hid (fun k hk => by
    have h1 : k < (yRow wide).length := by rw [len_yRow]; exact hk
    rw [sumN_succ _ k h1]
    simp only [yRow, List.getElem_map]
    rw [List.getD_eq_getElem?_getD, List.getElem?_eq_getElem (by rw [len_yOrd]; exact hk)]
    rfl)
  have HSl : Hid (∀ k, sumN ((yRow wide).take k) ≤ n) := Lib.hid (fun k => by rw [hn, ← sum_yRow]; exact sumN_le _ _)
  have HWw := Lib.hid (yWid_wid wide)
  have HHd : Hid (∀ w, Calls Try.prog 32 #[.agg (u64s (syOf l 0 wide big).N)] w fun e w' => e = .returned (syOf l 0 wide big).V ∧ Grow w w') := Lib.hid (fun w =>
    have ok := syOf_ok l 0 wide big
    ySym_any _ _ _ _ _ _ w ok.na ok.inf ok.oth ok.shn)
  have HAll : Hid (laidIn (yOrd wide) (syOf l 0 wide big).N 6 6 = (syOf l 0 wide big).N) := Lib.hid (by
    have := laidIn_all (os := yOrd wide) (ns := (syOf l 0 wide big).N) (n := 6) (yOrd_all wide) rfl
    rwa [len_yOrd] at this)
  have hn24 : n ≤ 24 := by rw [hn]; exact ySize_le wide
  have HC : Hid ((syOf l 0 wide big).C.size = 6) := Lib.hid rfl
  have HC1 := Lib.hid (syOf l 0 wide big).one
  generalize hpg : syOf l 0 wide big = pg at HAt HHd HAll HC HC1 ⊢
  clear hpg hn
  generalize yX l 0 wide big = xs at HAt HNA
  generalize i64s (yOrd wide) = RO at HOr HAO
  generalize yRow wide = row at HNA HSu HSl
  generalize yOrd wide = os at HAO HOl HOk HAt HNA HSu HAll
  generalize hns : pg.N = ns at HAt HHd HAll
  have HVC : Hid (pg.V = .agg pg.C) := Lib.hid rfl
  clear hns
  go_enter Try.func23, Try.ntmps23
  go_wp2_with fail
  generalize hW : World.alloc _ _ = W0
  obtain ⟨bf, b4, b5, hg0⟩ := blk3 hW
  clear hW
  refine (HOr.out W0).mono ?_
  rintro e w3 ⟨rfl, hg3⟩
  have hb8 : Blk w3 (w.heap.size + 1 + 1) 51 (u64s (List.replicate 6 0)) := Blk.grow b5 hg3
  rw [← laidIn_zero os ns 6] at hb8
  have HB8 := Lib.hid hb8
  have HBF3 := Lib.hid (bf.grow hg3)
  have HB43 : Hid (Blk w3 (w.heap.size + 1) 49 sy0.C) := Blk.grow b4 hg3
  have HG3 : Hid (Grow w w3) := hg0.trans hg3
  clear hb8 hg3 hg0 bf b4 b5
  go_wp2_with fail
  go_loopw [6, 12] (fun a i wr => ∃ (k q : Nat), k ≤ 6 ∧ i = .int .i64 k ∧ a = .int .i64 q ∧ q = sumN (row.take k) ∧ Blk wr w.heap.size 24 #[.bool wide, .bool big] ∧ Blk wr (w.heap.size + 1) 49 sy0.C ∧ Blk wr (w.heap.size + 1 + 1) 51 (u64s (laidIn os ns 6 k)) ∧ Grow w wr) (fun _ i _ => 6 - (intOf i).toNat)
  case atStart => exact ⟨0, 0, by omega, rfl, rfl, rfl, HBF3.out, HB43.out, HB8.out, HG3.out⟩
  case round =>
    obtain ⟨k, q, hk, rfl, rfl, hq, hbf, hb6, hb8, hg⟩ := hrel
    have HBF := Lib.hid hbf
    have HB6 := Lib.hid hb6
    have HB8k := Lib.hid hb8
    have HG := Lib.hid hg
    have HQ := Lib.hid hq
    have hqn : q ≤ n := by rw [hq]; exact HSl.out k
    clear hbf hb6 hb8 hg hq HBF3 HB43 HB8 HG3
    by_cases hlt : k < 6
    · have HK2 := Lib.hid (HAO.out k hlt)
      have HKo := Lib.hid (HOk.out k hlt)
      have ho8 := HOl.out k hlt
      have HAk := Lib.hid (HAt.out k hlt)
      have HNk := Lib.hid (HNA.out k hlt)
      have HSk := Lib.hid (HSu.out k hlt)
      rw [← HQ.out] at HNk
      have HW2 := Lib.hid (fun w => HWi.out (os.getD k 0) w)
      have HWk := Lib.hid (HWw.out (os.getD k 0))
      have hqm : q + yWid wide (os.getD k 0) ≤ n := by rw [HQ.out, ← HSk.out]; exact HSl.out (k + 1)
      rw [HNk.out] at HAk
      generalize yWid wide (os.getD k 0) = m at HNk HSk HW2 HWk hqm HAk
      generalize os.getD k 0 = i at HK2 HKo ho8 HAk HW2
      have z1 : (0 : Int) ≤ (i : Int) := by omega
      have z2 : (i : Int) < 6 := by omega
      obtain ⟨y0, y1⟩ := HBF.out.c2
      go_wp2_with (refine wpList_index rfl 53 3 (.tmp 11) (.tmp 12) rfl 6 _ Try.underlying53 Try.underlying3 rfl (by kernel_rfl) RO k (.int .i64 (i : Int)) rfl rfl hlt HK2.out ?_)
      clear y0 y1
      refine (HW2.out _).mono ?_
      rintro e w4 ⟨rfl, hg4⟩
      have HBF4 := Lib.hid (HBF.out.grow hg4)
      have HB64 := Lib.hid (HB6.out.grow hg4)
      have HB84 := Lib.hid (HB8k.out.grow hg4)
      have HG4 : Hid (Grow w w4) := HG.out.trans hg4
      clear hg4 HBF HB6 HB8k HG
      obtain ⟨y0, y1⟩ := HBF4.out.c2
      have z5 : IntKind.u64.wrap (q : Int) = (q : Int) := by rw [IntKind.wrap_u64]; omega
      go_wp2_with fail
      clear y0 y1 z5
      refine (get_any A n c l _ q m big _ (HR.out.belowAt HG4.out (Nat.le_refl _)) (by omega)).mono ?_
      rintro e w5 ⟨rfl, j, hw5⟩
      have hgb : gotB l q m = true := by
        simp only [gotB, HWk.out, Bool.true_and, wthn]
        exact decide_eq_true (by have := HLen.out; omega)
      have hgv : gotV l q m big = getB ((l.drop q).take m) big := by
        simp only [gotV, hgb, if_true, Int.toNat_natCast]
      rw [hgb, hgv]
      generalize getB ((l.drop q).take m) big = v at HAk ⊢
      have HBF5 : Hid (Blk w5 w.heap.size 24 #[.bool wide, .bool big]) := by rw [hw5]; exact HBF4.out
      have HB65 : Hid (Blk w5 (w.heap.size + 1) 49 sy0.C) := by rw [hw5]; exact HB64.out
      have HB85 : Hid (Blk w5 (w.heap.size + 1 + 1) 51 (u64s (laidIn os ns 6 k))) := by rw [hw5]; exact HB84.out
      have HG5 : Hid (Grow w w5) := by rw [hw5]; exact HG4.out.trans (Grow.of_drewN _ _)
      clear hgb hgv hw5 HBF4 HB64 HB84 HG4
      have c1 : w5.cell? ⟨w.heap.size + 1 + 1, i, none⟩ = some (.int .u64 ((laidIn os ns 6 k).getD i 0 : Nat)) := by rw [HB85.out.at, idx_u64s _ _ (by rw [len_laidIn]; exact ho8)]
      have f1 := HB85.out.soft i
      have hB := HB85.out.put i v
      rw [laidIn_succ HKo.out HAk.out] at hB
      have HB86 := Lib.hid hB
      have HBF6 := Lib.hid (HBF5.out.cellset (a := ⟨w.heap.size + 1 + 1, i, none⟩) (show w.heap.size ≠ w.heap.size + 1 + 1 by omega) (.int .u64 (v : Int)))
      have HB66 := Lib.hid (HB65.out.cellset (a := ⟨w.heap.size + 1 + 1, i, none⟩) (show w.heap.size + 1 ≠ w.heap.size + 1 + 1 by omega) (.int .u64 (v : Int)))
      have HG6 : Hid (Grow w (w5.setCell ⟨w.heap.size + 1 + 1, i, none⟩ (.int .u64 (v : Int)))) := Grow.cellset HG5.out (by omega) _ _
      have z4 : IntKind.i64.wrap ((q : Int) + (m : Int)) = ((q + m : Nat) : Int) := by rw [IntKind.wrap_i64]; omega
      clear hB
      go_wp2_with fail
      go_roundw
      case rel => exact ⟨k + 1, q + m, by omega, by go_num, rfl, by rw [HSk.out, HQ.out], HBF6.out, HB66.out, HB86.out, HG6.out⟩
      case measure => simp [intOf]; omega
    · have e : k = 6 := by omega
      rw [e, HAll.out] at HB8k
      have HNs : Hid ((u64s ns).size = 6) := Lib.hid (by rw [← HAll.out]; simp [u64s, len_laidIn])
      generalize u64s ns = RN at HHd HB8k HNs
      clear HSl HNA
      go_wp2_with (refine wpList_load_row rfl 51 (.tmp 5) rfl (w.heap.size + 1 + 1) rfl _ RN (0, 0) _ HB8k.out Try.underlying51 rfl (by rw [HNs.out]; kernel_rfl) ?_)
      refine (HHd.out _).mono ?_
      rintro e w5 ⟨rfl, hg5⟩
      have HB65 := Lib.hid (HB6.out.grow hg5)
      have HG5 : Hid (Grow w w5) := HG.out.trans hg5
      clear hg5
      rw [HVC.out]
      have HB66 := Lib.hid (HB65.out.set pg.C)
      have HG6 : Hid (Grow w (w5.setRow (w.heap.size + 1) pg.C)) := Grow.set HG5.out (Nat.le_succ _) _
      obtain ⟨R, hR⟩ : ∃ R, R = pg.C := ⟨_, rfl⟩
      rw [← hR] at HC HC1 HG6 HB66 ⊢
      have HR2 := Lib.hid hR
      clear hR
      go_wp2_with (refine wpList_store_row rfl 49 (.tmp 4) (.tmp 35) rfl (w.heap.size + 1) R rfl rfl _ _ HB65.out (by rw [HC.out]; kernel_rfl) (by rw [HC.out]; rfl) HC1.out ?_)
      refine bodyPost_ret (results_cell_row (cs := R) rfl _ _ (w.heap.size + 1) _ (0, 0) _ rfl HB66.out Try.underlying49 rfl (by rw [HC.out]; kernel_rfl)) rfl ?_
      exact ⟨by rw [HR2.out]; exact congrArg Ending.returned HVC.out.symm, HG6.out⟩
end Go.Proofs.Ytodcnlihhilfkaa
