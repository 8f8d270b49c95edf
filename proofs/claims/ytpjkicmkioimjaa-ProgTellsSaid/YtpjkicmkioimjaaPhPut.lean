/-
  The contract of prog.Put: the bytes of any program header, in new memory; or ErrArg.
-/
import Derived.Test.YtpjkicmkioimjaaPhA
import Derived.Test.YtpjkicmkioimjaaRefRow
namespace Go.Proofs.Ytpjkicmkioimjaa
open Go.RowKit

/-- The numbers, each with how many bytes it has. -/
def Pg.Q (p : Pg) (wide : Bool) : List (Nat × Nat) := (pOrd wide).map fun i => (p.N.getD i 0, pWid wide i)
/-- The bytes. -/
def Pg.L (p : Pg) (wide big : Bool) : List UInt8 := rowB big (p.Q wide)
theorem Pg.lenQ (p : Pg) (wide : Bool) : (p.Q wide).length = 8 := by simp [Pg.Q, len_pOrd]
theorem Pg.lenL (p : Pg) (wide big : Bool) : (p.L wide big).length = pSize wide := by
  rw [Pg.L, length_rowB, ← sum_pRow, pRow, Pg.Q, List.map_map]
  rfl
theorem Pg.atN (p : Pg) (ok : p.Ok) (i : Nat) : p.N.getD i 0 < 18446744073709551616 := by
  obtain ⟨k1, k2, k3, k4, k5, k6, k7, k8⟩ := ok
  match i with
  | 0 => show p.ty < _; omega
  | 1 => show p.fl < _; omega
  | 2 => show p.off < _; omega
  | 3 => show p.va < _; omega
  | 4 => show p.pa < _; omega
  | 5 => show p.fs < _; omega
  | 6 => show p.ms < _; omega
  | 7 => show p.al < _; omega
  | _ + 8 => show 0 < _; omega
theorem Pg.rowed (p : Pg) (ok : p.Ok) (wide : Bool) : Rowed (p.Q wide) :=
  ⟨by rw [p.lenQ]; omega, fun k hk => by simp only [Pg.Q, List.getElem_map]; exact pWid_wid _ _, fun k hk => by simp only [Pg.Q, List.getElem_map]; exact p.atN ok _⟩

theorem makeP (wide : Bool) (w : World) : (Instr.makeSlice 28 (.int .i64 0) (.int .i64 (pSize wide : Nat))).run Try.prog w = .ok (.slice (some ⟨w.heap.size, 0, none⟩) 0 (pSize wide))
    (w.alloc (.cells (Array.replicate (pSize wide) (.int .u8 0)) 5)) := by cases wide <;> kernel_rfl

/-- What Put answers. -/
def PPut (p : Pg) (wide big : Bool) (w : World) (e : Ending) (w' : World) : Prop :=
  (rowF (p.Q wide) = true ∧ ∃ A c, e = .returned (.tuple #[.slice A (p.L wide big).length c, .nilIface]) ∧ OB w' w.heap.size 5 A (p.L wide big).length c (p.L wide big) ∧ Grow w w') ∨
  (rowF (p.Q wide) = false ∧ e = .returned (.tuple #[.slice none 0 0, .iface 51 (.int .i64 1)]) ∧ Grow w w')

set_option maxHeartbeats 400000 in
theorem pPut_any (p : Pg) (ok : p.Ok) (wide big : Bool) (w : World) : Calls Try.prog 6 #[p.V, .agg #[.bool wide, .bool big]] w (PPut p wide big w) := by
  have HR := Lib.hid (p.rowed ok wide)
  have HN := Lib.hid (fun w => pNum_any p ok w)
  have HSz := Lib.hid (fun w => pSize_any wide big w)
  have HOr := Lib.hid (fun w => pOrd_any wide big w)
  have HWi := Lib.hid (fun i w => pWid_any wide big i w)
  have HSN : Hid ((u64s p.N).size = 8) := Lib.hid rfl
  have HON := Lib.hid (one_u64s p.N)
  have HLQ := Lib.hid (p.lenQ wide)
  have HMk := Lib.hid (makeP wide)
  have HSp : Hid (pSize wide ≤ 56) := by cases wide <;> exact Lib.hid (by decide)
  have HAO : Hid (∀ k, k < 8 → (i64s (pOrd wide))[k]? = some (.int .i64 ((pOrd wide).getD k 0 : Nat))) := Lib.hid (fun k hk => idx_i64s _ _ (by rw [len_pOrd]; exact hk))
  have HOl := Lib.hid (pOrd_lt wide)
  have HAN : Hid (∀ i, i < 8 → (u64s p.N)[i]? = some (.int .u64 (p.N.getD i 0 : Nat))) := Lib.hid (fun i hi => idx_u64s _ _ hi)
  have HAQ : Hid (∀ k (h : k < (p.Q wide).length), (p.Q wide)[k].1 = p.N.getD ((pOrd wide).getD k 0) 0 ∧ (p.Q wide)[k].2 = pWid wide ((pOrd wide).getD k 0)) := Lib.hid (fun k h => by
    have hk : k < (pOrd wide).length := by rw [p.lenQ] at h; rw [len_pOrd]; exact h
    simp only [Pg.Q, List.getElem_map]
    rw [List.getD_eq_getElem?_getD (l := pOrd wide), List.getElem?_eq_getElem hk]
    exact ⟨rfl, rfl⟩)
  have HC1 : Hid (p.C.size = 8) := Lib.hid rfl
  unfold PPut Pg.L
  unfold Pg.V
  generalize p.Q wide = q at HR HLQ HAQ ⊢
  generalize u64s p.N = RN at HN HSN HON HAN
  generalize i64s (pOrd wide) = RO at HOr HAO
  generalize pOrd wide = os at HAO HOl HAQ
  generalize p.N = pn at HAN HAQ
  unfold Pg.V at HN
  generalize p.C = C at HN HC1 ⊢
  generalize pSize wide = sz at HSz HMk HSp
  go_enter Try.func6, Try.ntmps6
  go_wp2_with (refine wpList_load_row rfl 25 (.tmp 2) rfl w.heap.size rfl _ C (0, 0) _ (blk2 rfl).1 Try.underlying25 rfl (by rw [HC1.out]; kernel_rfl) ?_)
  generalize hW : World.alloc _ _ = W0
  obtain ⟨b1, bf, hg0⟩ := blk2 hW
  clear hW b1
  refine (HN.out W0).mono ?_
  rintro e w1 ⟨rfl, hg1⟩
  have HBF1 := Lib.hid (bf.grow hg1)
  have HG1 : Hid (Grow w w1) := hg0.trans hg1
  clear bf hg0 hg1
  obtain ⟨y0, y1⟩ := (HBF1.out.alloc (.cells RN 45)).c2
  go_wp2_with (refine wpList_store_row rfl 45 (.tmp 6) (.tmp 12) rfl w1.heap.size RN rfl rfl _ _ (Blk.new _ _ _) (by rw [HSN.out]; kernel_rfl) (by rw [HSN.out]; rfl) HON.out ?_; rw [World.setRow_alloc_new])
  clear y0 y1
  refine (HSz.out _).mono ?_
  rintro e w2 ⟨rfl, hg2⟩
  have HBN := Lib.hid ((Blk.new w1 45 RN).grow hg2)
  have HBF2 := Lib.hid ((HBF1.out.alloc _).grow hg2)
  have HG2 : Hid (Grow w w2) := (HG1.out.trans (Grow.of_alloc _ _)).trans hg2
  have HG6 : Hid (w.heap.size + 1 < w1.heap.size) := HBF1.out.lt
  generalize w1.heap.size = g6 at HBN HG6 ⊢
  clear hg2 HG1 HBF1
  have hmk := HMk.out w2
  obtain ⟨y0, y1⟩ := (HBF2.out.alloc (.cells (Array.replicate sz (.int .u8 0)) 5)).c2
  go_wp2_with fail
  clear y0 y1 hmk HMk
  refine (HOr.out _).mono ?_
  rintro e w3 ⟨rfl, hg3⟩
  have HO3 := Lib.hid ((OB.room w2 w.heap.size 5 sz (.int .u8 0) (by have := HSp.out; unfold maxLen; omega) HG2.out.size).keep hg3)
  have HBN3 := Lib.hid ((HBN.out.alloc _).grow hg3)
  have HBF3 := Lib.hid ((HBF2.out.alloc _).grow hg3)
  have HG3 : Hid (Grow w w3) := (HG2.out.trans (Grow.of_alloc _ _)).trans hg3
  have HD : Hid (w2.heap.size ≠ w.heap.size + 1) := by have := HBF2.out.lt; exact Lib.hid (by omega)
  have HD6 : Hid (w2.heap.size ≠ g6) := by have := HBN.out.lt; exact Lib.hid (by omega)
  generalize w2.heap.size = g7 at HO3 HD HD6 ⊢
  clear hg3 HG2 HBN HBF2
  go_wp2_with fail
  go_loopw [7, 18] (fun x i wr => ∃ (k : Nat) (A : Option Addr) (c : Nat), k ≤ 8 ∧ i = .int .i64 k ∧ x = .slice A (rowB big (q.take k)).length c ∧ OB wr w.heap.size 5 A (rowB big (q.take k)).length c (rowB big (q.take k)) ∧
    own A ≠ some (w.heap.size + 1) ∧ own A ≠ some g6 ∧ Blk wr (w.heap.size + 1) 27 #[.bool wide, .bool big] ∧ Blk wr g6 45 RN ∧ rowF (q.take k) = true ∧ Grow w wr) (fun _ i _ => 8 - (intOf i).toNat)
  case atStart => exact ⟨0, some ⟨g7, 0, none⟩, sz, by omega, rfl, rfl, HO3.out, fun h => HD.out (by injection h), fun h => HD6.out (by injection h), HBF3.out, HBN3.out, rfl, HG3.out⟩
  case round =>
    obtain ⟨k, A, c, hk, rfl, rfl, ho, hd1, hd2, hbf, hbn, hrf, hg⟩ := hrel
    have HO := Lib.hid ho
    have HD1 := Lib.hid hd1
    have HD2 := Lib.hid hd2
    have HBF := Lib.hid hbf
    have HBN2 := Lib.hid hbn
    have HRF := Lib.hid hrf
    have HG := Lib.hid hg
    clear ho hd1 hd2 hbf hbn hrf hg HO3 HBN3 HBF3 HG3
    by_cases hlt : k < 8
    · have hkq : k < q.length := by rw [HLQ.out]; exact hlt
      have HB := Lib.hid (rowB_succ big q k hkq)
      have HF := Lib.hid (rowF_succ q k hkq)
      have HW := Lib.hid (HR.out.wide k hkq)
      have HZ := Lib.hid (fun h => rowF_false hkq h)
      have HLE := Lib.hid (rowB_le HR.out big k (by omega))
      have hv := HR.out.lt k hkq
      have hw8 := HR.out.wide8 k hkq
      have HK1 := Lib.hid (HAN.out (os.getD k 0) (HOl.out k hlt))
      have HK2 := Lib.hid (HAO.out k hlt)
      have ho8 := HOl.out k hlt
      obtain ⟨e1, e2⟩ := HAQ.out k hkq
      rw [HRF.out, Bool.true_and] at HF
      rw [← e1] at HK1
      have HW2 := Lib.hid (fun w => HWi.out (os.getD k 0) w)
      rw [← e2] at HW2
      clear e1 e2
      generalize q[k].1 = v at HB HF HZ hv HK1
      generalize q[k].2 = m at HB HF HZ HW hw8 HW2
      generalize os.getD k 0 = i at HK1 HK2 HW2 ho8
      have z1 : (0 : Int) ≤ (i : Int) := by omega
      have z2 : (i : Int) < 8 := by omega
      obtain ⟨y0, y1⟩ := HBF.out.c2
      clear hkq
      go_wp2_with (refine wpList_index rfl 47 3 (.tmp 17) (.tmp 18) rfl 8 _ Try.underlying47 Try.underlying3 rfl (by kernel_rfl) RO k (.int .i64 (i : Int)) rfl rfl hlt HK2.out ?_)
      clear y0 y1
      refine (HW2.out _).mono ?_
      rintro e w4 ⟨rfl, hg4⟩
      have HO4 := Lib.hid (HO.out.keep hg4)
      have HBF4 := Lib.hid (HBF.out.grow hg4)
      have HBN4 := Lib.hid (HBN2.out.grow hg4)
      have HG4 : Hid (Grow w w4) := HG.out.trans hg4
      clear hg4 HO HBF HBN2 HG
      have y1 : w4.cell? ⟨g6, i, none⟩ = some (.int .u64 (v : Int)) := (HBN4.out.at i).trans HK1.out
      go_wp2_with fail
      refine (fits_any v m _ (by omega) (by omega)).mono ?_
      rintro e w5 ⟨rfl, rfl⟩
      rw [fits_row v m HW.out]
      cases hfit : decide (v < 256 ^ m)
      · have HZ2 := Lib.hid (HZ.out hfit)
        clear hfit
        go_wp2
        go_ret2
        exact .inr ⟨HZ2.out, rfl, HG4.out⟩
      · rw [hfit] at HF
        clear hfit HZ
        go_wp2_with fail
        clear y1
        refine wp_region_leap (leap_kept (fun j => j = w.heap.size + 1 ∨ j = g6)) [(0, true), (1, true), (2, true), (3, true), (4, true), (5, true), (6, true), (7, false), (8, false), (9, true)] (by kernel_rfl) (by kernel_rfl) (by kernel_rfl) ?_
        have HX : Hid (∀ W, Kept (fun j => j = w.heap.size + 1 ∨ j = g6) w4.drew W → (_ ∧ _) ∧ W.cell? ⟨g6, i, none⟩ = some (.int .u64 (v : Int))) := fun W hW =>
          ⟨(HBF4.out.drew.kept hW (.inl rfl)).c2, ((HBN4.out.drew.kept hW (.inr rfl)).at i).trans HK1.out⟩
        have HO1 : Hid (OB w4.drew _ _ _ _ _ _) := HO4.out
        have HBF1 := Lib.hid HBF4.out.drew
        have HBN1 := Lib.hid HBN4.out.drew
        have HG1 : Hid (Grow w w4.drew) := HG4.out.trans (Grow.of_drew _)
        generalize w4.drew = w6 at HX HO1 HBF1 HBN1 HG1 ⊢
        clear HO4 HBF4 HBN4 HG4
        repeat (refine chain_take rfl (by rfl) ?_ (fun W hG => ?_) ?_; rotate_left; (obtain ⟨⟨q1, q2⟩, q3⟩ := HX.out W hG; go_simp; rfl); simp only [Act.put, List.setIfInBounds_toArray, List.set_cons_zero, List.set_cons_succ])
        clear HX
        refine chain_only rfl (by rfl) (fun K hK => ?_)
        go_simp
        refine (put_wide v m big _ HW.out (by omega)).mono ?_
        rintro e w7 ⟨A3, c3, rfl, ho3, hb3⟩
        refine hK _ _ (Kept.of_grow hb3) ?_
        clear hK K
        have HO3 := Lib.hid ho3
        have HO4 := Lib.hid (HO1.out.keep hb3)
        have HBF7 := Lib.hid (HBF1.out.grow hb3)
        have HBN7 := Lib.hid (HBN1.out.grow hb3)
        have HG7 : Hid (Grow w w7) := HG1.out.trans hb3
        clear ho3 hb3 HO1 HBF1 HBN1 HG1
        rw [Int.toNat_natCast] at HO3
        refine chain_only rfl (by rfl) (fun K hK => ?_)
        refine wp_appendS w7 (.tmp 31) (.tmp 38) 28 rfl w.heap.size 5 Try.underlying28 (by kernel_rfl) A _ c _ rfl HO4.out w7.heap.size A3 m c3 _ rfl HO3.out.rb (by have := HLE.out; omega) HG7.out.size ?_
        intro A5 c5 w8 ho5 hb5 hk5 hn5
        have HBF8 : Hid (Blk w8 (w.heap.size + 1) 27 #[.bool wide, .bool big]) := (hk5 _ HBF7.out.lt HD1.out).trans HBF7.out
        have HBN8 : Hid (Blk w8 g6 45 RN) := (hk5 _ HBN7.out.lt HD2.out).trans HBN7.out
        refine hK _ _ ⟨hb5.size, fun j hj hj2 => by
          rcases hj2 with rfl | rfl
          · exact hk5 _ hj HD1.out
          · exact hk5 _ hj HD2.out⟩ ?_
        clear hK K
        have HD1' : Hid (own A5 ≠ some (w.heap.size + 1)) := by
          rcases hn5 with e | e
          · rw [e]; exact HD1
          · rw [e]; have := HBF7.out.lt; exact fun h => by injection h; omega
        have HD2' : Hid (own A5 ≠ some g6) := by
          rcases hn5 with e | e
          · rw [e]; exact HD2
          · rw [e]; have := HBN7.out.lt; exact fun h => by injection h; omega
        have HG8 : Hid (Grow w w8) := HG7.out.trans' hb5
        rw [← HB.out] at ho5
        have hm : (rowB big (q.take k)).length + m = (rowB big (q.take (k + 1))).length := by rw [HB.out, List.length_append, length_putB]
        rw [hm] at ho5 ⊢
        have HO5 := Lib.hid ho5
        clear ho5 hb5 hk5 hn5 hm HO3 HO4 HG7 HBF7 HBN7
        repeat (refine chain_take rfl (by rfl) ?_ (fun W hG => ?_) ?_; rotate_left; (go_simp; rfl); simp only [Act.put, List.setIfInBounds_toArray, List.set_cons_zero, List.set_cons_succ])
        refine chain_done ?_
        go_wp2
        go_roundw
        case rel => exact ⟨k + 1, A5, c5, by omega, by go_num, rfl, HO5.out, HD1'.out, HD2'.out, HBF8.out, HBN8.out, HF.out, HG8.out⟩
        case measure => simp [intOf]; omega
    · have HK : Hid (q.take k = q) := by
        have e : k = q.length := by rw [HLQ.out]; omega
        rw [e]
        exact List.take_length
      rw [HK.out] at HO HRF ⊢
      go_wp2
      go_ret2
      exact .inl ⟨HRF.out, A, c, rfl, HO.out, HG.out⟩
end Go.Proofs.Ytpjkicmkioimjaa
