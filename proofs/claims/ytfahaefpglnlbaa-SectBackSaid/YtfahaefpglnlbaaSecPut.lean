/-
  The contract of sect.Put: the bytes of any section header, in new memory; or ErrArg.
-/
import Derived.Test.YtfahaefpglnlbaaSecA
import Derived.Test.YtfahaefpglnlbaaRefRow
namespace Go.Proofs.Ytfahaefpglnlbaa
open Go.RowKit

theorem Blk.below {w W : World} {g B : Nat} {t : TypeId} {cs : Array Value} (h : Blk w g t cs) (hb : Below B w W) (hg : g < B) : Blk W g t cs := by rw [Blk, hb.block g hg]; exact h

/-- The numbers, each with how many bytes it has. -/
def Sc.Q (p : Sc) (wide : Bool) : List (Nat × Nat) := p.N.zip (sRow wide)
/-- The bytes. -/
def Sc.L (p : Sc) (wide big : Bool) : List UInt8 := rowB big (p.Q wide)
theorem Sc.lenN (p : Sc) : p.N.length = 10 := rfl
theorem Sc.lenQ (p : Sc) (wide : Bool) : (p.Q wide).length = 10 := by rw [Sc.Q, List.length_zip, len_sRow]; rfl
theorem Sc.fstQ (p : Sc) (wide : Bool) : (p.Q wide).map (·.1) = p.N := List.map_fst_zip (by rw [len_sRow]; exact Nat.le_refl _)
theorem Sc.sndQ (p : Sc) (wide : Bool) : (p.Q wide).map (·.2) = sRow wide := List.map_snd_zip (by rw [len_sRow]; exact Nat.le_refl _)
theorem Sc.lenL (p : Sc) (wide big : Bool) : (p.L wide big).length = sSize wide := by
  rw [Sc.L, length_rowB, ← sum_sRow, Sc.sndQ]
theorem Sc.atN (p : Sc) (ok : p.Ok) (i : Nat) : p.N.getD i 0 < 18446744073709551616 := by
  obtain ⟨k1, k2, k3, k4, k5, k6, k7, k8, k9, k10⟩ := ok
  match i with
  | 0 => show p.na < _; omega
  | 1 => show p.ty < _; omega
  | 2 => show p.fl < _; omega
  | 3 => show p.ad < _; omega
  | 4 => show p.off < _; omega
  | 5 => show p.sz < _; omega
  | 6 => show p.li < _; omega
  | 7 => show p.inf < _; omega
  | 8 => show p.al < _; omega
  | 9 => show p.en < _; omega
  | _ + 10 => show 0 < _; omega
theorem Sc.atQ (p : Sc) (wide : Bool) (k : Nat) (h : k < (p.Q wide).length) : (p.Q wide)[k].1 = p.N.getD k 0 ∧ (p.Q wide)[k].2 = sWid wide k := by
  have hk : k < 10 := by rw [p.lenQ] at h; exact h
  simp only [Sc.Q, List.getElem_zip]
  constructor
  · rw [List.getD_eq_getElem?_getD, List.getElem?_eq_getElem (by rw [p.lenN]; exact hk)]; rfl
  · rw [← sRow_at wide k hk, List.getD_eq_getElem?_getD, List.getElem?_eq_getElem (by rw [len_sRow]; exact hk)]; rfl
theorem Sc.rowed (p : Sc) (ok : p.Ok) (wide : Bool) : Rowed (p.Q wide) :=
  ⟨by rw [p.lenQ]; omega, fun k hk => by rw [(p.atQ wide k hk).2]; exact sWid_wid _ _, fun k hk => by rw [(p.atQ wide k hk).1]; exact p.atN ok _⟩

theorem makeS (wide : Bool) (w : World) : (Instr.makeSlice 28 (.int .i64 0) (.int .i64 (sSize wide : Nat))).run Try.prog w = .ok (.slice (some ⟨w.heap.size, 0, none⟩) 0 (sSize wide))
    (w.alloc (.cells (Array.replicate (sSize wide) (.int .u8 0)) 5)) := by cases wide <;> kernel_rfl

/-- What Put answers. -/
def SPut (p : Sc) (wide big : Bool) (w : World) (e : Ending) (w' : World) : Prop :=
  (rowF (p.Q wide) = true ∧ ∃ A c, e = .returned (.tuple #[.slice A (p.L wide big).length c, .nilIface]) ∧ OB w' w.heap.size 5 A (p.L wide big).length c (p.L wide big) ∧ Grow w w') ∨
  (rowF (p.Q wide) = false ∧ e = .returned (.tuple #[.slice none 0 0, .iface 49 (.int .i64 1)]) ∧ Grow w w')

set_option maxHeartbeats 400000 in
theorem sPut_any (p : Sc) (ok : p.Ok) (wide big : Bool) (w : World) : Calls Try.prog 6 #[p.V, .agg #[.bool wide, .bool big]] w (SPut p wide big w) := by
  have HR := Lib.hid (p.rowed ok wide)
  have HN := Lib.hid (fun w => sNum_any p ok w)
  have HSz := Lib.hid (fun w => sSize_any wide big w)
  have HWi := Lib.hid (fun i w => sWid_any wide big i w)
  have HLQ := Lib.hid (p.lenQ wide)
  have HMk := Lib.hid (makeS wide)
  have HSp : Hid (sSize wide ≤ 64) := by cases wide <;> exact Lib.hid (by decide)
  have HAN : Hid (∀ i, i < 10 → (u64s p.N)[i]? = some (.int .u64 (p.N.getD i 0 : Nat))) := Lib.hid (fun i hi => idx_u64s _ _ hi)
  have HAQ := Lib.hid (p.atQ wide)
  have HC1 : Hid (p.C.size = 10) := Lib.hid rfl
  unfold SPut Sc.L
  unfold Sc.V
  generalize p.Q wide = q at HR HLQ HAQ ⊢
  generalize u64s p.N = RN at HN HAN
  generalize p.N = pn at HAN HAQ
  unfold Sc.V at HN
  generalize p.C = C at HN HC1 ⊢
  generalize sSize wide = sz at HSz HMk HSp
  go_enter Try.func6, Try.ntmps6
  go_wp2_with fail
  generalize hW : World.alloc _ _ = W0
  obtain ⟨b1, bf, hg0⟩ := blk2 hW
  clear hW
  refine (HSz.out W0).mono ?_
  rintro e w1 ⟨rfl, hg1⟩
  have HB1 := Lib.hid (b1.grow hg1)
  have HBF1 := Lib.hid (bf.grow hg1)
  have HG1 : Hid (Grow w w1) := hg0.trans hg1
  clear b1 bf hg0 hg1
  have hmk := HMk.out w1
  have HB2 := Lib.hid (HB1.out.alloc (.cells (Array.replicate sz (.int .u8 0)) 5))
  go_wp2_with (refine wpList_load_row rfl 25 (.tmp 2) rfl w.heap.size rfl _ C (0, 0) _ HB2.out Try.underlying25 rfl (by rw [HC1.out]; kernel_rfl) ?_)
  clear hmk HMk
  refine (HN.out _).mono ?_
  rintro e w3 ⟨rfl, hg3⟩
  have HO3 := Lib.hid ((OB.room w1 w1.heap.size 5 sz (.int .u8 0) (by have := HSp.out; unfold maxLen; omega) (Nat.le_refl _)).keep hg3)
  have HBF3 := Lib.hid ((HBF1.out.alloc _).grow hg3)
  have HG3 : Hid (Grow w w3) := (HG1.out.trans (Grow.of_alloc _ _)).trans hg3
  have HD : Hid (w.heap.size + 1 < w1.heap.size) := HBF1.out.lt
  have HDs : Hid (w1.heap.size ≤ w3.heap.size) := by have := hg3.size; simp at this; exact Lib.hid (by omega)
  generalize w1.heap.size = g7 at HO3 HD HDs ⊢
  clear hg3 HG1 HBF1 HB1 HB2
  go_wp2_with fail
  go_loopw [6, 15] (fun x i wr => ∃ (k : Nat) (A : Option Addr) (c : Nat), k ≤ 10 ∧ i = .int .i64 k ∧ x = .slice A (rowB big (q.take k)).length c ∧ OB wr g7 5 A (rowB big (q.take k)).length c (rowB big (q.take k)) ∧
    Blk wr (w.heap.size + 1) 27 #[.bool wide, .bool big] ∧ rowF (q.take k) = true ∧ Grow w wr ∧ g7 ≤ wr.heap.size) (fun _ i _ => 10 - (intOf i).toNat)
  case atStart => exact ⟨0, some ⟨g7, 0, none⟩, sz, by omega, rfl, rfl, HO3.out, HBF3.out, rfl, HG3.out, HDs.out⟩
  case round =>
    obtain ⟨k, A, c, hk, rfl, rfl, ho, hbf, hrf, hg, hgs⟩ := hrel
    have HO := Lib.hid ho
    have HBF := Lib.hid hbf
    have HRF := Lib.hid hrf
    have HG := Lib.hid hg
    have HGs := Lib.hid hgs
    clear ho hbf hrf hg hgs HO3 HBF3 HG3 HDs
    by_cases hlt : k < 10
    · have hkq : k < q.length := by rw [HLQ.out]; exact hlt
      have HB := Lib.hid (rowB_succ big q k hkq)
      have HF := Lib.hid (rowF_succ q k hkq)
      have HW := Lib.hid (HR.out.wide k hkq)
      have HZ := Lib.hid (fun h => rowF_false hkq h)
      have HLE := Lib.hid (rowB_le HR.out big k (by omega))
      have hv := HR.out.lt k hkq
      have hw8 := HR.out.wide8 k hkq
      have HK1 := Lib.hid (HAN.out k hlt)
      obtain ⟨e1, e2⟩ := HAQ.out k hkq
      rw [HRF.out, Bool.true_and] at HF
      rw [← e1] at HK1
      have HW2 := Lib.hid (fun w => HWi.out k w)
      rw [← e2] at HW2
      clear e1 e2
      generalize q[k].1 = v at HB HF HZ hv HK1
      generalize q[k].2 = m at HB HF HZ HW hw8 HW2
      obtain ⟨y0, y1⟩ := HBF.out.c2
      clear hkq
      go_wp2_with (refine wpList_index rfl 45 23 (.tmp 14) (.tmp 15) rfl 10 _ Try.underlying45 Try.underlying23 rfl (by kernel_rfl) RN k (.int .u64 (v : Int)) rfl rfl hlt HK1.out ?_)
      clear y0 y1
      refine (HW2.out _).mono ?_
      rintro e w4 ⟨rfl, hg4⟩
      have HO4 := Lib.hid (HO.out.keep hg4)
      have HBF4 := Lib.hid (HBF.out.grow hg4)
      have HG4 : Hid (Grow w w4) := HG.out.trans hg4
      have HGs4 : Hid (g7 ≤ w4.heap.size) := Nat.le_trans HGs.out hg4.size
      clear hg4 HO HBF HG HGs
      go_wp2_with fail
      refine (fits_any v m _ (by omega) (by omega)).mono ?_
      rintro e w5 ⟨rfl, rfl⟩
      rw [fits_row v m HW.out]
      cases hfit : decide (v < 256 ^ m)
      · have HZ2 := Lib.hid (HZ.out hfit)
        clear hfit
        go_wp2
        go_ret2
        exact .inr ⟨HZ2.out, rfl, HG4.out⟩
      · rw [hfit] at HF
        clear hfit HZ
        obtain ⟨y0, y1⟩ := HBF4.out.c2
        go_wp2_with fail
        clear y0 y1
        refine (put_wide v m big _ HW.out (by omega)).mono ?_
        rintro e w7 ⟨A3, c3, rfl, ho3, hb3⟩
        have HO7 := Lib.hid (HO4.out.keep hb3)
        have HO3 := Lib.hid ho3
        have HBF7 := Lib.hid (HBF4.out.grow hb3)
        have HG7 : Hid (Grow w w7) := HG4.out.trans hb3
        have HGs7 : Hid (g7 ≤ w7.heap.size) := Nat.le_trans HGs4.out hb3.size
        clear ho3 hb3 HO4 HBF4 HG4 HGs4
        rw [Int.toNat_natCast] at HO3
        have HS : Hid (w.heap.size ≤ g7) := by have := HD.out; exact Lib.hid (by omega)
        go_wp2_with (refine wpList_appendB w7 rfl (.tmp 27) (.tmp 32) 28 rfl g7 5 Try.underlying28 (by kernel_rfl) A _ c _ rfl HO7.out w7.heap.size A3 m c3 _ rfl HO3.out.rb (by have := HLE.out; omega) HGs7.out ?_; intro A5 c5 w8 ho5 hb5)
        have HBF8 := Lib.hid (HBF7.out.below hb5 HD.out)
        have HG8 : Hid (Grow w w8) := HG7.out.trans' (hb5.mono HS.out)
        have HGs8 : Hid (g7 ≤ w8.heap.size) := Nat.le_trans HGs7.out hb5.size
        rw [← HB.out] at ho5
        have hm : (rowB big (q.take k)).length + m = (rowB big (q.take (k + 1))).length := by rw [HB.out, List.length_append, length_putB]
        rw [hm] at ho5 ⊢
        have HO5 := Lib.hid ho5
        clear ho5 hb5 hm HO3 HO7 HG7 HBF7 HGs7
        go_roundw
        case rel => exact ⟨k + 1, A5, c5, by omega, by go_num, rfl, HO5.out, HBF8.out, HF.out, HG8.out, HGs8.out⟩
        case measure => simp [intOf]; omega
    · have HK : Hid (q.take k = q) := by
        have e : k = q.length := by rw [HLQ.out]; omega
        rw [e]
        exact List.take_length
      rw [HK.out] at HO HRF ⊢
      have HO' := Lib.hid (HO.out.mono (base' := w.heap.size) (by have := HD.out; omega))
      go_wp2
      go_ret2
      exact .inl ⟨HRF.out, A, c, rfl, HO'.out, HG.out⟩
end Go.Proofs.Ytfahaefpglnlbaa
