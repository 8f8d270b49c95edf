/-
  Several texts in one: The contract of sym; The contract of sym; An error with a place; The contract of sym.
-/
import Derived.Test.YtfbimboemahhhaaGreatDoorTfG7
import Derived.Test.YtfbimboemahhhaaGreatDoorTfG36
import Derived.Test.YtfbimboemahhhaaGreatDoorTfG2
import Derived.Test.YtfbimboemahhhaaGreatDoorTfG12
import Derived.Lib.SmallJoins
import Derived.Test.YtfbimboemahhhaaGreatDoorRows
import Derived.Test.YtfbimboemahhhaaGreatDoorTfG1
import Derived.WalkKit
import Derived.Lib.Hide
namespace Go.Proofs.YtfbimboemahhhaaGreatDoor
open Go.Lib (hid)
open Go.RowKit
theorem OB.roomy (w : World) (base : Nat) (t : TypeId) (c : Nat) (cs : Array Value) (hs : cs.size = c) (h : c ≤ maxLen) (hb : base ≤ w.heap.size) : OB (w.alloc (.cells cs t)) base t (some ⟨w.heap.size, 0, none⟩) 0 c [] :=
 ⟨by simp, .inr ⟨w.heap.size, c, cs, rfl, hb, heap_alloc_new w _, Nat.zero_le _, h, by simp [hs], by simp⟩⟩
theorem OB.lt {w : World} {base : Nat} {e : TypeId} {A : Option Addr} {n c : Nat} {l : List UInt8} (h : OB w base e A n c l) {g : Nat} (hg : own A = some g) : g < w.heap.size := by
 rcases h.2 with ⟨hv, _⟩ | ⟨g', cap, cur, hv, _, hh, _⟩
 ·injection hv with e1 _ _
  subst e1
  cases hg
 ·injection hv with e1 _ _
  subst e1
  have e3 : g' = g := Option.some.inj hg
  subst e3
  rcases Nat.lt_or_ge g' w.heap.size with h1 | h1
  ·exact h1
  ·rw [Array.getElem?_eq_none h1] at hh; cases hh
theorem OB.from {w : World} {base : Nat} {e : TypeId} {A : Option Addr} {n c : Nat} {l : List UInt8} (h : OB w base e A n c l) {g : Nat} (hg : own A = some g) : base ≤ g := by
 rcases h.2 with ⟨hv, _⟩ | ⟨g', cap, cur, hv, hb, _⟩
 ·injection hv with e1 _ _
  subst e1
  cases hg
 ·injection hv with e1 _ _
  subst e1
  have e3 : g' = g := Option.some.inj hg
  omega
theorem makeY (N : Nat) (h : N ≤ 100000) (w : World) : (Instr.makeSlice 29 (.int .i64 0) (.int .i64 (N : Int))).run Tryz.prog w = .ok (.slice (some ⟨w.heap.size, 0, none⟩) 0 N)
  (w.alloc (.cells (madeCells #[.int .u8 0] N) 5)) := by
 have hinfo : (Tryz.prog.info? 5).map (fun i => (i.zero, i.size, i.bytes)) = some (some (.int .u8 0), 1, 1) := by kernel_rfl
 obtain ⟨i, hi, hz, hs, hby⟩ := info_parts hinfo
 have := run_make (P := Tryz.prog) w 29 5 i (.int .u8 0) Tryz.underlying29 hi hz .i64 .i64 0 (N : Int) (Int.le_refl _) (by omega) (by rw [hby]; omega) (by omega)
 rw [hs, show (Value.int IntKind.u8 0).cells = #[.int .u8 0] from rfl] at this
 simpa using this
def YPut (L : List Sy) (wide big : Bool) (w : World) (e : Ending) (w' : World) : Prop :=
 (rowF (symQ wide L) = true ∧ ∃ A c, e = .returned (.tuple #[.slice A (rowB big (symQ wide L)).length c, .nilIface]) ∧ OB w' w.heap.size 5 A (rowB big (symQ wide L)).length c (rowB big (symQ wide L)) ∧ Grow w w') ∨
 (rowF (symQ wide L) = false ∧ e = .returned (.tuple #[.slice none 0 0, .iface 86 (.int .i64 1)]) ∧ Grow w w')
set_option maxHeartbeats 1000000 in
theorem yPut_any (A : Option Addr) (n c : Nat) (L : List Sy) (hok : ∀ s ∈ L, s.Ok) (h400 : L.length ≤ 400) (wide big : Bool) (w : World) (h : ZS w w.heap.size 6 A n c (L.map Sy.C)) :
  Calls Tryz.prog 9 #[.slice A n c, .agg #[.bool wide, .bool big]] w (YPut L wide big w) := by
 have hn : n = L.length := by have := h.len; simpa using this
 have HS := hid h
 have hcp := h.cap
 have hmx := h.max
 unfold maxLen at hmx
 have hn4 : n ≤ 400 := by omega
 clear h h400
 have HK : Hid (∀ k, k < n → ∃ (C RN : Array Value) (N : List Nat), C.size = 6 ∧ C.all (·.oneCell') = true ∧ (∀ hk : k < (L.map Sy.C).length, (L.map Sy.C)[k] = C) ∧ RN.size = 6 ∧ RN.all (·.oneCell') = true ∧ (∀ i, i < 6 → RN[i]? = some (.int .u64 (N.getD i 0 : Nat))) ∧
   (∀ i, N.getD i 0 < 18446744073709551616) ∧ (∀ w, Calls Tryz.prog 33 #[.agg C] w fun e w' => e = .returned (.agg RN) ∧ Grow w w') ∧
   (∀ j (_ : j < 6) (hq : 6 * k + j < (symQ wide L).length), (symQ wide L)[6 * k + j].1 = N.getD ((yOrd wide).getD j 0) 0 ∧ (symQ wide L)[6 * k + j].2 = yWid wide ((yOrd wide).getD j 0))) := hid (fun k hk => by
  have hkl : k < L.length := by omega
  have ok := hok _ (List.getElem_mem hkl)
  exact ⟨L[k].C, u64s L[k].N, L[k].N, rfl, Sy.one _, fun _ => List.getElem_map _, rfl, one_u64s _, fun i hi => idx_u64s _ _ hi, Sy.atN _ ok, fun w => yNum_any _ ok w, fun j hj hq => symQ_get wide L k j hkl hj hq⟩)
 have HLQ : Hid ((symQ wide L).length = 6 * n) := hid (by rw [symQ_len, hn])
 have HBd : Hid (∀ k, k ≤ (symQ wide L).length → (rowB big ((symQ wide L).take k)).length ≤ 8 * k) := hid (rowB_bound (symQ_8 wide L) big)
 have HML : Hid ((L.map Sy.C).length = n) := hid (by simp [hn])
 unfold YPut
 generalize symQ wide L = q at HK HLQ HBd ⊢
 generalize L.map Sy.C = M at HS HK HML
 clear hn hok
 have HSz := hid (fun w => ySize_any wide big w)
 have HOr := hid (fun w => yOrd_any wide big w)
 have HWi := hid (fun i w => yWid_any wide big i w)
 have HWw := hid (yWid_wid wide)
 have HAO : Hid (∀ k, k < 6 → (i64s (yOrd wide))[k]? = some (.int .i64 ((yOrd wide).getD k 0 : Nat))) := hid (fun k hk => idx_i64s _ _ (by rw [len_yOrd]; exact hk))
 have HOl := hid (yOrd_lt wide)
 have HSp : Hid (ySize wide ≤ 24) := hid (ySize_le wide)
 generalize i64s (yOrd wide) = RO at HOr HAO
 generalize yOrd wide = os at HAO HOl HK
 generalize ySize wide = sz at HSz HSp
 go_enter Tryz.func9, Tryz.ntmps9
 go_wp2_with fail
 generalize hW : World.alloc _ _ = W0
 obtain ⟨bf, hg0⟩ := blk1 hW
 clear hW
 refine (HSz.out W0).mono ?_
 rintro e w1 ⟨rfl, hg1⟩
 have HBF1 := hid (bf.grow hg1)
 have HG1 : Hid (Grow w w1) := hg0.trans hg1
 clear bf hg0 hg1
 obtain ⟨N, hN⟩ : ∃ N, N = n * sz := ⟨_, rfl⟩
 have hN4 : N ≤ 9600 := by rw [hN]; exact Nat.mul_le_mul hn4 HSp.out
 have z1 : IntKind.i64.wrap ((n : Int) * (sz : Int)) = (N : Int) := by
  rw [hN, Int.natCast_mul, IntKind.wrap_i64]
  have : (n : Int) * (sz : Int) = ((n * sz : Nat) : Int) := by simp
  omega
 have hmk := makeY N (by omega) w1
 clear hN
 go_wp2_with fail
 have HO2 := hid (OB.roomy w1 (w.heap.size + 1) 5 N (madeCells #[.int .u8 0] N) (by simp [size_madeCells]) (by unfold maxLen; omega) (show w.heap.size + 1 ≤ w1.heap.size from HBF1.out.lt))
 have HBF2 := hid (HBF1.out.alloc (.cells (madeCells #[.int .u8 0] N) 5))
 have HG2 : Hid (Grow w (w1.alloc (.cells (madeCells #[.int .u8 0] N) 5))) := HG1.out.trans (Grow.of_alloc _ _)
 generalize w1.alloc _ = w2 at HO2 HBF2 HG2 ⊢
 generalize w1.heap.size = g7 at HO2 ⊢
 clear hmk z1 HG1 HBF1 HSz
 go_loopw [6, 21] (fun x i wr => ∃ (k : Nat) (A2 : Option Addr) (c2 : Nat), k ≤ n ∧ i = .int .i64 k ∧ x = .slice A2 (rowB big (q.take (6 * k))).length c2 ∧ OB wr (w.heap.size + 1) 5 A2 (rowB big (q.take (6 * k))).length c2 (rowB big (q.take (6 * k))) ∧
  Blk wr w.heap.size 23 #[.bool wide, .bool big] ∧ rowF (q.take (6 * k)) = true ∧ Grow w wr) (fun _ i _ => n - (intOf i).toNat)
 case atStart => exact ⟨0, some ⟨g7, 0, none⟩, N, Nat.zero_le _, rfl, rfl, HO2.out, HBF2.out, rfl, HG2.out⟩
 case round =>
  obtain ⟨k, A2, c2, hk, rfl, rfl, ho, hbf, hrf, hg⟩ := hrel
  have HO := hid ho
  have HBF := hid hbf
  have HRF := hid hrf
  have HG := hid hg
  clear ho hbf hrf hg HO2 HBF2 HG2
  by_cases hlt : k < n
  ·obtain ⟨b, off, rfl, -, -⟩ := HS.out.pos (by omega)
   have HSw := hid (HS.out.belowAt HG.out (Nat.le_refl _))
   obtain ⟨C, RN, pn, hC6, hC1, hCk, hR6, hR1, hAN, hA64, hNu, hQ⟩ := HK.out k hlt
   have HC6 := hid hC6
   have HC1 := hid hC1
   have HCk := hid hCk
   have HR6 := hid hR6
   have HR1 := hid hR1
   have HAN := hid hAN
   have HA64 := hid hA64
   have HNu := hid hNu
   have HQ := hid hQ
   clear hC6 hC1 hCk hR6 hR1 hAN hA64 hNu hQ
   have hkM : k < M.length := by rw [HML.out]; exact hlt
   have HkM := hid hkM
   have z0 : (0 : Int) ≤ (k : Int) := by omega
   have z1 : (k : Int) < (n : Int) := by omega
   clear hkM
   go_wp2_with (first | (refine wpList_load_zs HSw.out HkM.out rfl 40 (.tmp 23) rfl rfl _ Tryz.underlying40 rfl (by kernel_rfl) C (HCk.out _) ?_) | (refine wpList_store_row rfl 40 (.tmp 8) (.tmp 24) rfl wr.heap.size C rfl rfl _ _ (Blk.new _ _ _) (by rw [HC6.out]; kernel_rfl) (by rw [HC6.out]; rfl) HC1.out ?_; rw [World.setRow_alloc_new]) | (refine wpList_load_row rfl 40 (.tmp 8) rfl wr.heap.size rfl _ C (0, 0) _ (Blk.new _ _ _) Tryz.underlying40 rfl (by rw [HC6.out]; kernel_rfl) ?_))
   generalize hW : World.alloc _ _ = w3
   obtain ⟨-, hg3⟩ := blk1 hW
   have hsz3 := hg3.size
   have HO3 := hid (HO.out.keep hg3)
   have HBF3 := hid (HBF.out.grow hg3)
   have HG3 : Hid (Grow w w3) := HG.out.trans hg3
   clear hW hg3 hsz3 HO HBF HG
   refine (HNu.out w3).mono ?_
   rintro e w4 ⟨rfl, hg4⟩
   have HO4 := hid (HO3.out.keep hg4)
   have HBF4 := hid (HBF3.out.grow hg4)
   have HG4 : Hid (Grow w w4) := HG3.out.trans hg4
   clear hg4 HO3 HBF3 HG3 HNu HC6 HC1 HCk HkM HSw
   obtain ⟨y0, y1⟩ := (HBF4.out.alloc (.cells RN 96)).c2
   go_wp2_with (refine wpList_store_row rfl 96 (.tmp 9) (.tmp 26) rfl w4.heap.size RN rfl rfl _ _ (Blk.new _ _ _) (by rw [HR6.out]; kernel_rfl) (by rw [HR6.out]; rfl) HR1.out ?_; rw [World.setRow_alloc_new])
   clear y0 y1
   refine (HOr.out _).mono ?_
   rintro e w5 ⟨rfl, hg5⟩
   have hA9 : own A2 ≠ some w4.heap.size := fun h => Nat.lt_irrefl _ (HO4.out.lt h)
   have HA9 := hid hA9
   have HO5 := hid ((HO4.out.alloc _).keep hg5)
   have HBF5 := hid ((HBF4.out.alloc _).grow hg5)
   have HBN5 := hid ((Blk.new w4 96 RN).grow hg5)
   have HG5 : Hid (Grow w w5) := (HG4.out.trans (Grow.of_alloc _ _)).trans hg5
   have HD9 : Hid (w.heap.size < w4.heap.size) := HBF4.out.lt
   generalize w4.heap.size = g9 at HA9 HBN5 HD9 ⊢
   clear hA9 hg5 HO4 HBF4 HG4 HR6 HR1
   go_wp2_with fail
   go_loopw [6, 29] (fun x i wr => ∃ (j : Nat) (A2 : Option Addr) (c2 : Nat), j ≤ 6 ∧ i = .int .i64 j ∧ x = .slice A2 (rowB big (q.take (6 * k + j))).length c2 ∧ OB wr (w.heap.size + 1) 5 A2 (rowB big (q.take (6 * k + j))).length c2 (rowB big (q.take (6 * k + j))) ∧
    own A2 ≠ some g9 ∧ Blk wr w.heap.size 23 #[.bool wide, .bool big] ∧ Blk wr g9 96 RN ∧ rowF (q.take (6 * k + j)) = true ∧ Grow w wr) (fun _ i _ => 6 - (intOf i).toNat)
   case atStart => exact ⟨0, A2, c2, by omega, rfl, rfl, HO5.out, HA9.out, HBF5.out, HBN5.out, HRF.out, HG5.out⟩
   case round =>
    obtain ⟨j, A2, c2, hj, rfl, rfl, ho, ha9, hbf, hbn, hrf, hg⟩ := hrel
    have HO := hid ho
    have HA := hid ha9
    have HBF := hid hbf
    have HBN := hid hbn
    have HRFj := hid hrf
    have HG := hid hg
    clear ho ha9 hbf hbn hrf hg HO5 HA9 HBF5 HBN5 HRF HG5
    by_cases hlj : j < 6
    ·have hkq : 6 * k + j < q.length := by rw [HLQ.out]; omega
     have HB := hid (rowB_succ big q (6 * k + j) hkq)
     have HF := hid (rowF_succ q (6 * k + j) hkq)
     have HZ := hid (fun h => rowF_false hkq h)
     have HLE := hid (HBd.out (6 * k + j) (by omega))
     have HK1 := hid (HAN.out (os.getD j 0) (HOl.out j hlj))
     have HK2 := hid (HAO.out j hlj)
     have ho6 := HOl.out j hlj
     obtain ⟨e1, e2⟩ := HQ.out j hlj hkq
     have hv := HA64.out (os.getD j 0)
     have HWv := hid (HWw.out (os.getD j 0))
     rw [HRFj.out, Bool.true_and] at HF
     rw [← e1] at HK1 hv
     have HW2 := hid (fun w => HWi.out (os.getD j 0) w)
     rw [← e2] at HW2 HWv
     have hw8 : q[6 * k + j].2 ≤ 8 := by have := wid_cases HWv.out; omega
     clear e1 e2
     generalize q[6 * k + j].1 = v at HB HF HZ hv HK1
     generalize q[6 * k + j].2 = m at HB HF HZ HWv hw8 HW2
     generalize os.getD j 0 = i at HK1 HK2 HW2 ho6
     have z1 : (0 : Int) ≤ (i : Int) := by omega
     have z2 : (i : Int) < 6 := by omega
     obtain ⟨y0, y1⟩ := HBF.out.c2
     clear hkq
     go_wp2_with (refine wpList_index rfl 98 3 (.tmp 28) (.tmp 29) rfl 6 _ Tryz.underlying98 Tryz.underlying3 rfl (by kernel_rfl) RO j (.int .i64 (i : Int)) rfl rfl hlj HK2.out ?_)
     clear y0 y1
     refine (HW2.out _).mono ?_
     rintro e w6 ⟨rfl, hg6⟩
     have HO6 := hid (HO.out.keep hg6)
     have HBF6 := hid (HBF.out.grow hg6)
     have HBN6 := hid (HBN.out.grow hg6)
     have HG6 : Hid (Grow w w6) := HG.out.trans hg6
     clear hg6 HO HBF HBN HG
     have y1 : w6.cell? ⟨g9, i, none⟩ = some (.int .u64 (v : Int)) := (HBN6.out.at i).trans HK1.out
     go_wp2_with fail
     refine (fits_any v m _ (by omega) (by omega)).mono ?_
     rintro e w7 ⟨rfl, rfl⟩
     rw [fits_row v m HWv.out]
     cases hfit : decide (v < 256 ^ m)
     ·have HZ2 := hid (HZ.out hfit)
      clear hfit
      go_wp2
      go_ret2
      exact .inr ⟨HZ2.out, rfl, HG6.out⟩
     ·rw [hfit] at HF
      clear hfit HZ
      go_wp2_with fail
      clear y1
      refine wp_region_leap (leap_kept (fun j => j = w.heap.size ∨ j = g9)) [(0, true), (1, true), (2, true), (3, true), (4, true), (5, true), (6, true), (7, false), (8, false), (9, true)] (by kernel_rfl) (by kernel_rfl) (by kernel_rfl) ?_
      have HX : Hid (∀ W, Kept (fun j => j = w.heap.size ∨ j = g9) w6.drew W → (_ ∧ _) ∧ W.cell? ⟨g9, i, none⟩ = some (.int .u64 (v : Int))) := fun W hW =>
       ⟨(HBF6.out.drew.kept hW (.inl rfl)).c2, ((HBN6.out.drew.kept hW (.inr rfl)).at i).trans HK1.out⟩
      have HO1 : Hid (OB w6.drew _ _ _ _ _ _) := HO6.out
      have HBF1 := hid HBF6.out.drew
      have HBN1 := hid HBN6.out.drew
      have HG1 : Hid (Grow w w6.drew) := HG6.out.trans (Grow.of_drew _)
      generalize w6.drew = w8 at HX HO1 HBF1 HBN1 HG1 ⊢
      clear HO6 HBF6 HBN6 HG6
      repeat (refine chain_take rfl (by rfl) ?_ (fun W hG => ?_) ?_; rotate_left; (obtain ⟨⟨q1, q2⟩, q3⟩ := HX.out W hG; go_simp; rfl); simp only [Act.put, List.setIfInBounds_toArray, List.set_cons_zero, List.set_cons_succ])
      clear HX
      refine chain_only rfl (by rfl) (fun K hK => ?_)
      go_simp
      refine (put_wide v m big _ HWv.out (by omega)).mono ?_
      rintro e w9 ⟨A3, c3, rfl, ho3, hb3⟩
      refine hK _ _ (Kept.of_grow hb3) ?_
      clear hK K
      have HO3 := hid ho3
      have HO4 := hid (HO1.out.keep hb3)
      have HBF7 := hid (HBF1.out.grow hb3)
      have HBN7 := hid (HBN1.out.grow hb3)
      have HG7 : Hid (Grow w w9) := HG1.out.trans hb3
      clear ho3 hb3 HO1 HBF1 HBN1 HG1
      rw [Int.toNat_natCast] at HO3
      refine chain_only rfl (by rfl) (fun K hK => ?_)
      refine wp_appendS w9 (.tmp 42) (.tmp 49) 29 rfl (w.heap.size + 1) 5 Tryz.underlying29 (by kernel_rfl) A2 _ c2 _ rfl HO4.out w9.heap.size A3 m c3 _ rfl HO3.out.rb (by have := HLE.out; omega) HBF7.out.lt ?_
      intro A5 c5 w10 ho5 hb5 hk5 hn5
      have hAw : own A2 ≠ some w.heap.size := fun h => by have := HO4.out.from h; omega
      have HBF8 : Hid (Blk w10 w.heap.size 23 #[.bool wide, .bool big]) := (hk5 _ HBF7.out.lt hAw).trans HBF7.out
      have HBN8 : Hid (Blk w10 g9 96 RN) := (hk5 _ HBN7.out.lt HA.out).trans HBN7.out
      refine hK _ _ ⟨hb5.size, fun j hj hj2 => by
       rcases hj2 with rfl | rfl
       ·exact hk5 _ hj hAw
       ·exact hk5 _ hj HA.out⟩ ?_
      clear hK K
      have HA' : Hid (own A5 ≠ some g9) := by
       rcases hn5 with e | e
       ·rw [e]; exact HA
       ·rw [e]; have := HBN7.out.lt; exact fun h => by injection h; omega
      have HG8 : Hid (Grow w w10) := HG7.out.trans' (hb5.mono (Nat.le_succ _))
      rw [← HB.out] at ho5
      have hm : (rowB big (q.take (6 * k + j))).length + m = (rowB big (q.take (6 * k + j + 1))).length := by rw [HB.out, List.length_append, length_putB]
      rw [hm] at ho5 ⊢
      have HO5 := hid ho5
      clear ho5 hb5 hk5 hn5 hm hAw HO3 HO4 HG7 HBF7 HBN7
      repeat (refine chain_take rfl (by rfl) ?_ (fun W hG => ?_) ?_; rotate_left; (go_simp; rfl); simp only [Act.put, List.setIfInBounds_toArray, List.set_cons_zero, List.set_cons_succ])
      refine chain_done ?_
      go_wp2
      go_roundw
      case rel => exact ⟨j + 1, A5, c5, by omega, by go_num, rfl, HO5.out, HA'.out, HBF8.out, HBN8.out, HF.out, HG8.out⟩
      case measure => simp [intOf]; omega
    ·obtain rfl : j = 6 := by omega
     go_wp2
     go_roundw
     case rel => exact ⟨k + 1, A2, c2, by omega, by go_num, rfl, HO.out, HBF.out, HRFj.out, HG.out⟩
     case measure => simp [intOf]; omega
  ·have HKq : Hid (q.take (6 * k) = q) := by
    have e : 6 * k = q.length := by rw [HLQ.out]; omega
    rw [e]
    exact List.take_length
   rw [HKq.out] at HO HRF ⊢
   have HO' := hid (HO.out.mono (Nat.le_succ w.heap.size))
   go_wp2
   go_ret2
   exact .inl ⟨HRF.out, A2, c2, rfl, HO'.out, HG.out⟩
theorem Blk.putB {w : World} {g : Nat} {t : TypeId} {l : List Nat} (h : Blk w g t (u64s l)) (i x : Nat) : Blk (w.setCell ⟨g, i, none⟩ (.int .u64 (x : Int))) g t (u64s (l.set i x)) := by
 have := Joins.block_setCell (i := i) h (.int .u64 (x : Int))
 rw [Blk, this]
 simp [u64s, List.map_set]
set_option maxHeartbeats 400000 in
theorem yRead_any (A : Option Addr) (n c : Nat) (l : List UInt8) (wide big : Bool) (w : World) (h : RB w w.heap.size A n c l) (hn : n = ySize wide) :
  Calls Tryz.prog 46 #[.slice A n c, .agg #[.bool wide, .bool big]] w fun e w' => e = .returned (syOf l 0 wide big).V ∧ Grow w w' := by
 have HR := hid h
 have HLen := hid h.len
 have hcp := h.cap
 have hmx := h.max
 unfold maxLen at hmx
 clear h
 have HOr := hid (fun w => yOrd_any wide big w)
 have HWi := hid (fun i w => yWid_any wide big i w)
 have HAO : Hid (∀ k, k < 6 → (i64s (yOrd wide))[k]? = some (.int .i64 ((yOrd wide).getD k 0 : Nat))) := hid (fun k hk => idx_i64s _ _ (by rw [len_yOrd]; exact hk))
 have HOl := hid (yOrd_lt wide)
 have HOk : Hid (∀ k, k < 6 → (yOrd wide)[k]? = some ((yOrd wide).getD k 0)) := hid (fun k hk => by rw [List.getD_eq_getElem?_getD, List.getElem?_eq_getElem (by rw [len_yOrd]; exact hk)]; rfl)
 have HAt := hid (syOf_at l 0 wide big)
 have HNA : Hid (∀ k, k < 6 → (yX l 0 wide big).getD k 0 = getB ((l.drop (sumN ((yRow wide).take k))).take (yWid wide ((yOrd wide).getD k 0))) big) := hid (fun k hk => by
  have h1 : k < (yRow wide).length := by rw [len_yRow]; exact hk
  have := nums_at l big (yRow wide) 0 k h1
  rw [Nat.zero_add] at this
  rw [yX, List.getD_eq_getElem?_getD, this]
  simp only [yRow, List.getElem_map, Option.getD_some]
  rw [List.getD_eq_getElem?_getD, List.getElem?_eq_getElem (by rw [len_yOrd]; exact hk)]
  rfl)
 have HSu : Hid (∀ k, k < 6 → sumN ((yRow wide).take (k + 1)) = sumN ((yRow wide).take k) + yWid wide ((yOrd wide).getD k 0)) := hid (fun k hk => by
  have h1 : k < (yRow wide).length := by rw [len_yRow]; exact hk
  rw [sumN_succ _ k h1]
  simp only [yRow, List.getElem_map]
  rw [List.getD_eq_getElem?_getD, List.getElem?_eq_getElem (by rw [len_yOrd]; exact hk)]
  rfl)
 have HSl : Hid (∀ k, sumN ((yRow wide).take k) ≤ n) := hid (fun k => by rw [hn, ← sum_yRow]; exact sumN_le _ _)
 have HWw := hid (yWid_wid wide)
 have HHd : Hid (∀ w, Calls Tryz.prog 105 #[.agg (u64s (syOf l 0 wide big).N)] w fun e w' => e = .returned (syOf l 0 wide big).V ∧ Grow w w') := hid (fun w =>
  have ok := syOf_ok l 0 wide big
  ySym_any _ _ _ _ _ _ w ok.na ok.inf ok.oth ok.shn)
 have HAll : Hid (laidInB (yOrd wide) (syOf l 0 wide big).N 6 6 = (syOf l 0 wide big).N) := hid (by
  have := laidIn_allB (os := yOrd wide) (ns := (syOf l 0 wide big).N) (n := 6) (yOrd_all wide) rfl
  rwa [len_yOrd] at this)
 have hn24 : n ≤ 24 := by rw [hn]; exact ySize_le wide
 have HC : Hid ((syOf l 0 wide big).C.size = 6) := hid rfl
 have HC1 := hid (syOf l 0 wide big).one
 generalize hpg : syOf l 0 wide big = pg at HAt HHd HAll HC HC1 ⊢
 clear hpg hn
 generalize yX l 0 wide big = xs at HAt HNA
 generalize i64s (yOrd wide) = RO at HOr HAO
 generalize yRow wide = row at HNA HSu HSl
 generalize yOrd wide = os at HAO HOl HOk HAt HNA HSu HAll
 generalize hns : pg.N = ns at HAt HHd HAll
 have HVC : Hid (pg.V = .agg pg.C) := hid rfl
 clear hns
 go_enter Tryz.func46, Tryz.ntmps46
 go_wp2_with fail
 generalize hW : World.alloc _ _ = W0
 obtain ⟨bf, b4, b5, hg0⟩ := blk3 hW
 clear hW
 refine (HOr.out W0).mono ?_
 rintro e w3 ⟨rfl, hg3⟩
 have hb8 : Blk w3 (w.heap.size + 1 + 1) 96 (u64s (List.replicate 6 0)) := Blk.grow b5 hg3
 rw [← laidIn_zeroB os ns 6] at hb8
 have HB8 := hid hb8
 have HBF3 := hid (bf.grow hg3)
 have HB43 : Hid (Blk w3 (w.heap.size + 1) 40 sy0.C) := Blk.grow b4 hg3
 have HG3 : Hid (Grow w w3) := hg0.trans hg3
 clear hb8 hg3 hg0 bf b4 b5
 go_wp2_with fail
 go_loopw [6, 12] (fun a i wr => ∃ (k q : Nat), k ≤ 6 ∧ i = .int .i64 k ∧ a = .int .i64 q ∧ q = sumN (row.take k) ∧ Blk wr w.heap.size 23 #[.bool wide, .bool big] ∧ Blk wr (w.heap.size + 1) 40 sy0.C ∧ Blk wr (w.heap.size + 1 + 1) 96 (u64s (laidInB os ns 6 k)) ∧ Grow w wr) (fun _ i _ => 6 - (intOf i).toNat)
 case atStart => exact ⟨0, 0, by omega, rfl, rfl, rfl, HBF3.out, HB43.out, HB8.out, HG3.out⟩
 case round =>
  obtain ⟨k, q, hk, rfl, rfl, hq, hbf, hb6, hb8, hg⟩ := hrel
  have HBF := hid hbf
  have HB6 := hid hb6
  have HB8k := hid hb8
  have HG := hid hg
  have HQ := hid hq
  have hqn : q ≤ n := by rw [hq]; exact HSl.out k
  clear hbf hb6 hb8 hg hq HBF3 HB43 HB8 HG3
  by_cases hlt : k < 6
  ·have HK2 := hid (HAO.out k hlt)
   have HKo := hid (HOk.out k hlt)
   have ho8 := HOl.out k hlt
   have HAk := hid (HAt.out k hlt)
   have HNk := hid (HNA.out k hlt)
   have HSk := hid (HSu.out k hlt)
   rw [← HQ.out] at HNk
   have HW2 := hid (fun w => HWi.out (os.getD k 0) w)
   have HWk := hid (HWw.out (os.getD k 0))
   have hqm : q + yWid wide (os.getD k 0) ≤ n := by rw [HQ.out, ← HSk.out]; exact HSl.out (k + 1)
   rw [HNk.out] at HAk
   generalize yWid wide (os.getD k 0) = m at HNk HSk HW2 HWk hqm HAk
   generalize os.getD k 0 = i at HK2 HKo ho8 HAk HW2
   have z1 : (0 : Int) ≤ (i : Int) := by omega
   have z2 : (i : Int) < 6 := by omega
   obtain ⟨y0, y1⟩ := HBF.out.c2
   go_wp2_with (refine wpList_index rfl 98 3 (.tmp 11) (.tmp 12) rfl 6 _ Tryz.underlying98 Tryz.underlying3 rfl (by kernel_rfl) RO k (.int .i64 (i : Int)) rfl rfl hlt HK2.out ?_)
   clear y0 y1
   refine (HW2.out _).mono ?_
   rintro e w4 ⟨rfl, hg4⟩
   have HBF4 := hid (HBF.out.grow hg4)
   have HB64 := hid (HB6.out.grow hg4)
   have HB84 := hid (HB8k.out.grow hg4)
   have HG4 : Hid (Grow w w4) := HG.out.trans hg4
   clear hg4 HBF HB6 HB8k HG
   obtain ⟨y0, y1⟩ := HBF4.out.c2
   have z5 : IntKind.u64.wrap (q : Int) = (q : Int) := by rw [IntKind.wrap_u64]; omega
   go_wp2_with fail
   clear y0 y1 z5
   refine (get_any A n c l _ q m big _ (HR.out.belowAt HG4.out (Nat.le_refl _)) (by omega)).mono ?_
   rintro e w5 ⟨rfl, j, hw5⟩
   have hgb : gotB l q m = true := by
    simp only [gotB, HWk.out, Bool.true_and, wthn]
    exact decide_eq_true (by have := HLen.out; omega)
   have hgv : gotV l q m big = getB ((l.drop q).take m) big := by
    simp only [gotV, hgb, if_true, Int.toNat_natCast]
   rw [hgb, hgv]
   generalize getB ((l.drop q).take m) big = v at HAk ⊢
   have HBF5 : Hid (Blk w5 w.heap.size 23 #[.bool wide, .bool big]) := by rw [hw5]; exact HBF4.out
   have HB65 : Hid (Blk w5 (w.heap.size + 1) 40 sy0.C) := by rw [hw5]; exact HB64.out
   have HB85 : Hid (Blk w5 (w.heap.size + 1 + 1) 96 (u64s (laidInB os ns 6 k))) := by rw [hw5]; exact HB84.out
   have HG5 : Hid (Grow w w5) := by rw [hw5]; exact HG4.out.trans (Grow.of_drewN _ _)
   clear hgb hgv hw5 HBF4 HB64 HB84 HG4
   have c1 : w5.cell? ⟨w.heap.size + 1 + 1, i, none⟩ = some (.int .u64 ((laidInB os ns 6 k).getD i 0 : Nat)) := by rw [HB85.out.at, idx_u64s _ _ (by rw [len_laidInB]; exact ho8)]
   have f1 := HB85.out.soft i
   have hB := HB85.out.putB i v
   rw [laidIn_succB HKo.out HAk.out] at hB
   have HB86 := hid hB
   have HBF6 := hid (HBF5.out.cellset (a := ⟨w.heap.size + 1 + 1, i, none⟩) (show w.heap.size ≠ w.heap.size + 1 + 1 by omega) (.int .u64 (v : Int)))
   have HB66 := hid (HB65.out.cellset (a := ⟨w.heap.size + 1 + 1, i, none⟩) (show w.heap.size + 1 ≠ w.heap.size + 1 + 1 by omega) (.int .u64 (v : Int)))
   have HG6 : Hid (Grow w (w5.setCell ⟨w.heap.size + 1 + 1, i, none⟩ (.int .u64 (v : Int)))) := Grow.cellset HG5.out (by omega) _ _
   have z4 : IntKind.i64.wrap ((q : Int) + (m : Int)) = ((q + m : Nat) : Int) := by rw [IntKind.wrap_i64]; omega
   clear hB
   go_wp2_with fail
   go_roundw
   case rel => exact ⟨k + 1, q + m, by omega, by go_num, rfl, by rw [HSk.out, HQ.out], HBF6.out, HB66.out, HB86.out, HG6.out⟩
   case measure => simp [intOf]; omega
  ·have e : k = 6 := by omega
   rw [e, HAll.out] at HB8k
   have HNs : Hid ((u64s ns).size = 6) := hid (by rw [← HAll.out]; simp [u64s, len_laidInB])
   generalize u64s ns = RN at HHd HB8k HNs
   clear HSl HNA
   go_wp2_with (refine wpList_load_row rfl 96 (.tmp 5) rfl (w.heap.size + 1 + 1) rfl _ RN (0, 0) _ HB8k.out Tryz.underlying96 rfl (by rw [HNs.out]; kernel_rfl) ?_)
   refine (HHd.out _).mono ?_
   rintro e w5 ⟨rfl, hg5⟩
   have HB65 := hid (HB6.out.grow hg5)
   have HG5 : Hid (Grow w w5) := HG.out.trans hg5
   clear hg5
   rw [HVC.out]
   have HB66 := hid (HB65.out.set pg.C)
   have HG6 : Hid (Grow w (w5.setRow (w.heap.size + 1) pg.C)) := Grow.set HG5.out (Nat.le_succ _) _
   obtain ⟨R, hR⟩ : ∃ R, R = pg.C := ⟨_, rfl⟩
   rw [← hR] at HC HC1 HG6 HB66 ⊢
   have HR2 := hid hR
   clear hR
   go_wp2_with (refine wpList_store_row rfl 40 (.tmp 4) (.tmp 35) rfl (w.heap.size + 1) R rfl rfl _ _ HB65.out (by rw [HC.out]; kernel_rfl) (by rw [HC.out]; rfl) HC1.out ?_)
   refine bodyPost_ret (results_cell_row (cs := R) rfl _ _ (w.heap.size + 1) _ (0, 0) _ rfl HB66.out Tryz.underlying40 rfl (by rw [HC.out]; kernel_rfl)) rfl ?_
   exact ⟨by rw [HR2.out]; exact congrArg Ending.returned HVC.out.symm, HG6.out⟩
def ErrB (w : World) (e : Value) (c p : Nat) : Prop :=
 (c = 0 ∧ p = 0 ∧ e = .nilIface) ∨ (0 < c ∧ ∃ b, e = .iface 126 (.pointer (some ⟨b, 0, none⟩)) ∧ b < w.heap.size ∧ w.cell? ⟨b, 0, none⟩ = some (.int .i64 p) ∧ w.cell? ⟨b, 1, none⟩ = some (.int .i64 c))
theorem ErrB.box (w : World) (c p : Nat) (t : TypeId) (h : 0 < c) : ErrB (w.alloc (.cells #[.int .i64 (p : Int), .int .i64 (c : Int)] t)) (.iface 126 (.pointer (some ⟨w.heap.size, 0, none⟩))) c p :=
 .inr ⟨h, w.heap.size, rfl, by simp, by simp, by simp⟩
theorem makeZ (N : Nat) (h : N ≤ 100000) (w : World) : (Instr.makeSlice 35 (.int .i64 0) (.int .i64 (N : Int))).run Tryz.prog w = .ok (.slice (some ⟨w.heap.size, 0, none⟩) 0 N)
  (w.alloc (.cells (madeCells sy0.C (N * 6)) 40)) := by
 have hinfo : (Tryz.prog.info? 40).map (fun i => (i.zero, i.size, i.bytes)) = some (some sy0.V, 6, 24) := by kernel_rfl
 obtain ⟨i, hi, hz, hs, hby⟩ := info_parts hinfo
 have := run_make (P := Tryz.prog) w 35 40 i sy0.V Tryz.underlying35 hi hz .i64 .i64 0 (N : Int) (Int.le_refl _) (by omega) (by rw [hby]; omega) (by omega)
 rw [hs, show sy0.V.cells = sy0.C from rfl] at this
 simpa using this
def YAll (l : List UInt8) (wide big : Bool) (w : World) (e : Ending) (w' : World) : Prop :=
 (l.length % ySize wide = 0 ∧ ∃ A c, e = .returned (.tuple #[.slice A (l.length / ySize wide) c, .nilIface]) ∧ ZS w' w'.heap.size 6 A (l.length / ySize wide) c ((syms l wide big).map Sy.C) ∧ Grow w w') ∨
 (l.length % ySize wide ≠ 0 ∧ ∃ er, e = .returned (.tuple #[.slice none 0 0, er]) ∧ ErrB w' er 2 (l.length - l.length % ySize wide) ∧ Grow w w')
set_option maxHeartbeats 1000000 in
theorem yAll_any (A : Option Addr) (n c : Nat) (l : List UInt8) (wide big : Bool) (w : World) (h : RB w w.heap.size A n c l) (h10 : l.length ≤ 10000) :
  Calls Tryz.prog 12 #[.slice A n c, .agg #[.bool wide, .bool big]] w (YAll l wide big w) := by
 have HR := hid h
 obtain rfl := h.len
 have hcp := h.cap
 have hmx := h.max
 unfold maxLen at hmx
 clear h
 have HSz := hid (fun w => ySize_any wide big w)
 have HRd : Hid (∀ (q : Nat) (B : Option Addr) (n c : Nat) (w : World), RB w w.heap.size B n c ((l.drop q).take (ySize wide)) → n = ySize wide → Calls Tryz.prog 46 #[.slice B n c, .agg #[.bool wide, .bool big]] w fun e w' => e = .returned (syOf l q wide big).V ∧ Grow w w') :=
  hid (fun q B n c w h hn => by have := yRead_any B n c _ wide big w h hn; rwa [syOf_sub] at this)
 have hs24 := ySize_le wide
 have hs0 := ySize_pos wide
 have HTo : Hid (∀ k, symsTo l wide big (k + 1) = symsTo l wide big k ++ [syOf l (k * ySize wide) wide big]) := hid (symsTo_succ l wide big)
 have HSy : Hid (syms l wide big = symsTo l wide big (l.length / ySize wide)) := hid rfl
 unfold YAll
 generalize syms l wide big = S at HSy ⊢
 generalize ySize wide = sz at HSz HRd hs24 hs0 HTo HSy ⊢
 obtain ⟨r, hr⟩ : ∃ r, r = l.length % sz := ⟨_, rfl⟩
 obtain ⟨m, hm⟩ : ∃ m, m = l.length / sz := ⟨_, rfl⟩
 have hdm : sz * m + r = l.length := by rw [hr, hm]; exact Nat.div_add_mod _ _
 have tm : ((l.length : Int)).tmod (sz : Int) = (r : Int) := by rw [hr]; exact (Int.ofNat_tmod _ _).symm
 have td : ((l.length : Int)).tdiv (sz : Int) = (m : Int) := by rw [hm]; exact (Int.ofNat_tdiv _ _).symm
 rw [← hr]
 rw [← hm] at HSy ⊢
 have HDM := hid hdm
 have hr1 : r ≤ l.length := by omega
 have hm1 : m ≤ l.length := by
  have : 1 * m ≤ sz * m := Nat.mul_le_mul_right m hs0
  omega
 clear hr hm hdm
 have s0 : ((sz : Int) == 0) = false := by simp; omega
 have s1 : ¬ (sz : Int) = -1 := by omega
 go_enter Tryz.func12, Tryz.ntmps12
 go_wp2_with fail
 generalize hW : World.alloc _ _ = W0
 obtain ⟨bf, hg0⟩ := blk1 hW
 clear hW
 refine (HSz.out W0).mono ?_
 rintro e w1 ⟨rfl, hg1⟩
 have HBF1 := hid (bf.grow hg1)
 have HG1 : Hid (Grow w w1) := hg0.trans hg1
 clear bf hg0 hg1
 rcases Nat.eq_zero_or_pos r with r0 | r0
 ·subst r0
  have hmk := makeZ m (by omega) w1
  go_wp2_with fail
  have HO2 := hid (ZO.room w1 (w.heap.size + 1) 40 m 6 (madeCells sy0.C (m * 6)) (by unfold maxLen; omega) (show w.heap.size + 1 ≤ w1.heap.size from HBF1.out.lt) (by simp [size_madeCells]))
  have HBF2 := hid (HBF1.out.alloc (.cells (madeCells sy0.C (m * 6)) 40))
  have HG2 : Hid (Grow w (w1.alloc (.cells (madeCells sy0.C (m * 6)) 40))) := HG1.out.trans (Grow.of_alloc _ _)
  generalize w1.alloc _ = w2 at HO2 HBF2 HG2 ⊢
  generalize w1.heap.size = g7 at HO2 ⊢
  clear hmk HG1 HBF1 HSz tm td s0 s1
  go_loopw [8, 9] (fun x i wr => ∃ (k q : Nat) (A2 : Option Addr) (c2 : Nat), k ≤ m ∧ q = k * sz ∧ i = .int .i64 q ∧ x = .slice A2 k c2 ∧ ZO wr (w.heap.size + 1) 40 6 A2 k c2 ((symsTo l wide big k).map Sy.C) ∧
   Blk wr w.heap.size 23 #[.bool wide, .bool big] ∧ Grow w wr) (fun _ i _ => l.length - (intOf i).toNat)
  case atStart => exact ⟨0, 0, some ⟨g7, 0, none⟩, m, Nat.zero_le _, by omega, rfl, rfl, HO2.out, HBF2.out, HG2.out⟩
  case round =>
   obtain ⟨k, q, A2, c2, hk, hq, rfl, rfl, ho, hbf, hg⟩ := hrel
   have HO := hid ho
   have HBF := hid hbf
   have HG := hid hg
   have HQ := hid hq
   clear ho hbf hg HO2 HBF2 HG2
   by_cases hlt : k < m
   ·have hqs : q + sz ≤ l.length := by
     have e1 := HDM.out
     have : (k + 1) * sz ≤ m * sz := Nat.mul_le_mul_right sz hlt
     rw [Nat.succ_mul, Nat.mul_comm m sz, ← hq] at this
     omega
    clear hq
    obtain ⟨b, off, rfl, -, -⟩ := HR.out.pos (by omega)
    have HSub := hid (HR.out.sub (p := q) (m := sz) hqs hs0)
    have HS1 := hid (HTo.out k)
    rw [← HQ.out] at HS1
    have HRk := hid (HRd.out q)
    have HOne := hid (syOf l q wide big).one
    have HCs : Hid ((syOf l q wide big).C.size = 6) := rfl
    have HV : Hid ((syOf l q wide big).V = .agg (syOf l q wide big).C) := rfl
    generalize syOf l q wide big = s at HS1 HRk HOne HCs HV
    rw [HV.out] at HRk
    obtain ⟨R, hR⟩ : ∃ R, R = s.C := ⟨_, rfl⟩
    rw [← hR] at HRk HOne HCs
    have HRs := hid hR
    clear HV hR
    obtain ⟨r0, r1, r2, r3, r4, r5, rfl⟩ := arr6 HCs.out
    have z1 : (q : Int) < (l.length : Int) := by omega
    have z2 : (q : Int) ≤ (q : Int) + (sz : Int) := by omega
    have z3 : IntKind.i64.wrap ((q : Int) + (sz : Int)) = (q : Int) + (sz : Int) := by rw [IntKind.wrap_i64]; omega
    go_wp2_with fail
    refine wp_region_leap (leap_below (w.heap.size + 1)) [(0, true), (1, true), (2, true), (3, true), (4, true), (5, true), (6, true), (7, true), (8, false), (9, false), (10, false), (11, true)] (by kernel_rfl) (by kernel_rfl) (by kernel_rfl) ?_
    have HX : Hid (∀ W, Below (w.heap.size + 1) wr.drew W → _ ∧ _) := fun W hW => ((HBF.out.drew).below hW (Nat.lt_succ_self _)).c2
    have HB1 : Hid (Blk wr.drew w.heap.size 23 #[.bool wide, .bool big]) := HBF.out.drew
    have HO1 : Hid (ZO wr.drew _ _ _ _ _ _ _) := HO.out
    have HG1 : Hid (Grow w wr.drew) := HG.out.trans (Grow.of_drew _)
    generalize wr.drew = w3 at HX HB1 HO1 HG1 ⊢
    clear HO HBF HG
    have i1 : (q : Int) + (sz : Int) ≤ (c : Int) := by omega
    have i2 : ¬ c = q := by omega
    have i3 : ((q : Int) + (sz : Int)).toNat = q + sz := by omega
    repeat (refine chain_take rfl (by rfl) ?_ (fun W hG => ?_) ?_; rotate_left; (obtain ⟨q1, q2⟩ := HX.out W hG; go_simp; rfl); simp only [Act.put, List.setIfInBounds_toArray, List.set_cons_zero, List.set_cons_succ])
    clear HX z1 z2 z3 i1 i2 i3
    refine chain_only rfl (by rfl) (fun K hK => ?_)
    go_simp
    refine (HRk.out (some ⟨b, off + q, none⟩) sz (c - q) _ ((HSub.out.belowAt HG1.out (Nat.le_refl _)).more HG1.out.size) rfl).mono ?_
    rintro e w4 ⟨rfl, hg4⟩
    refine hK _ _ (hg4.mono HB1.out.lt) ?_
    clear hK K
    have HB2 := hid (HB1.out.grow hg4)
    have HO2 := hid (HO1.out.keep hg4)
    have HG2 : Hid (Grow w w4) := HG1.out.trans hg4
    clear hg4 HB1 HO1 HG1
    refine chain_only rfl (by rfl) (fun K hK => ?_)
    go_simp
    refine hK _ _ (Below.alloc (Below.refl _ _) (show w.heap.size + 1 ≤ w4.heap.size from HB2.out.lt) _) ?_
    clear hK K
    have HBR := hid (Blk.new w4 40 #[r0, r1, r2, r3, r4, r5])
    have HB3 := hid (HB2.out.alloc (.cells #[r0, r1, r2, r3, r4, r5] 40))
    have HO3 := hid (HO2.out.keep (Grow.of_alloc w4 (.cells #[r0, r1, r2, r3, r4, r5] 40)))
    have HG3 : Hid (Grow w (w4.alloc (.cells #[r0, r1, r2, r3, r4, r5] 40))) := HG2.out.trans (Grow.of_alloc _ _)
    generalize w4.alloc _ = w5 at HBR HB3 HO3 HG3 ⊢
    generalize w4.heap.size = g at HBR ⊢
    clear HB2 HO2 HG2
    refine chain_only rfl (by rfl) (fun K hK => ?_)
    refine wp_appendZ w5 (.tmp 37) (.tmp 46) 35 rfl (w.heap.size + 1) 40 sy0.V 6 24 Tryz.underlying35 (by kernel_rfl) rfl (by omega) A2 k c2 _ rfl HO3.out g _ #[r0, r1, r2, r3, r4, r5] rfl HBR.out rfl HOne.out (by unfold maxLen; omega) (by omega) HB3.out.lt ?_
    intro A5 c5 w6 ho5 hg5 _
    have hb5 : Below (w.heap.size + 1) w5 w6 := (Below.refl _ _).grown hg5 HB3.out.lt (fun j hj => HO3.out.ge hj)
    refine hK _ _ hb5 ?_
    clear hK K
    have HB6 := hid (HB3.out.below hb5 (Nat.lt_succ_self _))
    have HG6 : Hid (Grow w w6) := HG3.out.trans' (hb5.mono (Nat.le_succ _))
    have HO6 : Hid (ZO w6 (w.heap.size + 1) 40 6 A5 (k + 1) c5 ((symsTo l wide big (k + 1)).map Sy.C)) := by
     rw [HS1.out, List.map_append, List.map_cons, List.map_nil, ← HRs.out]; exact ho5
    clear ho5 hg5 hb5 HBR HB3 HO3 HG3
    repeat (refine chain_take rfl (by rfl) ?_ (fun W hG => ?_) ?_; rotate_left; (go_simp; rfl); simp only [Act.put, List.setIfInBounds_toArray, List.set_cons_zero, List.set_cons_succ])
    refine chain_done ?_
    have z4 : IntKind.i64.wrap ((q : Int) + (sz : Int)) = ((q + sz : Nat) : Int) := by rw [IntKind.wrap_i64]; omega
    go_wp2
    go_roundw
    case rel => exact ⟨k + 1, q + sz, A5, c5, by omega, by rw [HQ.out, Nat.succ_mul], rfl, rfl, HO6.out, HB6.out, HG6.out⟩
    case measure => simp [intOf]; omega
   ·have z1 : ¬ (q : Int) < (l.length : Int) := by
     obtain rfl : k = m := by omega
     have e1 := HDM.out
     rw [Nat.mul_comm k sz] at hq
     omega
    obtain rfl : k = m := by omega
    clear hq
    go_wp2
    go_ret2
    exact ⟨A2, c2, rfl, by rw [HSy.out]; exact HO.out.zs, HG.out⟩
 ·have r1 : ((r : Int) != 0) = true := by simp; omega
  have z3 : IntKind.i64.wrap ((l.length : Int) - (r : Int)) = ((l.length - r : Nat) : Int) := by rw [IntKind.wrap_i64]; omega
  have HG2 : Hid (Grow w (w1.alloc (.cells #[.int .i64 ((l.length - r : Nat) : Int), .int .i64 2] 128))) := HG1.out.trans (Grow.of_alloc _ _)
  have HE : Hid (ErrB (w1.alloc (.cells #[.int .i64 ((l.length - r : Nat) : Int), .int .i64 2] 128)) (.iface 126 (.pointer (some ⟨w1.heap.size, 0, none⟩))) 2 (l.length - r)) := ErrB.box w1 2 (l.length - r) _ (by omega)
  have HR0 : Hid (r ≠ 0) := hid (by omega)
  go_wp2
  go_ret2
  exact .inr ⟨HR0.out, _, rfl, HE.out, HG2.out⟩
end Go.Proofs.YtfbimboemahhhaaGreatDoor
