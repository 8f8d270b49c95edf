/-
  Several texts in one: Plain answers of layer 6, and the contracts of sect; The contract of sect; What is told of any bytes as a section header, in plain words; A file's model, as plain data; Rows of the call's own, of several kinds.
-/
import Derived.Test.YtfglppjilcaafaaGreatDoorRows
import Derived.Test.YtfglppjilcaafaaGreatDoorTbH2
import Derived.Test.YtfglppjilcaafaaGreatDoorTbH4
import Derived.Test.YtfglppjilcaafaaGreatDoorTbH13
import Derived.WalkKit
import Derived.Laws.ResultCell
import Derived.Lib.Hide
import Derived.Test.YtfglppjilcaafaaGreatDoorTbH7
import Derived.Test.YtfglppjilcaafaaGreatDoorTbH10
import Derived.Test.YtfglppjilcaafaaGreatDoorTbH12
namespace Go.Proofs.YtfglppjilcaafaaGreatDoor
open Go.Lib (hid)
open Go.RowKit
structure Sc where
 na : Nat
 ty : Nat
 fl : Nat
 ad : Nat
 off : Nat
 sz : Nat
 li : Nat
 inf : Nat
 al : Nat
 en : Nat
structure Sc.Ok (p : Sc) : Prop where
 na : p.na < 4294967296
 ty : p.ty < 4294967296
 fl : p.fl < 18446744073709551616
 ad : p.ad < 18446744073709551616
 off : p.off < 18446744073709551616
 sz : p.sz < 18446744073709551616
 li : p.li < 4294967296
 inf : p.inf < 4294967296
 al : p.al < 18446744073709551616
 en : p.en < 18446744073709551616
def Sc.C (p : Sc) : Array Value := #[.int .u32 (p.na : Int), .int .u32 (p.ty : Int), .int .u64 (p.fl : Int), .int .u64 (p.ad : Int), .int .u64 (p.off : Int), .int .u64 (p.sz : Int), .int .u32 (p.li : Int), .int .u32 (p.inf : Int), .int .u64 (p.al : Int), .int .u64 (p.en : Int)]
def Sc.V (p : Sc) : Value := .agg p.C
def sc0 : Sc := ⟨0, 0, 0, 0, 0, 0, 0, 0, 0, 0⟩
def Sc.N (p : Sc) : List Nat := [p.na, p.ty, p.fl, p.ad, p.off, p.sz, p.li, p.inf, p.al, p.en]
def sSize (wide : Bool) : Nat := byWide wide 40 64
def sWid (wide : Bool) (i : Nat) : Nat := if ((i : Int) == 0) || ((i : Int) == 1) || ((i : Int) == 6) || ((i : Int) == 7) then 4 else byWide wide 4 8
def sRow (wide : Bool) : List Nat := [4, 4, byWide wide 4 8, byWide wide 4 8, byWide wide 4 8, byWide wide 4 8, 4, 4, byWide wide 4 8, byWide wide 4 8]
theorem Sc.one (p : Sc) : p.C.all (·.oneCell') = true := by simp [Sc.C, Value.oneCell']
theorem len_sRow (wide : Bool) : (sRow wide).length = 10 := by cases wide <;> rfl
theorem sum_sRow (wide : Bool) : sumN (sRow wide) = sSize wide := by cases wide <;> rfl
theorem sRow_at (wide : Bool) (k : Nat) (h : k < 10) : (sRow wide).getD k 0 = sWid wide k := by
 cases wide <;> (match k, h with
  | 0, _ => rfl
  | 1, _ => rfl
  | 2, _ => rfl
  | 3, _ => rfl
  | 4, _ => rfl
  | 5, _ => rfl
  | 6, _ => rfl
  | 7, _ => rfl
  | 8, _ => rfl
  | 9, _ => rfl)
theorem sWid_wid (wide : Bool) (i : Nat) : wid (sWid wide i : Nat) = true := by
 unfold sWid
 split
 ·rfl
 ·cases wide <;> rfl
theorem sSize_any (wide big : Bool) (w : World) : Calls Tryz.prog 62 #[.agg #[.bool wide, .bool big]] w fun e w' => e = .returned (.int .i64 (sSize wide : Nat)) ∧ Grow w w' := by
 cases wide
 ·go_enter Tryz.func62, Tryz.ntmps62
  go_wp2
  go_ret
  exact ⟨rfl, Grow.of_alloc _ _⟩
 ·go_enter Tryz.func62, Tryz.ntmps62
  go_wp2
  go_ret
  exact ⟨rfl, Grow.of_alloc _ _⟩
theorem sWid_any (wide big : Bool) (i : Nat) (w : World) : Calls Tryz.prog 116 #[.int .i64 i, .agg #[.bool wide, .bool big]] w fun e w' => e = .returned (.int .i64 (sWid wide i : Nat)) ∧ Grow w w' := by
 unfold sWid
 cases h0 : ((i : Int) == 0)
 ·cases h1 : ((i : Int) == 1)
  ·cases h6 : ((i : Int) == 6)
   ·cases h7 : ((i : Int) == 7)
    ·cases wide
     ·go_enter Tryz.func116, Tryz.ntmps116
      go_wp2
      go_ret
      exact ⟨rfl, Grow.of_alloc _ _⟩
     ·go_enter Tryz.func116, Tryz.ntmps116
      go_wp2
      go_ret
      exact ⟨rfl, Grow.of_alloc _ _⟩
    ·go_enter Tryz.func116, Tryz.ntmps116
     go_wp2
     go_ret
     exact ⟨rfl, Grow.of_alloc _ _⟩
   ·go_enter Tryz.func116, Tryz.ntmps116
    go_wp2
    go_ret
    exact ⟨rfl, Grow.of_alloc _ _⟩
  ·go_enter Tryz.func116, Tryz.ntmps116
   go_wp2
   go_ret
   exact ⟨rfl, Grow.of_alloc _ _⟩
 ·go_enter Tryz.func116, Tryz.ntmps116
  go_wp2
  go_ret
  exact ⟨rfl, Grow.of_alloc _ _⟩
theorem sNum_any (p : Sc) (ok : p.Ok) (w : World) : Calls Tryz.prog 115 #[p.V] w fun e w' => e = .returned (.agg (u64s p.N)) ∧ Grow w w' := by
 obtain ⟨na, ty, fl, ad, off, sz, li, inf, al, en⟩ := p
 obtain ⟨k1, k2, k3, k4, k5, k6, k7, k8, k9, k10⟩ := ok
 unfold Sc.V Sc.C
 simp only [] at *
 have z1 : IntKind.u64.wrap (na : Int) = (na : Int) := by rw [IntKind.wrap_u64]; omega
 have z2 : IntKind.u64.wrap (ty : Int) = (ty : Int) := by rw [IntKind.wrap_u64]; omega
 have z3 : IntKind.u64.wrap (li : Int) = (li : Int) := by rw [IntKind.wrap_u64]; omega
 have z4 : IntKind.u64.wrap (inf : Int) = (inf : Int) := by rw [IntKind.wrap_u64]; omega
 clear k1 k2 k3 k4 k5 k6 k7 k8 k9 k10
 go_enter Tryz.func115, Tryz.ntmps115
 go_wp2_with (refine wpList_store_row rfl 203 (.tmp 2) (.tmp 27) rfl (w.heap.size + 1) (u64s (Sc.N ⟨na, ty, fl, ad, off, sz, li, inf, al, en⟩)) rfl rfl _ _ (blk2 rfl).2.1 (by kernel_rfl) rfl (one_u64s _) ?_)
 refine bodyPost_ret (results_cell_row (cs := u64s (Sc.N ⟨na, ty, fl, ad, off, sz, li, inf, al, en⟩)) rfl _ _ (w.heap.size + 1) _ (0, 0) _ rfl ((blk2 rfl).2.1.set _) Tryz.underlying203 rfl (by kernel_rfl)) rfl ?_
 exact ⟨rfl, Grow.set (blk2 rfl).2.2 (Nat.le_succ _) _⟩
theorem sHdr_any (x0 x1 x2 x3 x4 x5 x6 x7 x8 x9 : Nat) (w : World) (k0 : x0 < 4294967296) (k1 : x1 < 4294967296) (k6 : x6 < 4294967296) (k7 : x7 < 4294967296) :
  Calls Tryz.prog 122 #[.agg (u64s [x0, x1, x2, x3, x4, x5, x6, x7, x8, x9])] w fun e w' => e = .returned (Sc.V ⟨x0, x1, x2, x3, x4, x5, x6, x7, x8, x9⟩) ∧ Grow w w' := by
 have z0 : IntKind.u32.wrap (x0 : Int) = (x0 : Int) := by rw [IntKind.wrap_u32]; omega
 have z1 : IntKind.u32.wrap (x1 : Int) = (x1 : Int) := by rw [IntKind.wrap_u32]; omega
 have z6 : IntKind.u32.wrap (x6 : Int) = (x6 : Int) := by rw [IntKind.wrap_u32]; omega
 have z7 : IntKind.u32.wrap (x7 : Int) = (x7 : Int) := by rw [IntKind.wrap_u32]; omega
 clear k0 k1 k6 k7
 unfold u64s
 simp only [List.map_cons, List.map_nil]
 go_enter Tryz.func122, Tryz.ntmps122
 go_wp2_with (refine wpList_store_row rfl 136 (.tmp 2) (.tmp 27) rfl (w.heap.size + 1) (Sc.C ⟨x0, x1, x2, x3, x4, x5, x6, x7, x8, x9⟩) rfl rfl _ _ (blk2 rfl).2.1 (by kernel_rfl) rfl (Sc.one _) ?_)
 refine bodyPost_ret (results_cell_row (cs := Sc.C ⟨x0, x1, x2, x3, x4, x5, x6, x7, x8, x9⟩) rfl _ _ (w.heap.size + 1) _ (0, 0) _ rfl ((blk2 rfl).2.1.set _) Tryz.underlying136 rfl (by kernel_rfl)) rfl ?_
 exact ⟨rfl, Grow.set (blk2 rfl).2.2 (Nat.le_succ _) _⟩
theorem Blk.belowS {w W : World} {g B : Nat} {t : TypeId} {cs : Array Value} (h : Blk w g t cs) (hb : Below B w W) (hg : g < B) : Blk W g t cs := by rw [Blk, hb.block g hg]; exact h
def Sc.Q (p : Sc) (wide : Bool) : List (Nat × Nat) := p.N.zip (sRow wide)
def Sc.L (p : Sc) (wide big : Bool) : List UInt8 := rowB big (p.Q wide)
theorem Sc.lenN (p : Sc) : p.N.length = 10 := rfl
theorem Sc.lenQ (p : Sc) (wide : Bool) : (p.Q wide).length = 10 := by rw [Sc.Q, List.length_zip, len_sRow]; rfl
theorem Sc.fstQ (p : Sc) (wide : Bool) : (p.Q wide).map (·.1) = p.N := List.map_fst_zip (by rw [len_sRow]; exact Nat.le_refl _)
theorem Sc.sndQ (p : Sc) (wide : Bool) : (p.Q wide).map (·.2) = sRow wide := List.map_snd_zip (by rw [len_sRow]; exact Nat.le_refl _)
theorem Sc.lenL (p : Sc) (wide big : Bool) : (p.L wide big).length = sSize wide := by
 rw [Sc.L, length_rowB, ← sum_sRow, Sc.sndQ]
theorem Sc.atN (p : Sc) (ok : p.Ok) (i : Nat) : p.N.getD i 0 < 18446744073709551616 := by
 obtain ⟨k1, k2, k3, k4, k5, k6, k7, k8, k9, k10⟩ := ok
 match i with
 | 0 => show p.na < _; omega
 | 1 => show p.ty < _; omega
 | 2 => show p.fl < _; omega
 | 3 => show p.ad < _; omega
 | 4 => show p.off < _; omega
 | 5 => show p.sz < _; omega
 | 6 => show p.li < _; omega
 | 7 => show p.inf < _; omega
 | 8 => show p.al < _; omega
 | 9 => show p.en < _; omega
 | _ + 10 => show 0 < _; omega
theorem Sc.atQ (p : Sc) (wide : Bool) (k : Nat) (h : k < (p.Q wide).length) : (p.Q wide)[k].1 = p.N.getD k 0 ∧ (p.Q wide)[k].2 = sWid wide k := by
 have hk : k < 10 := by rw [p.lenQ] at h; exact h
 simp only [Sc.Q, List.getElem_zip]
 constructor
 ·rw [List.getD_eq_getElem?_getD, List.getElem?_eq_getElem (by rw [p.lenN]; exact hk)]; rfl
 ·rw [← sRow_at wide k hk, List.getD_eq_getElem?_getD, List.getElem?_eq_getElem (by rw [len_sRow]; exact hk)]; rfl
theorem Sc.rowed (p : Sc) (ok : p.Ok) (wide : Bool) : Rowed (p.Q wide) :=
 ⟨by rw [p.lenQ]; omega, fun k hk => by rw [(p.atQ wide k hk).2]; exact sWid_wid _ _, fun k hk => by rw [(p.atQ wide k hk).1]; exact p.atN ok _⟩
theorem makeS (wide : Bool) (w : World) : (Instr.makeSlice 33 (.int .i64 0) (.int .i64 (sSize wide : Nat))).run Tryz.prog w = .ok (.slice (some ⟨w.heap.size, 0, none⟩) 0 (sSize wide))
  (w.alloc (.cells (Array.replicate (sSize wide) (.int .u8 0)) 5)) := by cases wide <;> kernel_rfl
def SPut (p : Sc) (wide big : Bool) (w : World) (e : Ending) (w' : World) : Prop :=
 (rowF (p.Q wide) = true ∧ ∃ A c, e = .returned (.tuple #[.slice A (p.L wide big).length c, .nilIface]) ∧ OB w' w.heap.size 5 A (p.L wide big).length c (p.L wide big) ∧ Grow w w') ∨
 (rowF (p.Q wide) = false ∧ e = .returned (.tuple #[.slice none 0 0, .iface 81 (.int .i64 1)]) ∧ Grow w w')
set_option maxHeartbeats 400000 in
theorem sPut_any (p : Sc) (ok : p.Ok) (wide big : Bool) (w : World) : Calls Tryz.prog 60 #[p.V, .agg #[.bool wide, .bool big]] w (SPut p wide big w) := by
 have HR := hid (p.rowed ok wide)
 have HN := hid (fun w => sNum_any p ok w)
 have HSz := hid (fun w => sSize_any wide big w)
 have HWi := hid (fun i w => sWid_any wide big i w)
 have HLQ := hid (p.lenQ wide)
 have HMk := hid (makeS wide)
 have HSp : Hid (sSize wide ≤ 64) := by cases wide <;> exact hid (by decide)
 have HAN : Hid (∀ i, i < 10 → (u64s p.N)[i]? = some (.int .u64 (p.N.getD i 0 : Nat))) := hid (fun i hi => idx_u64s _ _ hi)
 have HAQ := hid (p.atQ wide)
 have HC1 : Hid (p.C.size = 10) := hid rfl
 unfold SPut Sc.L
 unfold Sc.V
 generalize p.Q wide = q at HR HLQ HAQ ⊢
 generalize u64s p.N = RN at HN HAN
 generalize p.N = pn at HAN HAQ
 unfold Sc.V at HN
 generalize p.C = C at HN HC1 ⊢
 generalize sSize wide = sz at HSz HMk HSp
 go_enter Tryz.func60, Tryz.ntmps60
 go_wp2_with fail
 generalize hW : World.alloc _ _ = W0
 obtain ⟨b1, bf, hg0⟩ := blk2 hW
 clear hW
 refine (HSz.out W0).mono ?_
 rintro e w1 ⟨rfl, hg1⟩
 have HB1 := hid (b1.grow hg1)
 have HBF1 := hid (bf.grow hg1)
 have HG1 : Hid (Grow w w1) := hg0.trans hg1
 clear b1 bf hg0 hg1
 have hmk := HMk.out w1
 have HB2 := hid (HB1.out.alloc (.cells (Array.replicate sz (.int .u8 0)) 5))
 go_wp2_with (refine wpList_load_row rfl 136 (.tmp 2) rfl w.heap.size rfl _ C (0, 0) _ HB2.out Tryz.underlying136 rfl (by rw [HC1.out]; kernel_rfl) ?_)
 clear hmk HMk
 refine (HN.out _).mono ?_
 rintro e w3 ⟨rfl, hg3⟩
 have HO3 := hid ((OB.room w1 w1.heap.size 5 sz (.int .u8 0) (by have := HSp.out; unfold maxLen; omega) (Nat.le_refl _)).keep hg3)
 have HBF3 := hid ((HBF1.out.alloc _).grow hg3)
 have HG3 : Hid (Grow w w3) := (HG1.out.trans (Grow.of_alloc _ _)).trans hg3
 have HD : Hid (w.heap.size + 1 < w1.heap.size) := HBF1.out.lt
 have HDs : Hid (w1.heap.size ≤ w3.heap.size) := by have := hg3.size; simp at this; exact hid (by omega)
 generalize w1.heap.size = g7 at HO3 HD HDs ⊢
 clear hg3 HG1 HBF1 HB1 HB2
 go_wp2_with fail
 go_loopw [6, 15] (fun x i wr => ∃ (k : Nat) (A : Option Addr) (c : Nat), k ≤ 10 ∧ i = .int .i64 k ∧ x = .slice A (rowB big (q.take k)).length c ∧ OB wr g7 5 A (rowB big (q.take k)).length c (rowB big (q.take k)) ∧
  Blk wr (w.heap.size + 1) 23 #[.bool wide, .bool big] ∧ rowF (q.take k) = true ∧ Grow w wr ∧ g7 ≤ wr.heap.size) (fun _ i _ => 10 - (intOf i).toNat)
 case atStart => exact ⟨0, some ⟨g7, 0, none⟩, sz, by omega, rfl, rfl, HO3.out, HBF3.out, rfl, HG3.out, HDs.out⟩
 case round =>
  obtain ⟨k, A, c, hk, rfl, rfl, ho, hbf, hrf, hg, hgs⟩ := hrel
  have HO := hid ho
  have HBF := hid hbf
  have HRF := hid hrf
  have HG := hid hg
  have HGs := hid hgs
  clear ho hbf hrf hg hgs HO3 HBF3 HG3 HDs
  by_cases hlt : k < 10
  ·have hkq : k < q.length := by rw [HLQ.out]; exact hlt
   have HB := hid (rowB_succ big q k hkq)
   have HF := hid (rowF_succ q k hkq)
   have HW := hid (HR.out.wide k hkq)
   have HZ := hid (fun h => rowF_false hkq h)
   have HLE := hid (rowB_le HR.out big k (by omega))
   have hv := HR.out.lt k hkq
   have hw8 := HR.out.wide8 k hkq
   have HK1 := hid (HAN.out k hlt)
   obtain ⟨e1, e2⟩ := HAQ.out k hkq
   rw [HRF.out, Bool.true_and] at HF
   rw [← e1] at HK1
   have HW2 := hid (fun w => HWi.out k w)
   rw [← e2] at HW2
   clear e1 e2
   generalize q[k].1 = v at HB HF HZ hv HK1
   generalize q[k].2 = m at HB HF HZ HW hw8 HW2
   obtain ⟨y0, y1⟩ := HBF.out.c2
   clear hkq
   go_wp2_with (refine wpList_index rfl 203 28 (.tmp 14) (.tmp 15) rfl 10 _ Tryz.underlying203 Tryz.underlying28 rfl (by kernel_rfl) RN k (.int .u64 (v : Int)) rfl rfl hlt HK1.out ?_)
   clear y0 y1
   refine (HW2.out _).mono ?_
   rintro e w4 ⟨rfl, hg4⟩
   have HO4 := hid (HO.out.keep hg4)
   have HBF4 := hid (HBF.out.grow hg4)
   have HG4 : Hid (Grow w w4) := HG.out.trans hg4
   have HGs4 : Hid (g7 ≤ w4.heap.size) := Nat.le_trans HGs.out hg4.size
   clear hg4 HO HBF HG HGs
   go_wp2_with fail
   refine (fits_any v m _ (by omega) (by omega)).mono ?_
   rintro e w5 ⟨rfl, rfl⟩
   rw [fits_row v m HW.out]
   cases hfit : decide (v < 256 ^ m)
   ·have HZ2 := hid (HZ.out hfit)
    clear hfit
    go_wp2
    go_ret2
    exact .inr ⟨HZ2.out, rfl, HG4.out⟩
   ·rw [hfit] at HF
    clear hfit HZ
    obtain ⟨y0, y1⟩ := HBF4.out.c2
    go_wp2_with fail
    clear y0 y1
    refine (put_wide v m big _ HW.out (by omega)).mono ?_
    rintro e w7 ⟨A3, c3, rfl, ho3, hb3⟩
    have HO7 := hid (HO4.out.keep hb3)
    have HO3 := hid ho3
    have HBF7 := hid (HBF4.out.grow hb3)
    have HG7 : Hid (Grow w w7) := HG4.out.trans hb3
    have HGs7 : Hid (g7 ≤ w7.heap.size) := Nat.le_trans HGs4.out hb3.size
    clear ho3 hb3 HO4 HBF4 HG4 HGs4
    rw [Int.toNat_natCast] at HO3
    have HS : Hid (w.heap.size ≤ g7) := by have := HD.out; exact hid (by omega)
    go_wp2_with (refine wpList_appendB w7 rfl (.tmp 27) (.tmp 32) 33 rfl g7 5 Tryz.underlying33 (by kernel_rfl) A _ c _ rfl HO7.out w7.heap.size A3 m c3 _ rfl HO3.out.rb (by have := HLE.out; omega) HGs7.out ?_; intro A5 c5 w8 ho5 hb5)
    have HBF8 := hid (HBF7.out.belowS hb5 HD.out)
    have HG8 : Hid (Grow w w8) := HG7.out.trans' (hb5.mono HS.out)
    have HGs8 : Hid (g7 ≤ w8.heap.size) := Nat.le_trans HGs7.out hb5.size
    rw [← HB.out] at ho5
    have hm : (rowB big (q.take k)).length + m = (rowB big (q.take (k + 1))).length := by rw [HB.out, List.length_append, length_putB]
    rw [hm] at ho5 ⊢
    have HO5 := hid ho5
    clear ho5 hb5 hm HO3 HO7 HG7 HBF7 HGs7
    go_roundw
    case rel => exact ⟨k + 1, A5, c5, by omega, by go_num, rfl, HO5.out, HBF8.out, HF.out, HG8.out, HGs8.out⟩
    case measure => simp [intOf]; omega
  ·have HK : Hid (q.take k = q) := by
    have e : k = q.length := by rw [HLQ.out]; omega
    rw [e]
    exact List.take_length
   rw [HK.out] at HO HRF ⊢
   have HO' := hid (HO.out.mono (base' := w.heap.size) (by have := HD.out; omega))
   go_wp2
   go_ret2
   exact .inl ⟨HRF.out, A, c, rfl, HO'.out, HG.out⟩
def laidUp (ns : List Nat) (n k : Nat) : List Nat := (List.range n).map fun i => if i < k then ns.getD i 0 else 0
theorem laidUp_zero (ns : List Nat) (n : Nat) : laidUp ns n 0 = List.replicate n 0 := by
 apply List.ext_getElem?
 intro i
 by_cases h : i < n
 ·simp [laidUp, h]
 ·simp [laidUp, h]
theorem len_laidUp (ns : List Nat) (n k : Nat) : (laidUp ns n k).length = n := by simp [laidUp]
theorem laidUp_succ {ns : List Nat} {n k v : Nat} (hv : ns.getD k 0 = v) : (laidUp ns n k).set k v = laidUp ns n (k + 1) := by
 apply List.ext_getElem?
 intro i
 rw [List.getElem?_set]
 simp only [laidUp, List.length_map, List.length_range, List.getElem?_map]
 by_cases h : i < n
 ·by_cases e2 : k = i
  ·subst e2
   rw [if_pos rfl, if_pos h, List.getElem?_range h]
   subst hv
   simp
  ·rw [if_neg e2, List.getElem?_range h]
   have e3 : i < k ↔ i < k + 1 := by omega
   simp only [Option.map_some, e3]
 ·rw [List.getElem?_eq_none (by simp; omega)]
  by_cases e2 : k = i
  ·subst e2; rw [if_pos rfl, if_neg h]; rfl
  ·rw [if_neg e2]
   rfl
theorem laidUp_all {ns : List Nat} {n : Nat} (hn : ns.length = n) : laidUp ns n n = ns := by
 apply List.ext_getElem?
 intro i
 by_cases hi : i < n
 ·simp [laidUp, hi, show i < ns.length by omega]
 ·rw [List.getElem?_eq_none (by simp [laidUp]; omega), List.getElem?_eq_none (by omega)]
def sX (l : List UInt8) (p : Nat) (wide big : Bool) : List Nat := nums l big p (sRow wide)
def scOf (l : List UInt8) (p : Nat) (wide big : Bool) : Sc :=
 ⟨(sX l p wide big).getD 0 0, (sX l p wide big).getD 1 0, (sX l p wide big).getD 2 0, (sX l p wide big).getD 3 0, (sX l p wide big).getD 4 0, (sX l p wide big).getD 5 0, (sX l p wide big).getD 6 0, (sX l p wide big).getD 7 0, (sX l p wide big).getD 8 0, (sX l p wide big).getD 9 0⟩
theorem sX_len (l : List UInt8) (p : Nat) (wide big : Bool) : (sX l p wide big).length = 10 := by rw [sX, length_nums, len_sRow]
theorem scOf_N (l : List UInt8) (p : Nat) (wide big : Bool) : (scOf l p wide big).N = sX l p wide big := by
 obtain ⟨x0, x1, x2, x3, x4, x5, x6, x7, x8, x9, hx⟩ := list10 (sX_len l p wide big)
 unfold scOf
 rw [hx]
 rfl
theorem sX_lt (l : List UInt8) (p : Nat) (wide big : Bool) (k : Nat) (h : k < 10) : (sX l p wide big).getD k 0 < 256 ^ ((sRow wide).getD k 0) := by
 have h1 : k < (nums l big p (sRow wide)).length := by rw [length_nums, len_sRow]; exact h
 have := nums_lt l big (sRow wide) p k h1
 rw [sX, List.getD_eq_getElem?_getD, List.getElem?_eq_getElem h1]
 exact this
theorem sX_64 (l : List UInt8) (p : Nat) (wide big : Bool) (k : Nat) (h : k < 10) : (sX l p wide big).getD k 0 < 18446744073709551616 := by
 refine Nat.lt_of_lt_of_le (sX_lt l p wide big k h) (show _ ≤ 256 ^ 8 from Nat.pow_le_pow_right (by decide) ?_)
 rw [sRow_at wide k h]
 unfold sWid
 split
 ·omega
 ·cases wide <;> decide
theorem scOf_ok (l : List UInt8) (p : Nat) (wide big : Bool) : (scOf l p wide big).Ok := by
 have h := sX_64 l p wide big
 exact ⟨sX_lt l p wide big 0 (by omega), sX_lt l p wide big 1 (by omega), h 2 (by omega), h 3 (by omega), h 4 (by omega), h 5 (by omega), sX_lt l p wide big 6 (by omega), sX_lt l p wide big 7 (by omega), h 8 (by omega), h 9 (by omega)⟩
set_option linter.unusedVariables false
def oPh (wide : Bool) : Nat := byWide wide 28 32
def oSh (wide : Bool) : Nat := byWide wide 32 40
def oPn (wide : Bool) : Nat := byWide wide 44 56
def oSn (wide : Bool) : Nat := byWide wide 48 60
def oSt (wide : Bool) : Nat := byWide wide 50 62
def inB (len p n : Nat) : Bool := decide (n = 0) || decide (p + n ≤ len)
section
variable (l : List UInt8)
def fst_ : Sc := if (hdOf l).sh = 0 then sc0 else scOf l (hdOf l).sh (lWide l) (lBig l)
def nP : Nat := if (hdOf l).pn = 65535 then (fst_ l).inf else (hdOf l).pn
def nS : Nat := if (hdOf l).sn = 0 then (fst_ l).sz else (hdOf l).sn
def nI : Nat := if (hdOf l).st = 65535 then (fst_ l).li else (hdOf l).st
def scE : Nat × Nat :=
 if (hdOf l).sh = 0 then (if nS l ≠ 0 then (4, oSn (lWide l)) else (0, 0))
 else if nS l = 0 ∨ 65 < nS l then (8, oSh (lWide l)) else if inB l.length (hdOf l).sh (nS l * sSize (lWide l)) then (0, 0) else (5, oSh (lWide l))
def pgE : Nat × Nat :=
 if (hdOf l).pn = 65535 ∧ (hdOf l).sh = 0 then (4, oPn (lWide l)) else if 16 < nP l then (8, oPn (lWide l)) else if inB l.length (hdOf l).ph (nP l * pSize (lWide l)) then (0, 0) else (5, oPh (lWide l))
def cntE : Nat × Nat :=
 if (hdOf l).sh ≠ 0 ∧ ¬ (hdOf l).sh + sSize (lWide l) ≤ l.length then (5, oSh (lWide l))
 else if (scE l).1 ≠ 0 then scE l else if (pgE l).1 ≠ 0 then pgE l else if (hdOf l).st = 65535 ∧ (hdOf l).sh = 0 then (4, oSt (lWide l)) else (0, 0)
def pAt (i : Nat) : Nat := (hdOf l).ph + i * pSize (lWide l)
def sAt (i : Nat) : Nat := (hdOf l).sh + i * sSize (lWide l)
def pgs (i : Nat) : Pg := pgOf l (pAt l i) (lWide l) (lBig l)
def scs (i : Nat) : Sc := scOf l (sAt l i) (lWide l) (lBig l)
def Sc.held (s : Sc) : Nat := if s.ty = 0 ∨ s.ty = 8 then 0 else s.sz
def pBad (i : Nat) : Nat := if inB l.length (pgs l i).off (pgs l i).fs then 0 else pAt l i + 1
def sBad (i : Nat) : Nat := if inB l.length (scs l (i + 1)).off (scs l (i + 1)).held then 0 else sAt l (i + 1) + 1
def tabE : Nat × Nat :=
 if fstC (pBad l) (List.range (nP l)) ≠ 0 then (5, fstC (pBad l) (List.range (nP l)) - 1) else if fstC (sBad l) (List.range (nS l - 1)) ≠ 0 then (5, fstC (sBad l) (List.range (nS l - 1)) - 1) else (0, 0)
def pHas (off n i : Nat) : Bool := decide ((pgs l i).ty = 1) && (decide ((pgs l i).off ≤ off) && decide (off - (pgs l i).off + n ≤ (pgs l i).fs))
def ownPl (off n : Nat) : Pl := if n = 0 then ⟨-1, 0, 0, []⟩ else ⟨-1, 0, n, (l.drop off).take n⟩
def fstP (off n : Nat) : Nat → Nat → Option Nat
 | i, 0 => none
 | i, k + 1 => if pHas l off n i then some i else fstP off n (i + 1) k
def findPl (off n : Nat) : Pl := if n = 0 then ownPl l off n else match fstP l off n 0 (nP l) with | some i => ⟨(i : Int), off - (pgs l i).off, n, []⟩ | none => ownPl l off n
def segF (i : Nat) : Sg := ⟨(pgs l i).ty, (pgs l i).fl, (pgs l i).va, (pgs l i).pa, (pgs l i).ms, (pgs l i).al, if (pgs l i).ty = 1 then ownPl l (pgs l i).off (pgs l i).fs else findPl l (pgs l i).off (pgs l i).fs⟩
def secF (i : Nat) : Se := ⟨(scs l (i + 1)).na, (scs l (i + 1)).ty, (scs l (i + 1)).fl, (scs l (i + 1)).ad, (scs l (i + 1)).sz, (scs l (i + 1)).li, (scs l (i + 1)).inf, (scs l (i + 1)).al, (scs l (i + 1)).en,
 if (scs l (i + 1)).ty = 0 ∨ (scs l (i + 1)).ty = 8 then ownPl l 0 0 else if i + 1 = nI l then ownPl l (scs l (i + 1)).off (scs l (i + 1)).sz else findPl l (scs l (i + 1)).off (scs l (i + 1)).sz⟩
def mdF : Md := ⟨lWide l, lBig l, (l.getD 7 0).toNat, (l.getD 8 0).toNat, (hdOf l).ty, (hdOf l).ma, (hdOf l).fl, (hdOf l).en, (List.range (nP l)).map (segF l), (List.range (nS l - 1)).map (secF l), (nI l : Int)⟩
def mdN : Md := ⟨false, false, 0, 0, 0, 0, 0, 0, [], [], 0⟩
def restE : Nat × Nat := if (cntE l).1 ≠ 0 then cntE l else if (tabE l).1 ≠ 0 then tabE l else if (mdF l).planC ≠ 0 then ((mdF l).planC, 0) else (0, 0)
def PTold (c p : Nat) (m : Md) : Prop :=
 (65536 < l.length ∧ c = 8 ∧ p = 65536 ∧ m = mdN) ∨ (l.length ≤ 65536 ∧ c ≠ 0 ∧ HTold l c p hd0.V ∧ m = mdN) ∨ (l.length ≤ 65536 ∧ HTold l 0 0 (hdOf l).V ∧ restE l = (c, p) ∧ m = if c = 0 then mdF l else mdN)
end
section
variable {l : List UInt8}
theorem HTold.zero {c p : Nat} {v : Value} (h : HTold l c p v) (hc : c = 0) : p = 0 ∧ v = (hdOf l).V := by
 subst hc
 rcases h with ⟨h, _⟩ | ⟨_, h, e⟩
 ·exact absurd rfl h
 ·rw [if_pos rfl] at e
  rcases h with ⟨_, h, _⟩ | ⟨_, _, _, h⟩ | ⟨_, h, _⟩
  ·omega
  ·exact ⟨h, e⟩
  ·omega
theorem HTold.not {c p : Nat} {v : Value} (h : HTold l c p v) (hc : c ≠ 0) : v = hd0.V := by
 rcases h with ⟨_, _, e⟩ | ⟨_, _, e⟩
 ·exact e
 ·rwa [if_neg hc] at e
theorem PTold.one {c p c' p' : Nat} {m m' : Md} (h : PTold l c p m) (h' : PTold l c' p' m') : c = c' ∧ p = p' ∧ m = m' := by
 rcases h with ⟨h1, rfl, rfl, rfl⟩ | ⟨h1, h2, h3, rfl⟩ | ⟨h1, h2, h3, rfl⟩ <;> rcases h' with ⟨g1, rfl, rfl, rfl⟩ | ⟨g1, g2, g3, rfl⟩ | ⟨g1, g2, g3, rfl⟩
 ·exact ⟨rfl, rfl, rfl⟩
 ·omega
 ·omega
 ·omega
 ·obtain ⟨e1, e2, _⟩ := h3.one g3
  exact ⟨e1, e2, rfl⟩
 ·exact absurd (h3.one g2).1 h2
 ·omega
 ·exact absurd (g3.one h2).1 g2
 ·rw [h3] at g3
  injection g3 with e1 e2
  subst e1; subst e2
  exact ⟨rfl, rfl, rfl⟩
theorem inB_le {len p n : Nat} (h : inB len p n = true) (hn : n ≠ 0) : p + n ≤ len := by
 unfold inB at h
 simp at h
 rcases h with h | h
 ·exact absurd h hn
 ·exact h
theorem cnt_ok (h : (cntE l).1 = 0) : (scE l).1 = 0 ∧ (pgE l).1 = 0 ∧ ¬ ((hdOf l).sh ≠ 0 ∧ ¬ (hdOf l).sh + sSize (lWide l) ≤ l.length) ∧ ¬ ((hdOf l).st = 65535 ∧ (hdOf l).sh = 0) := by
 unfold cntE at h
 split at h
 ·simp at h
 split at h
 ·exact absurd h (by assumption)
 split at h
 ·exact absurd h (by assumption)
 split at h
 ·simp at h
 ·rename_i h1 h2 h3 h4
  exact ⟨by omega, by omega, h1, h4⟩
theorem sc_ok (h : (scE l).1 = 0) : ((hdOf l).sh = 0 ∧ nS l = 0) ∨ ((hdOf l).sh ≠ 0 ∧ 0 < nS l ∧ nS l ≤ 65 ∧ (hdOf l).sh + nS l * sSize (lWide l) ≤ l.length) := by
 unfold scE at h
 split at h
 ·rename_i h1
  split at h
  ·simp at h
  ·exact .inl ⟨h1, by omega⟩
 ·rename_i h1
  split at h
  ·simp at h
  ·rename_i h2
   split at h
   ·rename_i h3
    refine .inr ⟨h1, by omega, by omega, inB_le h3 ?_⟩
    have : 0 < sSize (lWide l) := by cases lWide l <;> decide
    exact Nat.ne_of_gt (Nat.mul_pos (by omega) this)
   ·simp at h
theorem pg_ok (h : (pgE l).1 = 0) : nP l ≤ 16 ∧ (nP l = 0 ∨ (hdOf l).ph + nP l * pSize (lWide l) ≤ l.length) := by
 unfold pgE at h
 split at h
 ·simp at h
 split at h
 ·simp at h
 ·rename_i h1 h2
  split at h
  ·rename_i h3
   refine ⟨by omega, ?_⟩
   rcases Nat.eq_zero_or_pos (nP l) with h0 | h0
   ·exact .inl h0
   ·refine .inr (inB_le h3 ?_)
    have : 0 < pSize (lWide l) := by cases lWide l <;> decide
    exact Nat.ne_of_gt (Nat.mul_pos h0 this)
  ·simp at h
theorem mulS {k n z : Nat} (h : k < n) : k * z + z ≤ n * z := by
 have := Nat.mul_le_mul_right z (show k + 1 ≤ n from h)
 rw [Nat.succ_mul] at this
 exact this
theorem pAt_in (h : (cntE l).1 = 0) {i : Nat} (hi : i < nP l) : pAt l i + pSize (lWide l) ≤ l.length := by
 have := (pg_ok (cnt_ok h).2.1).2
 have := mulS (z := pSize (lWide l)) hi
 unfold pAt
 omega
theorem sAt_in (h : (cntE l).1 = 0) {i : Nat} (hi : i < nS l) : sAt l i + sSize (lWide l) ≤ l.length := by
 have := sc_ok (cnt_ok h).1
 have := mulS (z := sSize (lWide l)) hi
 unfold sAt
 omega
end
set_option linter.unusedVariables false
theorem range_map {α : Type} (f : Nat → α) (k : Nat) : (List.range (k + 1)).map f = (List.range k).map f ++ [f k] := by rw [List.range_succ, List.map_append]; rfl
def pgR (l : List UInt8) (k : Nat) : List (Array Value) := (List.range k).map fun i => (pgs l i).C
def scR (l : List UInt8) (k : Nat) : List (Array Value) := (List.range k).map fun i => (scs l (i + 1)).C
theorem pgR_succ (l : List UInt8) (k : Nat) : pgR l (k + 1) = pgR l k ++ [(pgs l k).C] := by unfold pgR; rw [List.range_succ, List.map_append]; rfl
theorem scR_succ (l : List UInt8) (k : Nat) : scR l (k + 1) = scR l k ++ [(scs l (k + 1)).C] := by unfold scR; rw [List.range_succ, List.map_append]; rfl
theorem pgR_at (l : List UInt8) (P k : Nat) (h : k < P) (h' : k < (pgR l P).length) : (pgR l P)[k] = (pgs l k).C := by simp [pgR]
theorem OB.from_ {w : World} {base : Nat} {e : TypeId} {A : Option Addr} {n c : Nat} {l : List UInt8} (h : OB w base e A n c l) {g : Nat} (hg : own A = some g) : base ≤ g ∧ g < w.heap.size := by
 rcases h.2 with ⟨hv, _⟩ | ⟨g', cap, cur, hv, hb, hh, _⟩
 ·injection hv with e1 _ _
  subst e1
  cases hg
 ·injection hv with e1 _ _
  subst e1
  have e3 : g' = g := Option.some.inj hg
  subst e3
  refine ⟨hb, ?_⟩
  rcases Nat.lt_or_ge g' w.heap.size with h1 | h1
  ·exact h1
  ·rw [Array.getElem?_eq_none h1] at hh; cases hh
theorem OB.beside {w : World} {base : Nat} {e : TypeId} {A : Option Addr} {n c g : Nat} {l : List UInt8} (h : OB w base e A n c l) (hne : own A ≠ some g) (cs' : Array Value) : OB (w.setRow g cs') base e A n c l := by
 refine ⟨h.1, ?_⟩
 rcases h.2 with h0 | ⟨g', cap, cur, hv, hb, hh, r⟩
 ·exact .inl h0
 ·refine .inr ⟨g', cap, cur, hv, hb, ?_, r⟩
  have : g' ≠ g := fun he => hne (by injection hv with e1 _ _; subst e1; subst he; rfl)
  rw [setRow_other w g g' cs' (by exact this)]
  exact hh
section
variable {W W' : World} {base : Nat}
theorem ZO.kinds {b1 b2 : Nat} {e e' : TypeId} {z z' : Nat} {A A' : Option Addr} {n c n' c' : Nat} {R R' : List (Array Value)} (h : ZO W b1 e z A n c R) (h' : ZO W b2 e' z' A' n' c' R') (ht : e ≠ e') : own A = none ∨ own A ≠ own A' := by
 rcases h.1.2 with ⟨hv, _⟩ | ⟨g, cap, cur, hv, _, hh, _⟩
 ·injection hv with e1 _ _
  subst e1
  exact .inl rfl
 ·injection hv with e1 _ _
  subst e1
  refine .inr fun hA => ?_
  rcases h'.1.2 with ⟨hv', _⟩ | ⟨g', cap', cur', hv', _, hh', _⟩
  ·injection hv' with e1 _ _
   subst e1
   cases hA
  ·injection hv' with e1 _ _
   subst e1
   have e3 : g = g' := Option.some.inj hA
   subst e3
   rw [hh] at hh'
   injection hh' with hh'
   injection hh' with _ hh'
   exact ht hh'
theorem ZO.past {b1 : Nat} {e : TypeId} {z : Nat} {A : Option Addr} {n c : Nat} {R : List (Array Value)} {row : Option Nat} (h : ZO W b1 e z A n c R) (hg : W.grownBy W' row) (hne : own A = none ∨ own A ≠ row) : ZO W' b1 e z A n c R := ⟨World.ownsRow.kept h.1 hg (by rw [own_slice]; exact hne), h.2⟩
theorem ZO.notb {e : TypeId} {z : Nat} {A : Option Addr} {n c g : Nat} {l : List (Array Value)} (h : ZO W base e z A n c l) (hg : g < base) : own A ≠ some g := fun e => by have := h.ge e; omega
end
def RO {α : Type} (K : RK α) (w : World) (base : Nat) (r : Array Value) (a : α) : Prop := ∃ A n c, r = K.cs a (.slice A n c) ∧ OB w base 5 A n c (K.by_ a)
def GR {α : Type} (K : RK α) (w : World) (base : Nat) (e : TypeId) (A : Option Addr) (k c : Nat) (L : List α) : Prop :=
 ∃ R, ZO w base e K.z A k c R ∧ R.length = L.length ∧ ∀ j (h : j < R.length) (h' : j < L.length), RO K w base R[j] L[j]
theorem OB.kindNe {w : World} {base base' : Nat} {e e' : TypeId} {z : Nat} {A A' : Option Addr} {n c n' c' : Nat} {l : List UInt8} {R : List (Array Value)} (h : OB w base e A n c l) (h' : ZO w base' e' z A' n' c' R) (ht : e ≠ e') : own A = none ∨ own A ≠ own A' := by
 rcases h.2 with ⟨hv, _⟩ | ⟨g, cap, cur, hv, _, hh, _⟩
 ·injection hv with e1 _ _
  subst e1
  exact .inl rfl
 ·injection hv with e1 _ _
  subst e1
  refine .inr fun hA => ?_
  rcases h'.1.2 with ⟨hv', _⟩ | ⟨g', cap', cur', hv', _, hh', _⟩
  ·injection hv' with e1 _ _
   subst e1
   cases hA
  ·injection hv' with e1 _ _
   subst e1
   have e3 : g = g' := Option.some.inj hA
   subst e3
   rw [hh] at hh'
   injection hh' with hh'
   injection hh' with _ hh'
   exact ht hh'
theorem OB.passed {w w' : World} {base : Nat} {e : TypeId} {A : Option Addr} {n c : Nat} {l : List UInt8} {row : Option Nat} (h : OB w base e A n c l) (hg : w.grownBy w' row) (hne : own A = none ∨ own A ≠ row) : OB w' base e A n c l := World.ownsRow.kept h hg (by rw [own_slice]; exact hne)
section
variable {α β : Type} {K : RK α} {K' : RK β} {w w' : World} {base : Nat} {e e' : TypeId} {A A' : Option Addr} {k c k' c' : Nat} {L : List α} {L' : List β}
theorem GR.nil (hz : True) : GR K w base e none 0 0 ([] : List α) := ⟨[], ZO.nil, rfl, fun j h => absurd h (by simp)⟩
theorem RO.keep {r : Array Value} {a : α} (h : RO K w base r a) (hg : Grow w w') : RO K w' base r a := by
 obtain ⟨A, n, c, e1, h1⟩ := h
 exact ⟨A, n, c, e1, h1.keep hg⟩
theorem GR.keep (h : GR K w base e A k c L) (hg : Grow w w') : GR K w' base e A k c L := by
 obtain ⟨R, h1, h2, h3⟩ := h
 exact ⟨R, h1.keep hg, h2, fun j a b => (h3 j a b).keep hg⟩
theorem GR.past {z : Nat} {A2 : Option Addr} {n2 c2 : Nat} {R2 : List (Array Value)} (h : GR K w base e A k c L) (h' : ZO w base e' z A2 n2 c2 R2) (hne : e ≠ e') (hu : 5 ≠ e') (hg : w.grownBy w' (own A2)) : GR K w' base e A k c L := by
 obtain ⟨R, h1, h2, h3⟩ := h
 refine ⟨R, h1.past hg (h1.kinds h' hne), h2, fun j a b => ?_⟩
 obtain ⟨A, n, c, e1, h4⟩ := h3 j a b
 exact ⟨A, n, c, e1, h4.passed hg (h4.kindNe h' hu)⟩
theorem GR.set {g : Nat} (h : GR K w base e A k c L) (hg : g < base) (cs : Array Value) : GR K (w.setRow g cs) base e A k c L := by
 obtain ⟨R, h1, h2, h3⟩ := h
 refine ⟨R, h1.other (h1.notb hg) cs, h2, fun j a b => ?_⟩
 obtain ⟨A, n, c, e1, h4⟩ := h3 j a b
 exact ⟨A, n, c, e1, h4.beside (fun e => by have := (h4.from_ e).1; omega) cs⟩
theorem GR.mono {b : Nat} (h : GR K w base e A k c L) (hb : b ≤ base) : GR K w b e A k c L := by
 obtain ⟨R, h1, h2, h3⟩ := h
 exact ⟨R, h1.mono hb, h2, fun j a b' => by
  obtain ⟨A, n, c, e1, h4⟩ := h3 j a b'
  exact ⟨A, n, c, e1, h4.mono hb⟩⟩
theorem GR.zr (h : GR K w base e A k c L) : ZR K w w.heap.size A k c L := by
 obtain ⟨R, h1, h2, h3⟩ := h
 exact ⟨R, h1.zs, h2, fun j a b => by
  obtain ⟨A, n, c, e1, h4⟩ := h3 j a b
  exact ⟨A, n, c, e1, h4.rb⟩⟩
theorem GR.snoc {A2 : Option Addr} {c2 : Nat} {r : Array Value} {a : α} {R : List (Array Value)} (h1 : ZO w base e K.z A k c R) (h2 : R.length = L.length) (h3 : ∀ j (h : j < R.length) (h' : j < L.length), RO K w base R[j] L[j]) (hr : RO K w base r a) (hu : 5 ≠ e)
  (ho : ZO w' base e K.z A2 (k + 1) c2 (R ++ [r])) (hg : w.grownBy w' (own A)) : GR K w' base e A2 (k + 1) c2 (L ++ [a]) := by
 have key : ∀ {r : Array Value} {a : α}, RO K w base r a → RO K w' base r a := fun h => by
  obtain ⟨A, n, c, e1, h4⟩ := h
  exact ⟨A, n, c, e1, h4.passed hg (h4.kindNe h1 hu)⟩
 refine ⟨R ++ [r], ho, by simp [h2], fun j h h' => ?_⟩
 by_cases hj : j < R.length
 ·have hj' : j < L.length := by rw [← h2]; exact hj
  rw [List.getElem_append_left hj, List.getElem_append_left hj']
  exact key (h3 j hj hj')
 ·have e1 : j = R.length := by simp at h; omega
  subst e1
  have hl : L.length ≤ R.length := by rw [h2]; exact Nat.le_refl _
  rw [List.getElem_append_right (Nat.le_refl _), List.getElem_append_right hl]
  simpa using key hr
end
theorem Blk.rb {w : World} {g : Nat} {t : TypeId} {l : List UInt8} (h : Blk w g t (l.map byt).toArray) (hm : l.length ≤ maxLen) : RB w w.heap.size (some ⟨g, 0, none⟩) l.length l.length l :=
 ⟨rfl, Nat.le_refl _, hm, fun _ => ⟨g, 0, rfl, h.lt, fun j hj => by
  rw [Nat.zero_add, h.at j]
  simp [byt, hj]⟩⟩
theorem ZR.one {α : Type} {K : RK α} {w : World} {B g : Nat} {t : TypeId} {a : α} {A : Option Addr} {n c : Nat} (h : Blk w g t (K.cs a (.slice A n c))) (hr : RB w B A n c (K.by_ a)) (hz : (K.cs a (.slice A n c)).size = K.z) (hB : g < B) : ZR K w B (some ⟨g, 0, none⟩) 1 1 [a] :=
 ⟨[K.cs a (.slice A n c)], hz ▸ ZS.one h hB, rfl, fun j h1 h2 => by
  obtain rfl : j = 0 := by simpa using h1
  exact ⟨A, n, c, rfl, hr⟩⟩
theorem kept_row {w W : World} {S : Nat → Prop} {row : Option Nat} (h : w.grownBy W row) (hS : ∀ k, row = some k → ¬ S k) : Kept S w W := ⟨h.size, fun k hk hs => h.block k hk (fun e => hS k e.symm hs)⟩
end Go.Proofs.YtfglppjilcaafaaGreatDoor
