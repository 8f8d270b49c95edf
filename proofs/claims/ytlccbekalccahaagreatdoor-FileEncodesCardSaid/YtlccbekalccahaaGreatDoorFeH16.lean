/-
  Several texts in one: The contract of prog; Plain answers of layer 6, and the contracts of sect; The contract of sect; A file's bytes, as plain data.
-/
import Derived.Test.YtlccbekalccahaaGreatDoorFeH8
import Derived.Test.YtlccbekalccahaaGreatDoorFeH15
import Derived.Test.YtlccbekalccahaaGreatDoorFeH14
import Derived.Test.YtlccbekalccahaaGreatDoorRows
import Derived.Test.YtlccbekalccahaaGreatDoorFeH2
import Derived.Test.YtlccbekalccahaaGreatDoorFeH4
import Derived.WalkKit
import Derived.Laws.ResultCell
import Derived.Lib.Hide
import Derived.Test.YtlccbekalccahaaGreatDoorFeH11

namespace Go.Proofs.YtlccbekalccahaaGreatDoor
open Go.RowKit

/-- The numbers, each with how many bytes it has. -/
def Pg.Q (p : Pg) (wide : Bool) : List (Nat × Nat) := (pOrd wide).map fun i => (p.N.getD i 0, pWid wide i)
/-- The bytes. -/
def Pg.L (p : Pg) (wide big : Bool) : List UInt8 := rowB big (p.Q wide)
theorem Pg.lenQ (p : Pg) (wide : Bool) : (p.Q wide).length = 8 := by simp [Pg.Q, len_pOrd]
theorem Pg.lenL (p : Pg) (wide big : Bool) : (p.L wide big).length = pSize wide := by
  rw [Pg.L, length_rowB, ← sum_pRow, pRow, Pg.Q, List.map_map]
  rfl
theorem Pg.atN (p : Pg) (ok : p.Ok) (i : Nat) : p.N.getD i 0 < 18446744073709551616 := by
  obtain ⟨k1, k2, k3, k4, k5, k6, k7, k8⟩ := ok
  match i with
  | 0 => show p.ty < _; omega
  | 1 => show p.fl < _; omega
  | 2 => show p.off < _; omega
  | 3 => show p.va < _; omega
  | 4 => show p.pa < _; omega
  | 5 => show p.fs < _; omega
  | 6 => show p.ms < _; omega
  | 7 => show p.al < _; omega
  | _ + 8 => show 0 < _; omega
theorem Pg.rowed (p : Pg) (ok : p.Ok) (wide : Bool) : Rowed (p.Q wide) :=
  ⟨by rw [p.lenQ]; omega, fun k hk => by simp only [Pg.Q, List.getElem_map]; exact pWid_wid _ _, fun k hk => by simp only [Pg.Q, List.getElem_map]; exact p.atN ok _⟩

theorem makeP (wide : Bool) (w : World) : (Instr.makeSlice 35 (.int .i64 0) (.int .i64 (pSize wide : Nat))).run Tryz.prog w = .ok (.slice (some ⟨w.heap.size, 0, none⟩) 0 (pSize wide))
    (w.alloc (.cells (Array.replicate (pSize wide) (.int .u8 0)) 5)) := by cases wide <;> kernel_rfl

/-- What Put answers. -/
def PPut (p : Pg) (wide big : Bool) (w : World) (e : Ending) (w' : World) : Prop :=
  (rowF (p.Q wide) = true ∧ ∃ A c, e = .returned (.tuple #[.slice A (p.L wide big).length c, .nilIface]) ∧ OB w' w.heap.size 5 A (p.L wide big).length c (p.L wide big) ∧ Grow w w') ∨
  (rowF (p.Q wide) = false ∧ e = .returned (.tuple #[.slice none 0 0, .iface 81 (.int .i64 1)]) ∧ Grow w w')

set_option maxHeartbeats 400000 in
theorem pPut_any (p : Pg) (ok : p.Ok) (wide big : Bool) (w : World) : Calls Tryz.prog 45 #[p.V, .agg #[.bool wide, .bool big]] w (PPut p wide big w) := by
  have HR := Lib.hid (p.rowed ok wide)
  have HN := Lib.hid (fun w => pNum_any p ok w)
  have HSz := Lib.hid (fun w => pSize_any wide big w)
  have HOr := Lib.hid (fun w => pOrd_any wide big w)
  have HWi := Lib.hid (fun i w => pWid_any wide big i w)
  have HSN : Hid ((u64s p.N).size = 8) := Lib.hid rfl
  have HON := Lib.hid (one_u64s p.N)
  have HLQ := Lib.hid (p.lenQ wide)
  have HMk := Lib.hid (makeP wide)
  have HSp : Hid (pSize wide ≤ 56) := by cases wide <;> exact Lib.hid (by decide)
  have HAO : Hid (∀ k, k < 8 → (i64s (pOrd wide))[k]? = some (.int .i64 ((pOrd wide).getD k 0 : Nat))) := Lib.hid (fun k hk => idx_i64s _ _ (by rw [len_pOrd]; exact hk))
  have HOl := Lib.hid (pOrd_lt wide)
  have HAN : Hid (∀ i, i < 8 → (u64s p.N)[i]? = some (.int .u64 (p.N.getD i 0 : Nat))) := Lib.hid (fun i hi => idx_u64s _ _ hi)
  have HAQ : Hid (∀ k (h : k < (p.Q wide).length), (p.Q wide)[k].1 = p.N.getD ((pOrd wide).getD k 0) 0 ∧ (p.Q wide)[k].2 = pWid wide ((pOrd wide).getD k 0)) := Lib.hid (fun k h => by
    have hk : k < (pOrd wide).length := by rw [p.lenQ] at h; rw [len_pOrd]; exact h
    simp only [Pg.Q, List.getElem_map]
    rw [List.getD_eq_getElem?_getD (l := pOrd wide), List.getElem?_eq_getElem hk]
    exact ⟨rfl, rfl⟩)
  have HC1 : Hid (p.C.size = 8) := Lib.hid rfl
  unfold PPut Pg.L
  unfold Pg.V
  generalize p.Q wide = q at HR HLQ HAQ ⊢
  generalize u64s p.N = RN at HN HSN HON HAN
  generalize i64s (pOrd wide) = RO at HOr HAO
  generalize pOrd wide = os at HAO HOl HAQ
  generalize p.N = pn at HAN HAQ
  unfold Pg.V at HN
  generalize p.C = C at HN HC1 ⊢
  generalize pSize wide = sz at HSz HMk HSp
  go_enter Tryz.func45, Tryz.ntmps45
  go_wp2_with (refine wpList_load_row rfl 76 (.tmp 2) rfl w.heap.size rfl _ C (0, 0) _ (blk2 rfl).1 Tryz.underlying76 rfl (by rw [HC1.out]; kernel_rfl) ?_)
  generalize hW : World.alloc _ _ = W0
  obtain ⟨b1, bf, hg0⟩ := blk2 hW
  clear hW b1
  refine (HN.out W0).mono ?_
  rintro e w1 ⟨rfl, hg1⟩
  have HBF1 := Lib.hid (bf.grow hg1)
  have HG1 : Hid (Grow w w1) := hg0.trans hg1
  clear bf hg0 hg1
  obtain ⟨y0, y1⟩ := (HBF1.out.alloc (.cells RN 180)).c2
  go_wp2_with (refine wpList_store_row rfl 180 (.tmp 6) (.tmp 12) rfl w1.heap.size RN rfl rfl _ _ (Blk.new _ _ _) (by rw [HSN.out]; kernel_rfl) (by rw [HSN.out]; rfl) HON.out ?_; rw [World.setRow_alloc_new])
  clear y0 y1
  refine (HSz.out _).mono ?_
  rintro e w2 ⟨rfl, hg2⟩
  have HBN := Lib.hid ((Blk.new w1 180 RN).grow hg2)
  have HBF2 := Lib.hid ((HBF1.out.alloc _).grow hg2)
  have HG2 : Hid (Grow w w2) := (HG1.out.trans (Grow.of_alloc _ _)).trans hg2
  have HG6 : Hid (w.heap.size + 1 < w1.heap.size) := HBF1.out.lt
  generalize w1.heap.size = g6 at HBN HG6 ⊢
  clear hg2 HG1 HBF1
  have hmk := HMk.out w2
  obtain ⟨y0, y1⟩ := (HBF2.out.alloc (.cells (Array.replicate sz (.int .u8 0)) 5)).c2
  go_wp2_with fail
  clear y0 y1 hmk HMk
  refine (HOr.out _).mono ?_
  rintro e w3 ⟨rfl, hg3⟩
  have HO3 := Lib.hid ((OB.room w2 w.heap.size 5 sz (.int .u8 0) (by have := HSp.out; unfold maxLen; omega) HG2.out.size).keep hg3)
  have HBN3 := Lib.hid ((HBN.out.alloc _).grow hg3)
  have HBF3 := Lib.hid ((HBF2.out.alloc _).grow hg3)
  have HG3 : Hid (Grow w w3) := (HG2.out.trans (Grow.of_alloc _ _)).trans hg3
  have HD : Hid (w2.heap.size ≠ w.heap.size + 1) := by have := HBF2.out.lt; exact Lib.hid (by omega)
  have HD6 : Hid (w2.heap.size ≠ g6) := by have := HBN.out.lt; exact Lib.hid (by omega)
  generalize w2.heap.size = g7 at HO3 HD HD6 ⊢
  clear hg3 HG2 HBN HBF2
  go_wp2_with fail
  go_loopw [7, 18] (fun x i wr => ∃ (k : Nat) (A : Option Addr) (c : Nat), k ≤ 8 ∧ i = .int .i64 k ∧ x = .slice A (rowB big (q.take k)).length c ∧ OB wr w.heap.size 5 A (rowB big (q.take k)).length c (rowB big (q.take k)) ∧
    own A ≠ some (w.heap.size + 1) ∧ own A ≠ some g6 ∧ Blk wr (w.heap.size + 1) 23 #[.bool wide, .bool big] ∧ Blk wr g6 180 RN ∧ rowF (q.take k) = true ∧ Grow w wr) (fun _ i _ => 8 - (intOf i).toNat)
  case atStart => exact ⟨0, some ⟨g7, 0, none⟩, sz, by omega, rfl, rfl, HO3.out, fun h => HD.out (by injection h), fun h => HD6.out (by injection h), HBF3.out, HBN3.out, rfl, HG3.out⟩
  case round =>
    obtain ⟨k, A, c, hk, rfl, rfl, ho, hd1, hd2, hbf, hbn, hrf, hg⟩ := hrel
    have HO := Lib.hid ho
    have HD1 := Lib.hid hd1
    have HD2 := Lib.hid hd2
    have HBF := Lib.hid hbf
    have HBN2 := Lib.hid hbn
    have HRF := Lib.hid hrf
    have HG := Lib.hid hg
    clear ho hd1 hd2 hbf hbn hrf hg HO3 HBN3 HBF3 HG3
    by_cases hlt : k < 8
    · have hkq : k < q.length := by rw [HLQ.out]; exact hlt
      have HB := Lib.hid (rowB_succ big q k hkq)
      have HF := Lib.hid (rowF_succ q k hkq)
      have HW := Lib.hid (HR.out.wide k hkq)
      have HZ := Lib.hid (fun h => rowF_false hkq h)
      have HLE := Lib.hid (rowB_le HR.out big k (by omega))
      have hv := HR.out.lt k hkq
      have hw8 := HR.out.wide8 k hkq
      have HK1 := Lib.hid (HAN.out (os.getD k 0) (HOl.out k hlt))
      have HK2 := Lib.hid (HAO.out k hlt)
      have ho8 := HOl.out k hlt
      obtain ⟨e1, e2⟩ := HAQ.out k hkq
      rw [HRF.out, Bool.true_and] at HF
      rw [← e1] at HK1
      have HW2 := Lib.hid (fun w => HWi.out (os.getD k 0) w)
      rw [← e2] at HW2
      clear e1 e2
      generalize q[k].1 = v at HB HF HZ hv HK1
      generalize q[k].2 = m at HB HF HZ HW hw8 HW2
      generalize os.getD k 0 = i at HK1 HK2 HW2 ho8
      have z1 : (0 : Int) ≤ (i : Int) := by omega
      have z2 : (i : Int) < 8 := by omega
      obtain ⟨y0, y1⟩ := HBF.out.c2
      clear hkq
      go_wp2_with (refine wpList_index rfl 182 3 (.tmp 17) (.tmp 18) rfl 8 _ Tryz.underlying182 Tryz.underlying3 rfl (by kernel_rfl) RO k (.int .i64 (i : Int)) rfl rfl hlt HK2.out ?_)
      clear y0 y1
      refine (HW2.out _).mono ?_
      rintro e w4 ⟨rfl, hg4⟩
      have HO4 := Lib.hid (HO.out.keep hg4)
      have HBF4 := Lib.hid (HBF.out.grow hg4)
      have HBN4 := Lib.hid (HBN2.out.grow hg4)
      have HG4 : Hid (Grow w w4) := HG.out.trans hg4
      clear hg4 HO HBF HBN2 HG
      have y1 : w4.cell? ⟨g6, i, none⟩ = some (.int .u64 (v : Int)) := (HBN4.out.at i).trans HK1.out
      go_wp2_with fail
      refine (fits_any v m _ (by omega) (by omega)).mono ?_
      rintro e w5 ⟨rfl, rfl⟩
      rw [fits_row v m HW.out]
      cases hfit : decide (v < 256 ^ m)
      · have HZ2 := Lib.hid (HZ.out hfit)
        clear hfit
        go_wp2
        go_ret2
        exact .inr ⟨HZ2.out, rfl, HG4.out⟩
      · rw [hfit] at HF
        clear hfit HZ
        go_wp2_with fail
        clear y1
        refine wp_region_leap (leap_kept (fun j => j = w.heap.size + 1 ∨ j = g6)) [(0, true), (1, true), (2, true), (3, true), (4, true), (5, true), (6, true), (7, false), (8, false), (9, true)] (by kernel_rfl) (by kernel_rfl) (by kernel_rfl) ?_
        have HX : Hid (∀ W, Kept (fun j => j = w.heap.size + 1 ∨ j = g6) w4.drew W → (_ ∧ _) ∧ W.cell? ⟨g6, i, none⟩ = some (.int .u64 (v : Int))) := fun W hW =>
          ⟨(HBF4.out.drew.kept hW (.inl rfl)).c2, ((HBN4.out.drew.kept hW (.inr rfl)).at i).trans HK1.out⟩
        have HO1 : Hid (OB w4.drew _ _ _ _ _ _) := HO4.out
        have HBF1 := Lib.hid HBF4.out.drew
        have HBN1 := Lib.hid HBN4.out.drew
        have HG1 : Hid (Grow w w4.drew) := HG4.out.trans (Grow.of_drew _)
        generalize w4.drew = w6 at HX HO1 HBF1 HBN1 HG1 ⊢
        clear HO4 HBF4 HBN4 HG4
        repeat (refine chain_take rfl (by rfl) ?_ (fun W hG => ?_) ?_; rotate_left; (obtain ⟨⟨q1, q2⟩, q3⟩ := HX.out W hG; go_simp; rfl); simp only [Act.put, List.setIfInBounds_toArray, List.set_cons_zero, List.set_cons_succ])
        clear HX
        refine chain_only rfl (by rfl) (fun K hK => ?_)
        go_simp
        refine (put_wide v m big _ HW.out (by omega)).mono ?_
        rintro e w7 ⟨A3, c3, rfl, ho3, hb3⟩
        refine hK _ _ (Kept.of_grow hb3) ?_
        clear hK K
        have HO3 := Lib.hid ho3
        have HO4 := Lib.hid (HO1.out.keep hb3)
        have HBF7 := Lib.hid (HBF1.out.grow hb3)
        have HBN7 := Lib.hid (HBN1.out.grow hb3)
        have HG7 : Hid (Grow w w7) := HG1.out.trans hb3
        clear ho3 hb3 HO1 HBF1 HBN1 HG1
        rw [Int.toNat_natCast] at HO3
        refine chain_only rfl (by rfl) (fun K hK => ?_)
        refine wp_appendS w7 (.tmp 31) (.tmp 38) 35 rfl w.heap.size 5 Tryz.underlying35 (by kernel_rfl) A _ c _ rfl HO4.out w7.heap.size A3 m c3 _ rfl HO3.out.rb (by have := HLE.out; omega) HG7.out.size ?_
        intro A5 c5 w8 ho5 hb5 hk5 hn5
        have HBF8 : Hid (Blk w8 (w.heap.size + 1) 23 #[.bool wide, .bool big]) := (hk5 _ HBF7.out.lt HD1.out).trans HBF7.out
        have HBN8 : Hid (Blk w8 g6 180 RN) := (hk5 _ HBN7.out.lt HD2.out).trans HBN7.out
        refine hK _ _ ⟨hb5.size, fun j hj hj2 => by
          rcases hj2 with rfl | rfl
          · exact hk5 _ hj HD1.out
          · exact hk5 _ hj HD2.out⟩ ?_
        clear hK K
        have HD1' : Hid (own A5 ≠ some (w.heap.size + 1)) := by
          rcases hn5 with e | e
          · rw [e]; exact HD1
          · rw [e]; have := HBF7.out.lt; exact fun h => by injection h; omega
        have HD2' : Hid (own A5 ≠ some g6) := by
          rcases hn5 with e | e
          · rw [e]; exact HD2
          · rw [e]; have := HBN7.out.lt; exact fun h => by injection h; omega
        have HG8 : Hid (Grow w w8) := HG7.out.trans' hb5
        rw [← HB.out] at ho5
        have hm : (rowB big (q.take k)).length + m = (rowB big (q.take (k + 1))).length := by rw [HB.out, List.length_append, length_putB]
        rw [hm] at ho5 ⊢
        have HO5 := Lib.hid ho5
        clear ho5 hb5 hk5 hn5 hm HO3 HO4 HG7 HBF7 HBN7
        repeat (refine chain_take rfl (by rfl) ?_ (fun W hG => ?_) ?_; rotate_left; (go_simp; rfl); simp only [Act.put, List.setIfInBounds_toArray, List.set_cons_zero, List.set_cons_succ])
        refine chain_done ?_
        go_wp2
        go_roundw
        case rel => exact ⟨k + 1, A5, c5, by omega, by go_num, rfl, HO5.out, HD1'.out, HD2'.out, HBF8.out, HBN8.out, HF.out, HG8.out⟩
        case measure => simp [intOf]; omega
    · have HK : Hid (q.take k = q) := by
        have e : k = q.length := by rw [HLQ.out]; omega
        rw [e]
        exact List.take_length
      rw [HK.out] at HO HRF ⊢
      go_wp2
      go_ret2
      exact .inl ⟨HRF.out, A, c, rfl, HO.out, HG.out⟩
end Go.Proofs.YtlccbekalccahaaGreatDoor

namespace Go.Proofs.YtlccbekalccahaaGreatDoor
open Go.RowKit

/-- A section header. -/
structure Sc where
  na : Nat
  ty : Nat
  fl : Nat
  ad : Nat
  off : Nat
  sz : Nat
  li : Nat
  inf : Nat
  al : Nat
  en : Nat
/-- Its fields have the sizes of their types. -/
structure Sc.Ok (p : Sc) : Prop where
  na : p.na < 4294967296
  ty : p.ty < 4294967296
  fl : p.fl < 18446744073709551616
  ad : p.ad < 18446744073709551616
  off : p.off < 18446744073709551616
  sz : p.sz < 18446744073709551616
  li : p.li < 4294967296
  inf : p.inf < 4294967296
  al : p.al < 18446744073709551616
  en : p.en < 18446744073709551616

def Sc.C (p : Sc) : Array Value := #[.int .u32 (p.na : Int), .int .u32 (p.ty : Int), .int .u64 (p.fl : Int), .int .u64 (p.ad : Int), .int .u64 (p.off : Int), .int .u64 (p.sz : Int), .int .u32 (p.li : Int), .int .u32 (p.inf : Int), .int .u64 (p.al : Int), .int .u64 (p.en : Int)]
def Sc.V (p : Sc) : Value := .agg p.C
def sc0 : Sc := ⟨0, 0, 0, 0, 0, 0, 0, 0, 0, 0⟩
/-- Its numbers, in their order. -/
def Sc.N (p : Sc) : List Nat := [p.na, p.ty, p.fl, p.ad, p.off, p.sz, p.li, p.inf, p.al, p.en]
/-- How many bytes it has. -/
def sSize (wide : Bool) : Nat := byWide wide 40 64
/-- How many bytes a number has. -/
def sWid (wide : Bool) (i : Nat) : Nat := if ((i : Int) == 0) || ((i : Int) == 1) || ((i : Int) == 6) || ((i : Int) == 7) then 4 else byWide wide 4 8
def sRow (wide : Bool) : List Nat := [4, 4, byWide wide 4 8, byWide wide 4 8, byWide wide 4 8, byWide wide 4 8, 4, 4, byWide wide 4 8, byWide wide 4 8]
theorem Sc.one (p : Sc) : p.C.all (·.oneCell') = true := by simp [Sc.C, Value.oneCell']
theorem len_sRow (wide : Bool) : (sRow wide).length = 10 := by cases wide <;> rfl
theorem sum_sRow (wide : Bool) : sumN (sRow wide) = sSize wide := by cases wide <;> rfl
theorem sRow_at (wide : Bool) (k : Nat) (h : k < 10) : (sRow wide).getD k 0 = sWid wide k := by
  cases wide <;> (match k, h with
    | 0, _ => rfl
    | 1, _ => rfl
    | 2, _ => rfl
    | 3, _ => rfl
    | 4, _ => rfl
    | 5, _ => rfl
    | 6, _ => rfl
    | 7, _ => rfl
    | 8, _ => rfl
    | 9, _ => rfl)
theorem sWid_wid (wide : Bool) (i : Nat) : wid (sWid wide i : Nat) = true := by
  unfold sWid
  split
  · rfl
  · cases wide <;> rfl

theorem sSize_any (wide big : Bool) (w : World) : Calls Tryz.prog 51 #[.agg #[.bool wide, .bool big]] w fun e w' => e = .returned (.int .i64 (sSize wide : Nat)) ∧ Grow w w' := by
  cases wide
  · go_enter Tryz.func51, Tryz.ntmps51
    go_wp2
    go_ret
    exact ⟨rfl, Grow.of_alloc _ _⟩
  · go_enter Tryz.func51, Tryz.ntmps51
    go_wp2
    go_ret
    exact ⟨rfl, Grow.of_alloc _ _⟩

theorem sWid_any (wide big : Bool) (i : Nat) (w : World) : Calls Tryz.prog 100 #[.int .i64 i, .agg #[.bool wide, .bool big]] w fun e w' => e = .returned (.int .i64 (sWid wide i : Nat)) ∧ Grow w w' := by
  unfold sWid
  cases h0 : ((i : Int) == 0)
  · cases h1 : ((i : Int) == 1)
    · cases h6 : ((i : Int) == 6)
      · cases h7 : ((i : Int) == 7)
        · cases wide
          · go_enter Tryz.func100, Tryz.ntmps100
            go_wp2
            go_ret
            exact ⟨rfl, Grow.of_alloc _ _⟩
          · go_enter Tryz.func100, Tryz.ntmps100
            go_wp2
            go_ret
            exact ⟨rfl, Grow.of_alloc _ _⟩
        · go_enter Tryz.func100, Tryz.ntmps100
          go_wp2
          go_ret
          exact ⟨rfl, Grow.of_alloc _ _⟩
      · go_enter Tryz.func100, Tryz.ntmps100
        go_wp2
        go_ret
        exact ⟨rfl, Grow.of_alloc _ _⟩
    · go_enter Tryz.func100, Tryz.ntmps100
      go_wp2
      go_ret
      exact ⟨rfl, Grow.of_alloc _ _⟩
  · go_enter Tryz.func100, Tryz.ntmps100
    go_wp2
    go_ret
    exact ⟨rfl, Grow.of_alloc _ _⟩

theorem sNum_any (p : Sc) (ok : p.Ok) (w : World) : Calls Tryz.prog 99 #[p.V] w fun e w' => e = .returned (.agg (u64s p.N)) ∧ Grow w w' := by
  obtain ⟨na, ty, fl, ad, off, sz, li, inf, al, en⟩ := p
  obtain ⟨k1, k2, k3, k4, k5, k6, k7, k8, k9, k10⟩ := ok
  unfold Sc.V Sc.C
  simp only [] at *
  have z1 : IntKind.u64.wrap (na : Int) = (na : Int) := by rw [IntKind.wrap_u64]; omega
  have z2 : IntKind.u64.wrap (ty : Int) = (ty : Int) := by rw [IntKind.wrap_u64]; omega
  have z3 : IntKind.u64.wrap (li : Int) = (li : Int) := by rw [IntKind.wrap_u64]; omega
  have z4 : IntKind.u64.wrap (inf : Int) = (inf : Int) := by rw [IntKind.wrap_u64]; omega
  clear k1 k2 k3 k4 k5 k6 k7 k8 k9 k10
  go_enter Tryz.func99, Tryz.ntmps99
  go_wp2_with (refine wpList_store_row rfl 185 (.tmp 2) (.tmp 27) rfl (w.heap.size + 1) (u64s (Sc.N ⟨na, ty, fl, ad, off, sz, li, inf, al, en⟩)) rfl rfl _ _ (blk2 rfl).2.1 (by kernel_rfl) rfl (one_u64s _) ?_)
  refine bodyPost_ret (results_cell_row (cs := u64s (Sc.N ⟨na, ty, fl, ad, off, sz, li, inf, al, en⟩)) rfl _ _ (w.heap.size + 1) _ (0, 0) _ rfl ((blk2 rfl).2.1.set _) Tryz.underlying185 rfl (by kernel_rfl)) rfl ?_
  exact ⟨rfl, Grow.set (blk2 rfl).2.2 (Nat.le_succ _) _⟩

theorem sHdr_any (x0 x1 x2 x3 x4 x5 x6 x7 x8 x9 : Nat) (w : World) (k0 : x0 < 4294967296) (k1 : x1 < 4294967296) (k6 : x6 < 4294967296) (k7 : x7 < 4294967296) :
    Calls Tryz.prog 114 #[.agg (u64s [x0, x1, x2, x3, x4, x5, x6, x7, x8, x9])] w fun e w' => e = .returned (Sc.V ⟨x0, x1, x2, x3, x4, x5, x6, x7, x8, x9⟩) ∧ Grow w w' := by
  have z0 : IntKind.u32.wrap (x0 : Int) = (x0 : Int) := by rw [IntKind.wrap_u32]; omega
  have z1 : IntKind.u32.wrap (x1 : Int) = (x1 : Int) := by rw [IntKind.wrap_u32]; omega
  have z6 : IntKind.u32.wrap (x6 : Int) = (x6 : Int) := by rw [IntKind.wrap_u32]; omega
  have z7 : IntKind.u32.wrap (x7 : Int) = (x7 : Int) := by rw [IntKind.wrap_u32]; omega
  clear k0 k1 k6 k7
  unfold u64s
  simp only [List.map_cons, List.map_nil]
  go_enter Tryz.func114, Tryz.ntmps114
  go_wp2_with (refine wpList_store_row rfl 80 (.tmp 2) (.tmp 27) rfl (w.heap.size + 1) (Sc.C ⟨x0, x1, x2, x3, x4, x5, x6, x7, x8, x9⟩) rfl rfl _ _ (blk2 rfl).2.1 (by kernel_rfl) rfl (Sc.one _) ?_)
  refine bodyPost_ret (results_cell_row (cs := Sc.C ⟨x0, x1, x2, x3, x4, x5, x6, x7, x8, x9⟩) rfl _ _ (w.heap.size + 1) _ (0, 0) _ rfl ((blk2 rfl).2.1.set _) Tryz.underlying80 rfl (by kernel_rfl)) rfl ?_
  exact ⟨rfl, Grow.set (blk2 rfl).2.2 (Nat.le_succ _) _⟩
end Go.Proofs.YtlccbekalccahaaGreatDoor

namespace Go.Proofs.YtlccbekalccahaaGreatDoor
open Go.RowKit

theorem Blk.belowS {w W : World} {g B : Nat} {t : TypeId} {cs : Array Value} (h : Blk w g t cs) (hb : Below B w W) (hg : g < B) : Blk W g t cs := by rw [Blk, hb.block g hg]; exact h

/-- The numbers, each with how many bytes it has. -/
def Sc.Q (p : Sc) (wide : Bool) : List (Nat × Nat) := p.N.zip (sRow wide)
/-- The bytes. -/
def Sc.L (p : Sc) (wide big : Bool) : List UInt8 := rowB big (p.Q wide)
theorem Sc.lenN (p : Sc) : p.N.length = 10 := rfl
theorem Sc.lenQ (p : Sc) (wide : Bool) : (p.Q wide).length = 10 := by rw [Sc.Q, List.length_zip, len_sRow]; rfl
theorem Sc.fstQ (p : Sc) (wide : Bool) : (p.Q wide).map (·.1) = p.N := List.map_fst_zip (by rw [len_sRow]; exact Nat.le_refl _)
theorem Sc.sndQ (p : Sc) (wide : Bool) : (p.Q wide).map (·.2) = sRow wide := List.map_snd_zip (by rw [len_sRow]; exact Nat.le_refl _)
theorem Sc.lenL (p : Sc) (wide big : Bool) : (p.L wide big).length = sSize wide := by
  rw [Sc.L, length_rowB, ← sum_sRow, Sc.sndQ]
theorem Sc.atN (p : Sc) (ok : p.Ok) (i : Nat) : p.N.getD i 0 < 18446744073709551616 := by
  obtain ⟨k1, k2, k3, k4, k5, k6, k7, k8, k9, k10⟩ := ok
  match i with
  | 0 => show p.na < _; omega
  | 1 => show p.ty < _; omega
  | 2 => show p.fl < _; omega
  | 3 => show p.ad < _; omega
  | 4 => show p.off < _; omega
  | 5 => show p.sz < _; omega
  | 6 => show p.li < _; omega
  | 7 => show p.inf < _; omega
  | 8 => show p.al < _; omega
  | 9 => show p.en < _; omega
  | _ + 10 => show 0 < _; omega
theorem Sc.atQ (p : Sc) (wide : Bool) (k : Nat) (h : k < (p.Q wide).length) : (p.Q wide)[k].1 = p.N.getD k 0 ∧ (p.Q wide)[k].2 = sWid wide k := by
  have hk : k < 10 := by rw [p.lenQ] at h; exact h
  simp only [Sc.Q, List.getElem_zip]
  constructor
  · rw [List.getD_eq_getElem?_getD, List.getElem?_eq_getElem (by rw [p.lenN]; exact hk)]; rfl
  · rw [← sRow_at wide k hk, List.getD_eq_getElem?_getD, List.getElem?_eq_getElem (by rw [len_sRow]; exact hk)]; rfl
theorem Sc.rowed (p : Sc) (ok : p.Ok) (wide : Bool) : Rowed (p.Q wide) :=
  ⟨by rw [p.lenQ]; omega, fun k hk => by rw [(p.atQ wide k hk).2]; exact sWid_wid _ _, fun k hk => by rw [(p.atQ wide k hk).1]; exact p.atN ok _⟩

theorem makeS (wide : Bool) (w : World) : (Instr.makeSlice 35 (.int .i64 0) (.int .i64 (sSize wide : Nat))).run Tryz.prog w = .ok (.slice (some ⟨w.heap.size, 0, none⟩) 0 (sSize wide))
    (w.alloc (.cells (Array.replicate (sSize wide) (.int .u8 0)) 5)) := by cases wide <;> kernel_rfl

/-- What Put answers. -/
def SPut (p : Sc) (wide big : Bool) (w : World) (e : Ending) (w' : World) : Prop :=
  (rowF (p.Q wide) = true ∧ ∃ A c, e = .returned (.tuple #[.slice A (p.L wide big).length c, .nilIface]) ∧ OB w' w.heap.size 5 A (p.L wide big).length c (p.L wide big) ∧ Grow w w') ∨
  (rowF (p.Q wide) = false ∧ e = .returned (.tuple #[.slice none 0 0, .iface 81 (.int .i64 1)]) ∧ Grow w w')

set_option maxHeartbeats 400000 in
theorem sPut_any (p : Sc) (ok : p.Ok) (wide big : Bool) (w : World) : Calls Tryz.prog 49 #[p.V, .agg #[.bool wide, .bool big]] w (SPut p wide big w) := by
  have HR := Lib.hid (p.rowed ok wide)
  have HN := Lib.hid (fun w => sNum_any p ok w)
  have HSz := Lib.hid (fun w => sSize_any wide big w)
  have HWi := Lib.hid (fun i w => sWid_any wide big i w)
  have HLQ := Lib.hid (p.lenQ wide)
  have HMk := Lib.hid (makeS wide)
  have HSp : Hid (sSize wide ≤ 64) := by cases wide <;> exact Lib.hid (by decide)
  have HAN : Hid (∀ i, i < 10 → (u64s p.N)[i]? = some (.int .u64 (p.N.getD i 0 : Nat))) := Lib.hid (fun i hi => idx_u64s _ _ hi)
  have HAQ := Lib.hid (p.atQ wide)
  have HC1 : Hid (p.C.size = 10) := Lib.hid rfl
  unfold SPut Sc.L
  unfold Sc.V
  generalize p.Q wide = q at HR HLQ HAQ ⊢
  generalize u64s p.N = RN at HN HAN
  generalize p.N = pn at HAN HAQ
  unfold Sc.V at HN
  generalize p.C = C at HN HC1 ⊢
  generalize sSize wide = sz at HSz HMk HSp
  go_enter Tryz.func49, Tryz.ntmps49
  go_wp2_with fail
  generalize hW : World.alloc _ _ = W0
  obtain ⟨b1, bf, hg0⟩ := blk2 hW
  clear hW
  refine (HSz.out W0).mono ?_
  rintro e w1 ⟨rfl, hg1⟩
  have HB1 := Lib.hid (b1.grow hg1)
  have HBF1 := Lib.hid (bf.grow hg1)
  have HG1 : Hid (Grow w w1) := hg0.trans hg1
  clear b1 bf hg0 hg1
  have hmk := HMk.out w1
  have HB2 := Lib.hid (HB1.out.alloc (.cells (Array.replicate sz (.int .u8 0)) 5))
  go_wp2_with (refine wpList_load_row rfl 80 (.tmp 2) rfl w.heap.size rfl _ C (0, 0) _ HB2.out Tryz.underlying80 rfl (by rw [HC1.out]; kernel_rfl) ?_)
  clear hmk HMk
  refine (HN.out _).mono ?_
  rintro e w3 ⟨rfl, hg3⟩
  have HO3 := Lib.hid ((OB.room w1 w1.heap.size 5 sz (.int .u8 0) (by have := HSp.out; unfold maxLen; omega) (Nat.le_refl _)).keep hg3)
  have HBF3 := Lib.hid ((HBF1.out.alloc _).grow hg3)
  have HG3 : Hid (Grow w w3) := (HG1.out.trans (Grow.of_alloc _ _)).trans hg3
  have HD : Hid (w.heap.size + 1 < w1.heap.size) := HBF1.out.lt
  have HDs : Hid (w1.heap.size ≤ w3.heap.size) := by have := hg3.size; simp at this; exact Lib.hid (by omega)
  generalize w1.heap.size = g7 at HO3 HD HDs ⊢
  clear hg3 HG1 HBF1 HB1 HB2
  go_wp2_with fail
  go_loopw [6, 15] (fun x i wr => ∃ (k : Nat) (A : Option Addr) (c : Nat), k ≤ 10 ∧ i = .int .i64 k ∧ x = .slice A (rowB big (q.take k)).length c ∧ OB wr g7 5 A (rowB big (q.take k)).length c (rowB big (q.take k)) ∧
    Blk wr (w.heap.size + 1) 23 #[.bool wide, .bool big] ∧ rowF (q.take k) = true ∧ Grow w wr ∧ g7 ≤ wr.heap.size) (fun _ i _ => 10 - (intOf i).toNat)
  case atStart => exact ⟨0, some ⟨g7, 0, none⟩, sz, by omega, rfl, rfl, HO3.out, HBF3.out, rfl, HG3.out, HDs.out⟩
  case round =>
    obtain ⟨k, A, c, hk, rfl, rfl, ho, hbf, hrf, hg, hgs⟩ := hrel
    have HO := Lib.hid ho
    have HBF := Lib.hid hbf
    have HRF := Lib.hid hrf
    have HG := Lib.hid hg
    have HGs := Lib.hid hgs
    clear ho hbf hrf hg hgs HO3 HBF3 HG3 HDs
    by_cases hlt : k < 10
    · have hkq : k < q.length := by rw [HLQ.out]; exact hlt
      have HB := Lib.hid (rowB_succ big q k hkq)
      have HF := Lib.hid (rowF_succ q k hkq)
      have HW := Lib.hid (HR.out.wide k hkq)
      have HZ := Lib.hid (fun h => rowF_false hkq h)
      have HLE := Lib.hid (rowB_le HR.out big k (by omega))
      have hv := HR.out.lt k hkq
      have hw8 := HR.out.wide8 k hkq
      have HK1 := Lib.hid (HAN.out k hlt)
      obtain ⟨e1, e2⟩ := HAQ.out k hkq
      rw [HRF.out, Bool.true_and] at HF
      rw [← e1] at HK1
      have HW2 := Lib.hid (fun w => HWi.out k w)
      rw [← e2] at HW2
      clear e1 e2
      generalize q[k].1 = v at HB HF HZ hv HK1
      generalize q[k].2 = m at HB HF HZ HW hw8 HW2
      obtain ⟨y0, y1⟩ := HBF.out.c2
      clear hkq
      go_wp2_with (refine wpList_index rfl 185 28 (.tmp 14) (.tmp 15) rfl 10 _ Tryz.underlying185 Tryz.underlying28 rfl (by kernel_rfl) RN k (.int .u64 (v : Int)) rfl rfl hlt HK1.out ?_)
      clear y0 y1
      refine (HW2.out _).mono ?_
      rintro e w4 ⟨rfl, hg4⟩
      have HO4 := Lib.hid (HO.out.keep hg4)
      have HBF4 := Lib.hid (HBF.out.grow hg4)
      have HG4 : Hid (Grow w w4) := HG.out.trans hg4
      have HGs4 : Hid (g7 ≤ w4.heap.size) := Nat.le_trans HGs.out hg4.size
      clear hg4 HO HBF HG HGs
      go_wp2_with fail
      refine (fits_any v m _ (by omega) (by omega)).mono ?_
      rintro e w5 ⟨rfl, rfl⟩
      rw [fits_row v m HW.out]
      cases hfit : decide (v < 256 ^ m)
      · have HZ2 := Lib.hid (HZ.out hfit)
        clear hfit
        go_wp2
        go_ret2
        exact .inr ⟨HZ2.out, rfl, HG4.out⟩
      · rw [hfit] at HF
        clear hfit HZ
        obtain ⟨y0, y1⟩ := HBF4.out.c2
        go_wp2_with fail
        clear y0 y1
        refine (put_wide v m big _ HW.out (by omega)).mono ?_
        rintro e w7 ⟨A3, c3, rfl, ho3, hb3⟩
        have HO7 := Lib.hid (HO4.out.keep hb3)
        have HO3 := Lib.hid ho3
        have HBF7 := Lib.hid (HBF4.out.grow hb3)
        have HG7 : Hid (Grow w w7) := HG4.out.trans hb3
        have HGs7 : Hid (g7 ≤ w7.heap.size) := Nat.le_trans HGs4.out hb3.size
        clear ho3 hb3 HO4 HBF4 HG4 HGs4
        rw [Int.toNat_natCast] at HO3
        have HS : Hid (w.heap.size ≤ g7) := by have := HD.out; exact Lib.hid (by omega)
        go_wp2_with (refine wpList_appendB w7 rfl (.tmp 27) (.tmp 32) 35 rfl g7 5 Tryz.underlying35 (by kernel_rfl) A _ c _ rfl HO7.out w7.heap.size A3 m c3 _ rfl HO3.out.rb (by have := HLE.out; omega) HGs7.out ?_; intro A5 c5 w8 ho5 hb5)
        have HBF8 := Lib.hid (HBF7.out.belowS hb5 HD.out)
        have HG8 : Hid (Grow w w8) := HG7.out.trans' (hb5.mono HS.out)
        have HGs8 : Hid (g7 ≤ w8.heap.size) := Nat.le_trans HGs7.out hb5.size
        rw [← HB.out] at ho5
        have hm : (rowB big (q.take k)).length + m = (rowB big (q.take (k + 1))).length := by rw [HB.out, List.length_append, length_putB]
        rw [hm] at ho5 ⊢
        have HO5 := Lib.hid ho5
        clear ho5 hb5 hm HO3 HO7 HG7 HBF7 HGs7
        go_roundw
        case rel => exact ⟨k + 1, A5, c5, by omega, by go_num, rfl, HO5.out, HBF8.out, HF.out, HG8.out, HGs8.out⟩
        case measure => simp [intOf]; omega
    · have HK : Hid (q.take k = q) := by
        have e : k = q.length := by rw [HLQ.out]; omega
        rw [e]
        exact List.take_length
      rw [HK.out] at HO HRF ⊢
      have HO' := Lib.hid (HO.out.mono (base' := w.heap.size) (by have := HD.out; omega))
      go_wp2
      go_ret2
      exact .inl ⟨HRF.out, A, c, rfl, HO'.out, HG.out⟩
end Go.Proofs.YtlccbekalccahaaGreatDoor

namespace Go.Proofs.YtlccbekalccahaaGreatDoor
open Go.RowKit
set_option linter.unusedVariables false

namespace Md
variable (m : Md)
/-- The header of a model's bytes. -/
def hd : Hd := ⟨m.wide, m.big, UInt8.ofNat m.osabi, UInt8.ofNat m.abi, m.typ, m.mach, m.entry, m.phoff, m.shoff, m.flags, m.segs.length, if 0 < m.secs.length then m.secs.length + 1 else 0, m.str.toNat⟩
/-- Its program headers, its section headers. -/
def pg (k : Nat) : Pg := ⟨(m.sg k).typ, (m.sg k).flags, m.P2 k, (m.sg k).vaddr, (m.sg k).paddr, (m.sg k).pl.size, (m.sg k).memsz, (m.sg k).align⟩
def sc (k : Nat) : Sc := ⟨(m.se k).name, (m.se k).typ, (m.se k).flags, (m.se k).addr, m.P3 k, (m.se k).size, (m.se k).link, (m.se k).info, (m.se k).align, (m.se k).entsize⟩
end Md

/-- A model that may be written. -/
structure Good (m : Md) : Prop where
  ok : m.Ok
  plan : m.planC = 0
  own1 : ∀ s ∈ m.segs, s.pl.own.length ≤ maxLen
  own2 : ∀ s ∈ m.secs, s.pl.own.length ≤ maxLen
section
variable {m : Md}
theorem Good.planned (h : Good m) : Planned m := planned_of h.ok h.plan h.own1 h.own2
theorem Good.chk (h : Good m) : m.chk = 0 := by
  have := h.plan
  unfold Md.planC at this
  split at this
  · omega
  · omega
theorem Good.eT (h : Good m) : m.eT ≤ 65536 := h.planned.fits
theorem Good.n1 (h : Good m) : m.segs.length ≤ 16 := h.planned.ok.n1
theorem Good.n2 (h : Good m) : m.secs.length ≤ 64 := h.planned.ok.n2
theorem Good.fits (h : Good m) : m.fits = true := by
  have := h.chk
  unfold Md.chk at this
  split at this
  · omega
  split at this
  · omega
  · rename_i h1
    simpa using h1
theorem Good.nums (h : Good m) : ∀ v ∈ m.nums, v < 256 ^ byWide m.wide 4 8 := fun v hv => by
  have := List.all_eq_true.1 h.fits v hv
  unfold fitW at this
  simpa using this
theorem Good.entry (h : Good m) : m.entry < 256 ^ byWide m.wide 4 8 := h.nums _ (by simp [Md.nums])
theorem Good.segNum (h : Good m) {k : Nat} (hk : k < m.segs.length) : ∀ v ∈ (m.sg k).nums, v < 256 ^ byWide m.wide 4 8 := fun v hv => h.nums _ (by
  unfold Md.nums
  exact List.mem_cons_of_mem _ (List.mem_append_left _ (List.mem_flatMap.2 ⟨_, m.sg_mem hk, hv⟩)))
theorem Good.secNum (h : Good m) {k : Nat} (hk : k < m.secs.length) : ∀ v ∈ (m.se k).nums, v < 256 ^ byWide m.wide 4 8 := fun v hv => h.nums _ (by
  unfold Md.nums
  exact List.mem_cons_of_mem _ (List.mem_append_right _ (List.mem_flatMap.2 ⟨_, m.se_mem hk, hv⟩)))
theorem Good.segMay (h : Good m) {k : Nat} (hk : k < m.segs.length) : m.may (m.sg k).pl = true := Md.segC_may ((Md.chk_zero h.chk).1 _ (m.sg_mem hk))
theorem Good.secMay (h : Good m) {k : Nat} (hk : k < m.secs.length) : m.may (m.se k).pl = true ∧ (m.se k).pl.size = (m.se k).held := Md.secC_zero ((Md.chk_zero h.chk).2.2 _ (m.se_mem hk))
theorem Good.str (h : Good m) : 0 ≤ m.str ∧ m.str ≤ m.secs.length := by
  have hc := h.chk
  unfold Md.chk at hc
  split at hc
  · omega
  split at hc
  · omega
  split at hc
  · omega
  split at hc
  · omega
  · unfold Md.namesC at hc
    split at hc
    · omega
    split at hc
    · omega
    · omega
/-- What a place that may be tells: its own bytes are all, or it stands in a segment that is loaded. -/
theorem may_own_len {p : Pl} (h : m.may p = true) (hi : p.inn = -1) : p.off = 0 ∧ p.own.length = p.size := by
  rw [may_own hi] at h
  unfold Pl.ownMay at h
  simp at h
  exact ⟨h.1, h.2.symm⟩
theorem may_in_is {p : Pl} (h : m.may p = true) (hi : p.inn ≠ -1) : p.own = [] ∧ 0 < p.size ∧ ∃ i : Nat, p.inn = (i : Int) ∧ i < m.segs.length ∧ (m.sg i).typ = 1 ∧ p.off + p.size ≤ (m.sg i).pl.own.length := by
  rw [may_in hi] at h
  simp only [Bool.and_eq_true, decide_eq_true_eq] at h
  obtain ⟨⟨h1, h2⟩, h3⟩ := h
  obtain ⟨i, hi, hil⟩ := isSegN_true h1
  rw [hi, m.seg_sg] at h2 h3
  unfold Pl.inMay Pl.within at h3
  simp at h3
  exact ⟨h3.1.1, h3.1.2, i, hi, hil, h2, h3.2⟩
theorem Good.load_len (h : Good m) {k : Nat} (hk : k < m.segs.length) (ht : (m.sg k).typ = 1) : (m.sg k).pl.inn = -1 ∧ (m.sg k).pl.own.length = (m.sg k).pl.size := by
  have a := h.planned.load k hk ht
  exact ⟨a, (may_own_len (h.segMay hk) a).2⟩
/-- Where bytes stand. -/
theorem Good.seg_at (h : Good m) {k : Nat} (hk : k < m.segs.length) : m.P2 k + (m.sg k).pl.size ≤ m.eT ∧ (m.sg k).pl.own.length ≤ (m.sg k).pl.size ∧ ((m.sg k).pl.own ≠ [] → (m.sg k).pl.inn = -1) := by
  have P := h.planned
  have ho := P.order
  by_cases hi : (m.sg k).pl.inn = -1
  · have hl := (may_own_len (h.segMay hk) hi).2
    refine ⟨?_, by omega, fun _ => hi⟩
    by_cases ht : (m.sg k).typ = 1
    · have a := P.load_at hk ht
      have b := P.eL_in (k := k + 1) hk
      omega
    · have a := P.other_at hk ht hi
      have b := P.eO_in (k := k + 1) hk
      omega
  · obtain ⟨q1, q2, i, q3, q4, q5, q6⟩ := may_in_is (h.segMay hk) hi
    obtain ⟨_, i', r1, r2, r3, r4⟩ := P.seg_in hk hi
    have e : i = i' := by omega
    subst e
    have a := P.load_at q4 q5
    have b := P.eL_in (k := i + 1) q4
    have c := h.load_len q4 q5
    refine ⟨by omega, by rw [q1]; simp, fun hne => absurd q1 hne⟩
theorem Good.sec_at (h : Good m) {k : Nat} (hk : k < m.secs.length) : m.P3 k + (m.se k).pl.size ≤ m.eT ∧ (m.se k).pl.own.length ≤ (m.se k).pl.size ∧ ((m.se k).pl.own ≠ [] → (m.se k).pl.inn = -1) := by
  have P := h.planned
  have ho := P.order
  by_cases hi : (m.se k).pl.inn = -1
  · have hl := (may_own_len (h.secMay hk).1 hi).2
    refine ⟨?_, by omega, fun _ => hi⟩
    have a := P.sec_at hk hi
    have b : m.eS (k + 1) ≤ m.eS m.secs.length := mono_of (m.eS_step P.ok.n1) hk
    omega
  · obtain ⟨q1, q2, i, q3, q4, q5, q6⟩ := may_in_is (h.secMay hk).1 hi
    obtain ⟨i', r1, r2, r3, r4⟩ := P.sec_in hk hi
    have e : i = i' := by omega
    subst e
    have a := P.load_at q4 q5
    have b := P.eL_in (k := i + 1) q4
    have c := h.load_len q4 q5
    refine ⟨by omega, by rw [q1]; simp, fun hne => absurd q1 hne⟩
theorem pow48 (wide : Bool) : 4294967296 ≤ 256 ^ byWide wide 4 8 ∧ 256 ^ byWide wide 4 8 ≤ 18446744073709551616 := by cases wide <;> decide
theorem Good.phoff_le (h : Good m) : m.phoff ≤ 64 := by
  unfold Md.phoff hSize byWide
  split
  · split <;> omega
  · omega
theorem Good.shoff_le (h : Good m) : m.shoff ≤ 65536 := by
  have hf := h.eT
  unfold Md.shoff
  split
  · rename_i h0
    have e : m.eT = fin (m.eS m.secs.length) 0 8 (byWide m.wide 40 64 * (m.secs.length + 1)) := by unfold Md.eT; rw [if_pos h0]
    have hin := fin_in (e := m.eS m.secs.length) (v := 0) (a := 8) (n := byWide m.wide 40 64 * (m.secs.length + 1)) (by rw [← e]; exact hf)
    omega
  · omega
theorem u8_of (x : Nat) (h : x < 256) : (UInt8.ofNat x).toNat = x := by rw [UInt8.toNat_ofNat', Nat.mod_eq_of_lt h]
theorem Good.hdOk (h : Good m) : m.hd.Ok := by
  have h1 := h.phoff_le
  have h2 := h.shoff_le
  have h3 := h.n1
  have h4 := h.n2
  have h5 := h.str
  refine ⟨h.ok.typ, h.ok.mach, h.ok.entry, ?_, ?_, h.ok.flags, ?_, ?_, ?_⟩
  · show m.phoff < _; omega
  · show m.shoff < _; omega
  · show m.segs.length < _; omega
  · show (if 0 < m.secs.length then m.secs.length + 1 else 0) < _; split <;> omega
  · show m.str.toNat < _; omega
theorem Good.hdFits (h : Good m) : rowF m.hd.Q = true := by
  have h1 := h.phoff_le
  have h2 := h.shoff_le
  have h3 := h.n1
  have h4 := h.n2
  have h5 := h.str
  have h6 := h.entry
  have h7 := pow48 m.wide
  have ok := h.hdOk
  have k1 : hSize m.wide ≤ 64 := hSize_le _
  have k2 := ifSome_le ((m.hd.pn : Int) != 0) (byWide m.wide 32 56)
  have k3 := ifSome_le ((m.hd.sh : Int) != 0) (byWide m.wide 40 64)
  have k4 : byWide m.wide 32 56 ≤ 56 := by unfold byWide; split <;> omega
  have k5 : byWide m.wide 40 64 ≤ 64 := by unfold byWide; split <;> omega
  have e1 : (256 : Nat) ^ 2 = 65536 := by decide
  have e2 : (256 : Nat) ^ 4 = 4294967296 := by decide
  have p1 : m.hd.ph ≤ 64 := h1
  have p2 : m.hd.sh ≤ 65536 := h2
  have p3 : m.hd.en < 256 ^ byWide m.wide 4 8 := h6
  have ew : m.hd.wide = m.wide := rfl
  obtain ⟨o1, o2, o3, o4, o5, o6, o7, o8, o9⟩ := ok
  unfold Hd.Q Hd.N hRow
  rw [ew]
  generalize m.hd = H at *
  simp only [List.zip_cons_cons, List.zip_nil_right, rowF, Bool.and_true, Bool.and_eq_true, decide_eq_true_eq, e1, e2]
  generalize 256 ^ byWide m.wide 4 8 = W at *
  omega
end
end Go.Proofs.YtlccbekalccahaaGreatDoor
