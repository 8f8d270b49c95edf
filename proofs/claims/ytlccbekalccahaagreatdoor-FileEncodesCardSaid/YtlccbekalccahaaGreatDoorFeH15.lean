/-
  Several texts in one: The contract of head; The contract of head; What is told of any bytes as a header, in plain words; What was put is got, in plain words; Plain answers of layer 5, and the contracts of prog.
-/
import Derived.Test.YtlccbekalccahaaGreatDoorFeH8
import Derived.Test.YtlccbekalccahaaGreatDoorFeH13
import Derived.Test.YtlccbekalccahaaGreatDoorFeH14
import Derived.Test.YtlccbekalccahaaGreatDoorRows
import Derived.Test.YtlccbekalccahaaGreatDoorFeH2
import Derived.Test.YtlccbekalccahaaGreatDoorFeH4
import Derived.WalkKit
import Derived.Laws.ResultCell
import Derived.Lib.Hide

namespace Go.Proofs.YtlccbekalccahaaGreatDoor
open Go.RowKit

/-- The numbers, each with how many bytes it has. -/
def Hd.Q (h : Hd) : List (Nat × Nat) := h.N.zip (hRow h.wide)
/-- The bytes. -/
def Hd.L (h : Hd) : List UInt8 := idL h.wide h.big h.o h.a ++ rowB h.big h.Q
theorem Hd.lenQ (h : Hd) : h.Q.length = 13 := by simp [Hd.Q, Hd.N, hRow]
theorem Hd.rowed (h : Hd) (ok : h.Ok) : Rowed h.Q := by
  obtain ⟨k1, k2, k3, k4, k5, k6, k7, k8, k9⟩ := ok
  have s0 : hSize h.wide ≤ 64 := byWide_le _ _ _ _ (by omega) (by omega)
  have s1 := ifSome_le ((h.pn : Int) != 0) (byWide h.wide 32 56)
  have s2 := ifSome_le ((h.sh : Int) != 0) (byWide h.wide 40 64)
  have s3 : byWide h.wide 32 56 ≤ 64 := byWide_le _ _ _ _ (by omega) (by omega)
  have s4 : byWide h.wide 40 64 ≤ 64 := byWide_le _ _ _ _ (by omega) (by omega)
  have hw : wid (byWide h.wide 4 8 : Nat) = true := by cases h.wide <;> rfl
  refine ⟨by rw [h.lenQ]; omega, fun k hk => ?_, fun k hk => ?_⟩
  · rw [h.lenQ] at hk
    match k, hk with
    | 0, _ => rfl
    | 1, _ => rfl
    | 2, _ => rfl
    | 3, _ => exact hw
    | 4, _ => exact hw
    | 5, _ => exact hw
    | 6, _ => rfl
    | 7, _ => rfl
    | 8, _ => rfl
    | 9, _ => rfl
    | 10, _ => rfl
    | 11, _ => rfl
    | 12, _ => rfl
  · rw [h.lenQ] at hk
    match k, hk with
    | 0, _ => show h.ty < _; omega
    | 1, _ => show h.ma < _; omega
    | 2, _ => show 1 < _; omega
    | 3, _ => show h.en < _; omega
    | 4, _ => show h.ph < _; omega
    | 5, _ => show h.sh < _; omega
    | 6, _ => show h.fl < _; omega
    | 7, _ => show hSize h.wide < _; omega
    | 8, _ => show ifSome ((h.pn : Int) != 0) (byWide h.wide 32 56) < _; omega
    | 9, _ => show h.pn < _; omega
    | 10, _ => show ifSome ((h.sh : Int) != 0) (byWide h.wide 40 64) < _; omega
    | 11, _ => show h.sn < _; omega
    | 12, _ => show h.st < _; omega
theorem Hd.atN (h : Hd) (k : Nat) (hk : k < h.Q.length) : (u64s h.N)[k]? = some (.int .u64 (h.Q[k].1 : Int)) := by
  have hk' := hk
  rw [h.lenQ] at hk
  simp [u64s, Hd.Q, show k < h.N.length from hk]
theorem Hd.atW (h : Hd) (k : Nat) (hk : k < h.Q.length) : (i64s (hRow h.wide))[k]? = some (.int .i64 (h.Q[k].2 : Int)) := by
  have hk' := hk
  rw [h.lenQ] at hk
  simp [i64s, Hd.Q, show k < (hRow h.wide).length from hk]

/-- What Put answers. -/
def HPut (h : Hd) (w : World) (e : Ending) (w' : World) : Prop :=
  (rowF h.Q = true ∧ ∃ A c, e = .returned (.tuple #[.slice A h.L.length c, .nilIface]) ∧ OB w' w.heap.size 5 A h.L.length c h.L ∧ Grow w w') ∨
  (rowF h.Q = false ∧ e = .returned (.tuple #[.slice none 0 0, .iface 81 (.int .i64 1)]) ∧ Grow w w')

set_option maxHeartbeats 400000 in
theorem hPut_any (h : Hd) (ok : h.Ok) (w : World) : Calls Tryz.prog 43 #[h.V] w (HPut h w) := by
  have HR := Lib.hid (h.rowed ok)
  have HN := Lib.hid (fun w => numbers_any h ok w)
  have HAN := Lib.hid h.atN
  have HAW := Lib.hid h.atW
  have HSN : Hid ((u64s h.N).size = 13) := Lib.hid (by simp [u64s, Hd.N])
  have HON := Lib.hid (one_u64s h.N)
  have HI := Lib.hid (fun w => idPut_any h.wide h.big h.o h.a w)
  have HWi := Lib.hid (fun w => widths_any h.wide h.big w)
  have HLQ := Lib.hid h.lenQ
  have HL : Hid (h.L = idL h.wide h.big h.o h.a ++ rowB h.big h.Q) := Lib.hid rfl
  unfold HPut
  generalize h.L = L at HL ⊢
  generalize h.Q = q at HR HAN HAW HLQ HL ⊢
  generalize u64s h.N = RN at HN HAN HSN HON
  generalize i64s (hRow h.wide) = RW at HAW HWi
  obtain ⟨wide, big, o, a, ty, ma, en, ph, sh, fl, pn, sn, st⟩ := h
  unfold Hd.V Hd.C idV at *
  simp only [] at *
  go_enter Tryz.func43, Tryz.ntmps43
  go_wp2_with fail
  generalize hW : World.alloc _ _ = W0
  obtain ⟨b1, bf, hg0⟩ := blk2 hW
  have HB1 := Lib.hid b1
  have HBF := Lib.hid bf
  have HG0 := Lib.hid hg0
  clear hW b1 bf hg0
  refine (HI.out W0).mono ?_
  rintro e w1 ⟨rfl, ob, hw1⟩
  have hg1 : Grow W0 w1 := by rw [hw1]; exact (Grow.of_alloc _ _).trans (Grow.of_alloc _ _)
  have HBB : Hid (Blk w1 (W0.heap.size + 1) 5 ((idL wide big o a).map byt).toArray) := by
    have := Blk.new (W0.alloc ob) 5 (idC wide big o a)
    rw [show (W0.alloc ob).heap.size = W0.heap.size + 1 by simp] at this
    rw [hw1]; exact this
  have HG1 : Hid (Grow w w1) := HG0.out.trans hg1
  have hb1 := (HB1.out.grow hg1).c13
  have HBF1 := Lib.hid (HBF.out.grow hg1)
  have HG5 : Hid (w.heap.size + 1 < W0.heap.size + 1) := Nat.succ_lt_succ (Nat.lt_of_lt_of_le (Nat.lt_succ_self _) (Nat.le_of_lt HBF.out.lt))
  generalize W0.heap.size + 1 = g5 at HBB HG5 ⊢
  clear hw1 hg1 HB1 HBF HG0
  obtain ⟨x0, x1, x2, x3, x4, x5, x6, x7, x8, x9, x10, x11, x12⟩ := hb1
  go_wp2_with fail
  clear x0 x1 x2 x3 x4 x5 x6 x7 x8 x9 x10 x11 x12
  refine (HN.out w1).mono ?_
  rintro e w2 ⟨rfl, hg2⟩
  have HG2 : Hid (Grow w w2) := HG1.out.trans hg2
  have HBB2 := Lib.hid (HBB.out.grow hg2)
  have HBF2 := Lib.hid (HBF1.out.grow hg2)
  clear hg2 HG1 HBB HBF1
  obtain ⟨y0, y1⟩ := (HBF2.out.alloc (.cells RN 133)).c2
  go_wp2_with (refine wpList_store_row rfl 133 (.tmp 6) (.tmp 16) rfl w2.heap.size RN rfl rfl _ _ (Blk.new _ _ _) (by rw [HSN.out]; kernel_rfl) (by rw [HSN.out]; rfl) HON.out ?_; rw [World.setRow_alloc_new])
  clear y0 y1
  refine (HWi.out _).mono ?_
  rintro e w3 ⟨rfl, hg3⟩
  have HBN := Lib.hid ((Blk.new w2 133 RN).grow hg3)
  have HBB3 := Lib.hid ((HBB2.out.alloc _).grow hg3)
  have HBF3 := Lib.hid ((HBF2.out.alloc _).grow hg3)
  have HG3 : Hid (Grow w w3) := (HG2.out.trans (Grow.of_alloc _ _)).trans hg3
  have HG6 : Hid (g5 < w2.heap.size) := HBB2.out.lt
  generalize w2.heap.size = g6 at HBN HG6 ⊢
  clear hg3 HG2 HBB2 HBF2
  go_wp2_with fail
  have HI0 : Hid (OB w3 w.heap.size 5 (some ⟨g5, 0, none⟩) 16 16 (idL wide big o a)) := OB.of_blk HBB3.out (by have := HG5.out; omega) (by simp [idL, maxLen])
  have HD : Hid (g5 ≠ w.heap.size + 1) := by have := HG5.out; exact Lib.hid (by omega)
  have HD6 : Hid (g5 ≠ g6) := by have := HG6.out; exact Lib.hid (by omega)
  have HLL : Hid ((idL wide big o a).length = 16) := Lib.hid rfl
  generalize idL wide big o a = I at HL HI0 HLL
  clear HBB3 HI HN HWi
  go_loopw [5, 19] (fun x i wr => ∃ (k : Nat) (A : Option Addr) (c : Nat), k ≤ 13 ∧ i = .int .i64 k ∧ x = .slice A (16 + (rowB big (q.take k)).length) c ∧ OB wr w.heap.size 5 A (16 + (rowB big (q.take k)).length) c (I ++ rowB big (q.take k)) ∧
    own A ≠ some (w.heap.size + 1) ∧ own A ≠ some g6 ∧ Blk wr (w.heap.size + 1) 23 #[.bool wide, .bool big] ∧ Blk wr g6 133 RN ∧ rowF (q.take k) = true ∧ Grow w wr) (fun _ i _ => 13 - (intOf i).toNat)
  case atStart => exact ⟨0, some ⟨g5, 0, none⟩, 16, by omega, rfl, rfl, by rw [List.take_zero, rowB, List.append_nil]; exact HI0.out, fun h => HD.out (by injection h), fun h => HD6.out (by injection h), HBF3.out, HBN.out, rfl, HG3.out⟩
  case round =>
    obtain ⟨k, A, c, hk, rfl, rfl, ho, hd1, hd2, hbf, hbn, hrf, hg⟩ := hrel
    have HO := Lib.hid ho
    have HD1 := Lib.hid hd1
    have HD2 := Lib.hid hd2
    have HBF := Lib.hid hbf
    have HBN2 := Lib.hid hbn
    have HRF := Lib.hid hrf
    have HG := Lib.hid hg
    clear ho hd1 hd2 hbf hbn hrf hg HI0 HBN HBF3 HG3
    by_cases hlt : k < 13
    · have hkq : k < q.length := by rw [HLQ.out]; exact hlt
      have HB := Lib.hid (rowB_succ big q k hkq)
      have HF := Lib.hid (rowF_succ q k hkq)
      have HW := Lib.hid (HR.out.wide k hkq)
      have HZ := Lib.hid (fun h => rowF_false hkq h)
      have HLE := Lib.hid (rowB_le HR.out big k (by omega))
      have hv := HR.out.lt k hkq
      have hw8 := HR.out.wide8 k hkq
      have HK1 := Lib.hid (HAN.out k hkq)
      have HK2 := Lib.hid (HAW.out k hkq)
      rw [HRF.out, Bool.true_and] at HF
      generalize q[k].1 = v at HB HF HZ hv HK1
      generalize q[k].2 = m at HB HF HZ HW hw8 HK2
      have y1 : wr.cell? ⟨g6, k, none⟩ = some (.int .u64 (v : Int)) := (HBN2.out.at k).trans HK1.out
      have z1 : (0 : Int) ≤ (k : Int) := by omega
      have z2 : (k : Int) < 13 := by omega
      clear hkq
      go_wp2_with (refine wpList_index rfl 134 3 (.tmp 18) (.tmp 19) rfl 13 _ Tryz.underlying134 Tryz.underlying3 rfl (by kernel_rfl) RW k (.int .i64 (m : Int)) rfl rfl hlt HK2.out ?_)
      refine (fits_any v m _ (by omega) (by omega)).mono ?_
      rintro e w5 ⟨rfl, rfl⟩
      rw [fits_row v m HW.out]
      cases hfit : decide (v < 256 ^ m)
      · have HZ2 := Lib.hid (HZ.out hfit)
        clear hfit
        go_wp2
        go_ret2
        exact .inr ⟨HZ2.out, rfl, HG.out⟩
      · rw [hfit] at HF
        clear hfit HZ
        go_wp2_with fail
        clear y1
        refine wp_region_leap (leap_kept (fun j => j = w.heap.size + 1 ∨ j = g6)) [(0, true), (1, true), (2, true), (3, true), (4, true), (5, true), (6, true), (7, false), (8, false), (9, true)] (by kernel_rfl) (by kernel_rfl) (by kernel_rfl) ?_
        have HX : Hid (∀ W, Kept (fun j => j = w.heap.size + 1 ∨ j = g6) wr.drew W → (_ ∧ _) ∧ W.cell? ⟨g6, k, none⟩ = some (.int .u64 (v : Int))) := fun W hW =>
          ⟨(HBF.out.drew.kept hW (.inl rfl)).c2, ((HBN2.out.drew.kept hW (.inr rfl)).at k).trans HK1.out⟩
        have HO1 : Hid (OB wr.drew _ _ _ _ _ _) := HO.out
        have HBF1 := Lib.hid HBF.out.drew
        have HBN1 := Lib.hid HBN2.out.drew
        have HG1 : Hid (Grow w wr.drew) := HG.out.trans (Grow.of_drew _)
        generalize wr.drew = w6 at HX HO1 HBF1 HBN1 HG1 ⊢
        clear HO HBF HBN2 HG
        repeat (refine chain_take rfl (by rfl) ?_ (fun W hG => ?_) ?_; rotate_left; (obtain ⟨⟨q1, q2⟩, q3⟩ := HX.out W hG; go_simp; rfl); simp only [Act.put, List.setIfInBounds_toArray, List.set_cons_zero, List.set_cons_succ])
        clear HX
        refine chain_only rfl (by rfl) (fun K hK => ?_)
        go_simp
        refine (put_wide v m big _ HW.out (by omega)).mono ?_
        rintro e w7 ⟨A3, c3, rfl, ho3, hb3⟩
        refine hK _ _ (Kept.of_grow hb3) ?_
        clear hK K
        have HO3 := Lib.hid ho3
        have HO4 := Lib.hid (HO1.out.keep hb3)
        have HBF7 := Lib.hid (HBF1.out.grow hb3)
        have HBN7 := Lib.hid (HBN1.out.grow hb3)
        have HG7 : Hid (Grow w w7) := HG1.out.trans hb3
        clear ho3 hb3 HO1 HBF1 HBN1 HG1
        rw [Int.toNat_natCast] at HO3
        refine chain_only rfl (by rfl) (fun K hK => ?_)
        refine wp_appendS w7 (.tmp 30) (.tmp 37) 35 rfl w.heap.size 5 Tryz.underlying35 (by kernel_rfl) A _ c _ rfl HO4.out w7.heap.size A3 m c3 _ rfl HO3.out.rb (by have := HLE.out; omega) HG7.out.size ?_
        intro A5 c5 w8 ho5 hb5 hk5 hn5
        have HBF8 : Hid (Blk w8 (w.heap.size + 1) 23 #[.bool wide, .bool big]) := (hk5 _ HBF7.out.lt HD1.out).trans HBF7.out
        have HBN8 : Hid (Blk w8 g6 133 RN) := (hk5 _ HBN7.out.lt HD2.out).trans HBN7.out
        refine hK _ _ ⟨hb5.size, fun j hj hj2 => by
          rcases hj2 with rfl | rfl
          · exact hk5 _ hj HD1.out
          · exact hk5 _ hj HD2.out⟩ ?_
        clear hK K
        have HD1' : Hid (own A5 ≠ some (w.heap.size + 1)) := by
          rcases hn5 with e | e
          · rw [e]; exact HD1
          · rw [e]; have := HBF7.out.lt; exact fun h => by injection h; omega
        have HD2' : Hid (own A5 ≠ some g6) := by
          rcases hn5 with e | e
          · rw [e]; exact HD2
          · rw [e]; have := HBN7.out.lt; exact fun h => by injection h; omega
        have HG8 : Hid (Grow w w8) := HG7.out.trans' hb5
        rw [List.append_assoc, ← HB.out] at ho5
        have hm : 16 + (rowB big (q.take k)).length + m = 16 + (rowB big (q.take (k + 1))).length := by rw [HB.out, List.length_append, length_putB]; omega
        rw [hm] at ho5 ⊢
        have HO5 := Lib.hid ho5
        clear ho5 hb5 hk5 hn5 hm HO3 HO4 HG7 HBF7 HBN7
        repeat (refine chain_take rfl (by rfl) ?_ (fun W hG => ?_) ?_; rotate_left; (go_simp; rfl); simp only [Act.put, List.setIfInBounds_toArray, List.set_cons_zero, List.set_cons_succ])
        refine chain_done ?_
        go_wp2
        go_roundw
        case rel => exact ⟨k + 1, A5, c5, by omega, by go_num, rfl, HO5.out, HD1'.out, HD2'.out, HBF8.out, HBN8.out, HF.out, HG8.out⟩
        case measure => simp [intOf]; omega
    · have HK : Hid (q.take k = q) := by
        have e : k = q.length := by rw [HLQ.out]; omega
        rw [e]
        exact List.take_length
      rw [HK.out] at HO HRF ⊢
      have HE : Hid (16 + (rowB big q).length = L.length) := by
        have := HLL.out
        rw [HL.out, List.length_append, this]
        exact Lib.hid rfl
      rw [HE.out, ← HL.out] at HO
      rw [HE.out]
      go_wp2
      go_ret2
      exact .inl ⟨HRF.out, A, c, rfl, HO.out, HG.out⟩
end Go.Proofs.YtlccbekalccahaaGreatDoor

namespace Go.Proofs.YtlccbekalccahaaGreatDoor
open Go.RowKit
set_option maxRecDepth 100000

/-- Where each number stands. -/
def hPl (wide : Bool) : List Nat := (List.range 13).map fun k => 16 + sumN ((hRow wide).take k)
theorem hPl_at (wide : Bool) (k : Nat) (h : k < 13) : (hPl wide)[k]? = some (16 + sumN ((hRow wide).take k)) := by simp [hPl, h]
theorem sum_hRow (wide : Bool) : 16 + sumN (hRow wide) = hSize wide := by cases wide <;> rfl
theorem len_hRow (wide : Bool) : (hRow wide).length = 13 := rfl
theorem wid_hRow (wide : Bool) (k : Nat) (h : k < (hRow wide).length) : wid ((hRow wide)[k] : Nat) = true := by
  have hw : wid (byWide wide 4 8 : Nat) = true := by cases wide <;> rfl
  match k, h with
  | 0, _ => rfl
  | 1, _ => rfl
  | 2, _ => rfl
  | 3, _ => exact hw
  | 4, _ => exact hw
  | 5, _ => exact hw
  | 6, _ => rfl
  | 7, _ => rfl
  | 8, _ => rfl
  | 9, _ => rfl
  | 10, _ => rfl
  | 11, _ => rfl
  | 12, _ => rfl

set_option maxHeartbeats 400000 in
theorem hRead_any (A : Option Addr) (len c : Nat) (l : List UInt8) (wide big : Bool) (w : World) (h : RB w w.heap.size A len c l) (hlen : hSize wide ≤ l.length) :
    Calls Tryz.prog 60 #[.slice A len c, .agg #[.bool wide, .bool big]] w fun e w' =>
      e = .returned (.tuple #[.agg (u64s (nums l big 16 (hRow wide))), .agg (i64s (hPl wide))]) ∧ Grow w w' := by
  have HWi := Lib.hid (fun w => widths_any wide big w)
  have HR := Lib.hid h
  have HLEN := Lib.hid hlen
  have HWW := Lib.hid (wid_hRow wide)
  have HNA := Lib.hid (nums_at l big (hRow wide) 16)
  have HPA := Lib.hid (hPl_at wide)
  have HLN : Hid ((nums l big 16 (hRow wide)).length = 13) := Lib.hid (length_nums _ _ _ _)
  have HLP : Hid ((hPl wide).length = 13) := Lib.hid (by simp [hPl])
  have HSL := Lib.hid (sum_hRow wide)
  have HAW : Hid (∀ k (h : k < (hRow wide).length), (i64s (hRow wide))[k]? = some (.int .i64 ((hRow wide)[k] : Int))) := Lib.hid (fun k h => by simp [i64s, h])
  generalize i64s (hRow wide) = RW at HWi HAW
  have HRL : Hid ((hRow wide).length = 13) := Lib.hid rfl
  have HMX := Lib.hid h.max
  have HLen := Lib.hid h.len
  have hcp := h.cap
  have hmx := h.max
  unfold maxLen at hmx
  generalize nums l big 16 (hRow wide) = vs at HNA HLN ⊢
  generalize hPl wide = ps at HPA HLP ⊢
  generalize hRow wide = ns at HWW HNA HPA HSL HAW HRL
  clear h hlen
  go_enter Tryz.func60, Tryz.ntmps60
  go_wp2_with fail
  generalize hW : World.alloc _ _ = W0
  obtain ⟨bf, bv, bp, hg0⟩ := blk3 hW
  clear hW
  refine (HWi.out _).mono ?_
  rintro e w1 ⟨rfl, hg1⟩
  have HBF := Lib.hid (bf.grow hg1)
  have HV := Lib.hid ((bv.grow hg1).row (f := laidTo .u64 vs 0) (fun i hi => by
    rw [show (#[.int .u64 0, .int .u64 0, .int .u64 0, .int .u64 0, .int .u64 0, .int .u64 0, .int .u64 0, .int .u64 0, .int .u64 0, .int .u64 0, .int .u64 0, .int .u64 0, .int .u64 0] : Array Value) = Array.replicate 13 (.int .u64 0) from rfl]
    have hi' : i < 13 := hi
    simp [laidTo, hi']))
  have HP := Lib.hid ((bp.grow hg1).row (f := laidTo .i64 ps 0) (fun i hi => by
    rw [show (#[.int .i64 0, .int .i64 0, .int .i64 0, .int .i64 0, .int .i64 0, .int .i64 0, .int .i64 0, .int .i64 0, .int .i64 0, .int .i64 0, .int .i64 0, .int .i64 0, .int .i64 0] : Array Value) = Array.replicate 13 (.int .i64 0) from rfl]
    have hi' : i < 13 := hi
    simp [laidTo, hi']))
  have HG1 : Hid (Grow w w1) := hg0.trans hg1
  have HS0 : Hid (w.heap.size ≤ w.heap.size) := Nat.le_refl _
  clear bf bv bp hg0 hg1
  generalize hS : w.heap.size = S at HBF HV HP HS0 ⊢
  have HS := Lib.hid hS
  clear hS
  go_wp2_with fail
  go_loopw [6, 11] (fun x i wr => ∃ (k at' : Nat), k ≤ 13 ∧ i = .int .i64 k ∧ x = .int .i64 at' ∧ at' = 16 + sumN (ns.take k) ∧ wr.rowIs (S + 1) 133 13 (laidTo .u64 vs k) ∧ wr.rowIs (S + 1 + 1) 134 13 (laidTo .i64 ps k) ∧
    Blk wr S 23 #[.bool wide, .bool big] ∧ Grow w wr) (fun _ i _ => 13 - (intOf i).toNat)
  case atStart => exact ⟨0, 16, by omega, rfl, rfl, rfl, HV.out, HP.out, HBF.out, HG1.out⟩
  case round =>
    obtain ⟨k, at', hk, rfl, rfl, ha, hv, hp, hbf, hg⟩ := hrel
    by_cases hlt : k < 13
    · have hkn : k < ns.length := by rw [HRL.out]; exact hlt
      have HA := Lib.hid ha
      have HV1 := Lib.hid hv
      have HP1 := Lib.hid hp
      have HBF1 := Lib.hid hbf
      have HG := Lib.hid hg
      have HNk := Lib.hid (HNA.out k hkn)
      have HPk := Lib.hid (HPA.out k hlt)
      have HWk := Lib.hid (HWW.out k hkn)
      have HAk := Lib.hid (HAW.out k hkn)
      have HU := Lib.hid (sumN_succ ns k hkn)
      have hle : at' + ns[k] ≤ len := by
        have e1 := sumN_le ns (k + 1)
        rw [sumN_succ ns k hkn] at e1
        have e2 := HSL.out
        have e3 := HLEN.out
        have e4 := HLen.out
        omega
      rw [← ha] at HNk HPk
      have hw8 : ns[k] ≤ 8 := by have := wid_cases HWk.out; omega
      generalize ns[k] = m at HNk HWk HAk HU hle hw8
      have z1 : IntKind.u64.wrap (at' : Int) = (at' : Int) := by rw [IntKind.wrap_u64]; omega
      obtain ⟨q1, q2⟩ := hbf.c2
      have HRr : Hid (RB wr w.heap.size A len c l) := HR.out.belowAt hg (Nat.le_refl _)
      clear ha hv hp hbf hkn hg
      go_wp2_with (refine wpList_index rfl 134 3 (.tmp 10) (.tmp 11) rfl 13 _ Tryz.underlying134 Tryz.underlying3 rfl (by kernel_rfl) RW k (.int .i64 (m : Int)) rfl rfl hlt HAk.out ?_)
      refine (get_any A len c l _ at' m big _ HRr.out (by omega)).mono ?_
      rintro e w2 ⟨rfl, j, hw2⟩
      have hgb : gotB l at' m = true := by
        simp only [gotB, HWk.out, Bool.true_and, wthn]
        exact decide_eq_true (by have := HLen.out; omega)
      have hgv : gotV l at' m big = getB ((l.drop at').take m) big := by
        simp only [gotV, hgb, if_true, Int.toNat_natCast]
      rw [hgb, hgv]
      generalize getB ((l.drop at').take m) big = v at HNk ⊢
      have HV2 : Hid (w2.rowIs (S + 1) 133 13 (laidTo .u64 vs k)) := by rw [hw2]; exact HV1.out
      have HP2 : Hid (w2.rowIs (S + 1 + 1) 134 13 (laidTo .i64 ps k)) := by rw [hw2]; exact HP1.out
      have HBF2 : Hid (Blk w2 S 23 #[.bool wide, .bool big]) := by rw [hw2]; exact HBF1.out
      have HG2 : Hid (Grow w w2) := by rw [hw2]; exact HG.out.trans (Grow.of_drewN _ _)
      have c1 := HV2.out.cell hlt
      have f1 := HV2.out.frozen k
      have HV3 := Lib.hid (HV2.out.set k (.int .u64 (v : Int)))
      have HP3 := Lib.hid (HP2.out.setOther (a := ⟨S + 1, k, none⟩) (show S + 1 + 1 ≠ S + 1 by omega) (.int .u64 (v : Int)))
      have HP4 := Lib.hid (HP3.out.set k (.int .i64 (at' : Int)))
      have HV4 := Lib.hid (HV3.out.setOther (a := ⟨S + 1 + 1, k, none⟩) (show S + 1 ≠ S + 1 + 1 by omega) (.int .i64 (at' : Int)))
      have c2 := HP3.out.cell hlt
      have f2 := HP3.out.frozen k
      clear z1 q1 q2 hgb hgv hw2 HV1 HP1 HBF1 HG HRr
      have z1 : (0 : Int) ≤ (k : Int) := by omega
      have z2 : (k : Int) < 13 := by omega
      go_wp2_with fail
      go_roundw
      case rel => exact ⟨k + 1, at' + m, by omega, by go_num, by go_num, by rw [HU.out, HA.out]; omega, HV4.out.congr fun j _ => laidTo_succ HNk.out j, HP4.out.congr fun j _ => laidTo_succ HPk.out j,
        (HBF2.out.cellset (show S ≠ S + 1 by omega) _).cellset (show S ≠ S + 1 + 1 by omega) _, Grow.cellset (Grow.cellset HG2.out (by have := HS.out; omega) _ _) (by have := HS.out; omega) _ _⟩
      case measure => simp [intOf]; omega
    · have e : k = 13 := by omega
      rw [e] at hv hp
      have HV1 := Lib.hid (blk_of_rowIs hv HLN.out)
      have HP1 := Lib.hid (blk_of_rowIs hp HLP.out)
      have HG := Lib.hid hg
      have HS1 : Hid ((u64s vs).size = 13) := Lib.hid (by simp [u64s, HLN.out])
      have HS2 : Hid ((i64s ps).size = 13) := Lib.hid (by simp [i64s, HLP.out])
      have HO1 := Lib.hid (one_u64s vs)
      have HO2 := Lib.hid (one_i64s ps)
      have HV2 : Hid (Blk wr (S + 1) 133 (u64s vs)) := HV1.out
      have HP2 : Hid (Blk wr (S + 1 + 1) 134 (i64s ps)) := HP1.out
      generalize hRv : u64s vs = Rv at HV2 HS1 HO1 ⊢
      generalize hRp : i64s ps = Rp at HP2 HS2 HO2 ⊢
      have HRv := Lib.hid hRv
      have HRp := Lib.hid hRp
      clear hRv hRp hv hp hbf hg HV1 HP1 ha
      go_wp2_with fail
      refine wp_region_leap leap_eq [(0, true), (1, true), (2, false), (3, false)] (by kernel_rfl) (by kernel_rfl) (by kernel_rfl) ?_
      have HG3 : Hid (Grow w wr.drew) := HG.out.trans (Grow.of_drew _)
      have HV3 : Hid (Blk wr.drew (S + 1) 133 Rv) := HV2.out
      have HP3 : Hid (Blk wr.drew (S + 1 + 1) 134 Rp) := HP2.out
      generalize wr.drew = w3 at HG3 HV3 HP3 ⊢
      clear HV2 HP2 HG
      refine chain_take rfl (by rfl) (.agg Rv) (fun W hW => ?_) ?_
      · subst hW; exact HV3.out.exec 133 (.tmp 4) rfl rfl _ Tryz.underlying133 rfl (by rw [HS1.out]; kernel_rfl)
      refine chain_take rfl (by rfl) (.agg Rp) (fun W hW => ?_) ?_
      · subst hW; exact HP3.out.exec 134 (.tmp 5) rfl rfl _ Tryz.underlying134 rfl (by rw [HS2.out]; kernel_rfl)
      simp only [Act.put, List.setIfInBounds_toArray, List.set_cons_zero, List.set_cons_succ]
      refine chain_only rfl (by rfl) (fun K hK => ?_)
      refine wp_store_row 133 (.tmp 4) (.tmp 34) rfl (S + 1) Rv rfl rfl _ _ HV3.out (by rw [HS1.out]; kernel_rfl) rfl HO1.out ?_
      refine hK _ _ HV3.out.same ?_
      clear hK K
      rw [HV3.out.same]
      refine chain_only rfl (by rfl) (fun K hK => ?_)
      refine wp_store_row 134 (.tmp 5) (.tmp 35) rfl (S + 1 + 1) Rp rfl rfl _ _ HP3.out (by rw [HS2.out]; kernel_rfl) rfl HO2.out ?_
      refine hK _ _ HP3.out.same ?_
      clear hK K
      rw [HP3.out.same]
      refine chain_done ?_
      go_wp2
      refine bodyPost_ret (results_cell2 rfl _ _ (S + 1) (S + 1 + 1) (.agg Rv) (.agg Rp) rfl rfl (HV3.out.var _ _ Tryz.underlying133 rfl (by rw [HS1.out]; kernel_rfl)) (HP3.out.var _ _ Tryz.underlying134 rfl (by rw [HS2.out]; kernel_rfl))) rfl ?_
      exact ⟨by rw [HRv.out, HRp.out], HG3.out⟩
end Go.Proofs.YtlccbekalccahaaGreatDoor

namespace Go.Proofs.YtlccbekalccahaaGreatDoor
open Go.RowKit
set_option maxRecDepth 100000

def lWide (l : List UInt8) : Bool := l.getD 4 0 == 2
def lBig (l : List UInt8) : Bool := l.getD 5 0 == 2
/-- The thirteen numbers. -/
def hdX (l : List UInt8) : List Nat := nums l (lBig l) 16 (hRow (lWide l))
/-- The header that has them. -/
def hdOf (l : List UInt8) : Hd := ⟨lWide l, lBig l, l.getD 7 0, l.getD 8 0, (hdX l).getD 0 0, (hdX l).getD 1 0, (hdX l).getD 3 0, (hdX l).getD 4 0, (hdX l).getD 5 0, (hdX l).getD 6 0, (hdX l).getD 9 0, (hdX l).getD 11 0, (hdX l).getD 12 0⟩
/-- Number k is another one than it should be. -/
def HBad (l : List UInt8) (k : Nat) : Prop := (hdX l).getD k 0 ≠ (hdOf l).N.getD k 0 ∧ mayAny k (hdOf l).pn (hdOf l).sh = false
/-- The code and the place, behind what the file begins with. -/
def hdTold (l : List UInt8) (c p : Nat) : Prop :=
  (l.length < hSize (lWide l) ∧ c = 2 ∧ p = l.length) ∨ (hSize (lWide l) ≤ l.length ∧ (∀ j, j < 13 → ¬ HBad l j) ∧ c = 0 ∧ p = 0) ∨
  (hSize (lWide l) ≤ l.length ∧ c = 4 ∧ ∃ k, k < 13 ∧ (∀ j, j < k → ¬ HBad l j) ∧ HBad l k ∧ p = 16 + sumN ((hRow (lWide l)).take k))
def HTold (l : List UInt8) (c p : Nat) (v : Value) : Prop :=
  (c ≠ 0 ∧ Told l c p ∧ v = hd0.V) ∨ (Told l 0 0 ∧ hdTold l c p ∧ v = if c = 0 then (hdOf l).V else hd0.V)

theorem hdTold.one {l : List UInt8} {c p c' p' : Nat} (h : hdTold l c p) (h' : hdTold l c' p') : c = c' ∧ p = p' := by
  rcases h with ⟨h1, rfl, rfl⟩ | ⟨h1, h2, rfl, rfl⟩ | ⟨h1, rfl, k, hk, h2, h3, rfl⟩ <;> rcases h' with ⟨g1, rfl, rfl⟩ | ⟨g1, g2, rfl, rfl⟩ | ⟨g1, rfl, k', hk', g2, g3, rfl⟩
  · exact ⟨rfl, rfl⟩
  · omega
  · omega
  · omega
  · exact ⟨rfl, rfl⟩
  · exact absurd g3 (h2 _ hk')
  · omega
  · exact absurd h3 (g2 _ hk)
  · refine ⟨rfl, ?_⟩
    rcases Nat.lt_trichotomy k k' with e | e | e
    · exact absurd h3 (g2 _ e)
    · rw [e]
    · exact absurd g3 (h2 _ e)
theorem HTold.one {l : List UInt8} {c p c' p' : Nat} {v v' : Value} (h : HTold l c p v) (h' : HTold l c' p' v') : c = c' ∧ p = p' ∧ v = v' := by
  rcases h with ⟨h1, h2, rfl⟩ | ⟨h1, h2, rfl⟩ <;> rcases h' with ⟨g1, g2, rfl⟩ | ⟨g1, g2, rfl⟩
  · obtain ⟨rfl, rfl⟩ := h2.one g2
    exact ⟨rfl, rfl, rfl⟩
  · exact absurd (h2.one g1).1 h1
  · exact absurd (g2.one h1).1 g1
  · obtain ⟨rfl, rfl⟩ := h2.one g2
    exact ⟨rfl, rfl, rfl⟩

theorem hdX_len (l : List UInt8) : (hdX l).length = 13 := length_nums _ _ _ _
theorem hdX_lt (l : List UInt8) (k : Nat) (h : k < 13) : (hdX l).getD k 0 < 256 ^ ((hRow (lWide l)).getD k 0) := by
  have h1 : k < (nums l (lBig l) 16 (hRow (lWide l))).length := by rw [length_nums]; exact h
  have := nums_lt l (lBig l) (hRow (lWide l)) 16 k h1
  rw [hdX, List.getD_eq_getElem?_getD, List.getElem?_eq_getElem h1]
  exact this
theorem hdX_64 (l : List UInt8) (k : Nat) : (hdX l).getD k 0 < 18446744073709551616 := by
  by_cases hk : k < 13
  · have h := hdX_lt l k hk
    match k, hk with
    | 0, _ => exact Nat.lt_of_lt_of_le h (show 256 ^ 2 ≤ 18446744073709551616 by decide)
    | 1, _ => exact Nat.lt_of_lt_of_le h (show 256 ^ 2 ≤ 18446744073709551616 by decide)
    | 2, _ => exact Nat.lt_of_lt_of_le h (show 256 ^ 4 ≤ 18446744073709551616 by decide)
    | 3, _ => exact byWide_pow _ _ h
    | 4, _ => exact byWide_pow _ _ h
    | 5, _ => exact byWide_pow _ _ h
    | 6, _ => exact Nat.lt_of_lt_of_le h (show 256 ^ 4 ≤ 18446744073709551616 by decide)
    | 7, _ => exact Nat.lt_of_lt_of_le h (show 256 ^ 2 ≤ 18446744073709551616 by decide)
    | 8, _ => exact Nat.lt_of_lt_of_le h (show 256 ^ 2 ≤ 18446744073709551616 by decide)
    | 9, _ => exact Nat.lt_of_lt_of_le h (show 256 ^ 2 ≤ 18446744073709551616 by decide)
    | 10, _ => exact Nat.lt_of_lt_of_le h (show 256 ^ 2 ≤ 18446744073709551616 by decide)
    | 11, _ => exact Nat.lt_of_lt_of_le h (show 256 ^ 2 ≤ 18446744073709551616 by decide)
    | 12, _ => exact Nat.lt_of_lt_of_le h (show 256 ^ 2 ≤ 18446744073709551616 by decide)
  · rw [List.getD_eq_getElem?_getD, List.getElem?_eq_none (by rw [hdX_len]; omega)]
    decide
theorem hdOf_ok (l : List UInt8) : (hdOf l).Ok :=
  ⟨hdX_lt l 0 (by decide), hdX_lt l 1 (by decide), hdX_64 l 3, hdX_64 l 4, hdX_64 l 5, hdX_lt l 6 (by decide), hdX_lt l 9 (by decide), hdX_lt l 11 (by decide), hdX_lt l 12 (by decide)⟩

/-- With the numbers as letters. -/
theorem hdOf_eq {l : List UInt8} {x0 x1 x2 x3 x4 x5 x6 x7 x8 x9 x10 x11 x12 : Nat} (h : hdX l = [x0, x1, x2, x3, x4, x5, x6, x7, x8, x9, x10, x11, x12]) :
    hdOf l = ⟨lWide l, lBig l, l.getD 7 0, l.getD 8 0, x0, x1, x3, x4, x5, x6, x9, x11, x12⟩ := by
  unfold hdOf; rw [h]; rfl
theorem hbad_iff {l : List UInt8} {x0 x1 x2 x3 x4 x5 x6 x7 x8 x9 x10 x11 x12 : Nat} (h : hdX l = [x0, x1, x2, x3, x4, x5, x6, x7, x8, x9, x10, x11, x12]) (k : Nat) (hk : k < 13) :
    HBad l k ↔ (k = 2 ∧ x2 ≠ 1) ∨ (k = 7 ∧ x7 ≠ hSize (lWide l)) ∨ (k = 8 ∧ x9 ≠ 0 ∧ x8 ≠ byWide (lWide l) 32 56) ∨ (k = 10 ∧ x5 ≠ 0 ∧ x10 ≠ byWide (lWide l) 40 64) := by
  unfold HBad
  rw [hdOf_eq h, h]
  match k, hk with
  | 0, _ => simp [Hd.N]
  | 1, _ => simp [Hd.N]
  | 2, _ => simp [Hd.N, mayAny]
  | 3, _ => simp [Hd.N]
  | 4, _ => simp [Hd.N]
  | 5, _ => simp [Hd.N]
  | 6, _ => simp [Hd.N]
  | 7, _ => simp [Hd.N, mayAny]
  | 8, _ =>
    by_cases e : x9 = 0
    · simp [Hd.N, mayAny, e]
    · simp [Hd.N, mayAny, e, ifSome]
  | 9, _ => simp [Hd.N]
  | 10, _ =>
    by_cases e : x5 = 0
    · simp [Hd.N, mayAny, e]
    · simp [Hd.N, mayAny, e, ifSome]
  | 11, _ => simp [Hd.N]
  | 12, _ => simp [Hd.N]

theorem idOf_zero (l : List UInt8) : idOf l 0 = idV (lWide l) (lBig l) (l.getD 7 0) (l.getD 8 0) := by rw [idOf, if_pos rfl]; rfl
theorem idOf_bad (l : List UInt8) {c : Nat} (h : c ≠ 0) : idOf l c = idV false false 0 0 := by rw [idOf, if_neg h]
theorem hdTold.le {l : List UInt8} {c p : Nat} (h : hdTold l c p) : c ≤ 4 ∧ p ≤ l.length + 64 := by
  rcases h with ⟨h1, rfl, rfl⟩ | ⟨h1, h2, rfl, rfl⟩ | ⟨h1, rfl, k, hk, h2, h3, rfl⟩
  · omega
  · omega
  · have e1 := sumN_le (hRow (lWide l)) k
    have e2 := sum_hRow (lWide l)
    have e3 : hSize (lWide l) ≤ 64 := by cases lWide l <;> decide
    omega
end Go.Proofs.YtlccbekalccahaaGreatDoor

namespace Go.Proofs.YtlccbekalccahaaGreatDoor
open Go.RowKit

theorem Hd.lenL (h : Hd) : h.L.length = hSize h.wide := by
  rw [Hd.L, List.length_append, length_rowB, ← sum_hRow h.wide]
  rfl

theorem getD_append (l r : List UInt8) (k : Nat) (hk : k < l.length) : (l ++ r).getD k 0 = l.getD k 0 := by
  rw [List.getD_eq_getElem?_getD, List.getD_eq_getElem?_getD, List.getElem?_append_left hk]
theorem wide_idL (wide big : Bool) (o a : UInt8) (r : List UInt8) : lWide (idL wide big o a ++ r) = wide := by cases wide <;> rfl
theorem big_idL (wide big : Bool) (o a : UInt8) (r : List UInt8) : lBig (idL wide big o a ++ r) = big := by cases big <;> rfl
theorem clean_idL (wide big : Bool) (o a : UInt8) (r : List UInt8) : Clean (idL wide big o a ++ r) 7 := clean_of fun j hj hlt => by
  rw [List.getElem_append_left (by simp [idL]; omega), List.getD_eq_getElem?_getD, List.getElem?_eq_getElem (by simp [idL]; omega)]
  rfl

/-- The numbers of bytes that were put. -/
theorem hdX_put (h : Hd) (hf : rowF h.Q = true) (r : List UInt8) : hdX (h.L ++ r) = h.N := by
  have e := nums_rowB h.big r h.Q (idL h.wide h.big h.o h.a) hf
  unfold hdX
  rw [Hd.L, List.append_assoc, wide_idL, big_idL, ← List.append_assoc]
  exact e
theorem hdOf_put (h : Hd) (hf : rowF h.Q = true) (r : List UInt8) : hdOf (h.L ++ r) = h := by
  have e := hdX_put h hf r
  unfold hdOf
  rw [e, Hd.L, List.append_assoc, wide_idL, big_idL]
  rfl

theorem put_told (h : Hd) (hf : rowF h.Q = true) (r : List UInt8) : HTold (h.L ++ r) 0 0 h.V := by
  have e1 := hdX_put h hf r
  have e2 := hdOf_put h hf r
  have hl := h.lenL
  have hs : lWide (h.L ++ r) = h.wide := by rw [Hd.L, List.append_assoc, wide_idL]
  have h16 : 16 ≤ hSize h.wide := by cases h.wide <;> decide
  have ht : Told (h.L ++ r) 0 0 := .inl ⟨rfl, rfl, by rw [Hd.L, List.append_assoc]; exact clean_idL _ _ _ _ _, by rw [List.length_append]; omega⟩
  refine .inr ⟨ht, .inr (.inl ⟨by rw [hs, List.length_append]; omega, fun j _ hb => ?_, rfl, rfl⟩), by rw [e2]; rfl⟩
  unfold HBad at hb
  rw [e1, e2] at hb
  exact hb.1 rfl

theorem take_split (h : Hd) (k : Nat) (hk : 16 ≤ k) : h.L.take k = idL h.wide h.big h.o h.a ++ (rowB h.big h.Q).take (k - 16) := by
  rw [Hd.L, List.take_append]
  rw [List.take_of_length_le (by simp [idL]; omega)]
  rfl

theorem cut_told (h : Hd) (k : Nat) (hk : k < h.L.length) : HTold (h.L.take k) 2 k hd0.V := by
  have hl : (h.L.take k).length = k := by simp; omega
  by_cases h16 : k < 16
  · refine .inl ⟨by omega, .inr (.inl ⟨rfl, hl.symm, clean_of (wide := h.wide) (big := h.big) (o := h.o) (a := h.a) fun j hj hlt => ?_, by omega⟩), rfl⟩
    rw [List.getElem_take]
    simp only [Hd.L]
    rw [List.getElem_append_left (by simp [idL]; omega), List.getD_eq_getElem?_getD, List.getElem?_eq_getElem (by simp [idL]; omega)]
    rfl
  · have e := take_split h k (by omega)
    have hs : lWide (h.L.take k) = h.wide := by rw [e, wide_idL]
    have ht : Told (h.L.take k) 0 0 := .inl ⟨rfl, rfl, by rw [e]; exact clean_idL _ _ _ _ _, by omega⟩
    exact .inr ⟨ht, .inl ⟨by rw [hs, ← h.lenL, hl]; exact hk, rfl, hl.symm⟩, by rw [if_neg (by omega)]⟩

theorem wide_fits (h : Hd) (ok : h.Ok) (hw : h.wide = true) : rowF h.Q = true := by
  obtain ⟨wide, big, o, a, ty, ma, en, ph, sh, fl, pn, sn, st⟩ := h
  obtain ⟨k1, k2, k3, k4, k5, k6, k7, k8, k9⟩ := ok
  simp only [] at *
  subst hw
  have s1 := ifSome_le ((pn : Int) != 0) (byWide true 32 56)
  have s2 := ifSome_le ((sh : Int) != 0) (byWide true 40 64)
  have s3 : byWide true 32 56 = 56 := rfl
  have s4 : byWide true 40 64 = 64 := rfl
  have s5 : hSize true = 64 := rfl
  have s6 : byWide true 4 8 = 8 := rfl
  simp only [Hd.Q, Hd.N, hRow, List.zip_cons_cons, List.zip_nil_right, rowF, Bool.and_true, Bool.and_eq_true, decide_eq_true_eq, s5, s6]
  omega
end Go.Proofs.YtlccbekalccahaaGreatDoor

namespace Go.Proofs.YtlccbekalccahaaGreatDoor
open Go.RowKit

/-- A program header. -/
structure Pg where
  ty : Nat
  fl : Nat
  off : Nat
  va : Nat
  pa : Nat
  fs : Nat
  ms : Nat
  al : Nat
/-- Its fields have the sizes of their types. -/
structure Pg.Ok (p : Pg) : Prop where
  ty : p.ty < 4294967296
  fl : p.fl < 4294967296
  off : p.off < 18446744073709551616
  va : p.va < 18446744073709551616
  pa : p.pa < 18446744073709551616
  fs : p.fs < 18446744073709551616
  ms : p.ms < 18446744073709551616
  al : p.al < 18446744073709551616

def Pg.C (p : Pg) : Array Value := #[.int .u32 (p.ty : Int), .int .u32 (p.fl : Int), .int .u64 (p.off : Int), .int .u64 (p.va : Int), .int .u64 (p.pa : Int), .int .u64 (p.fs : Int), .int .u64 (p.ms : Int), .int .u64 (p.al : Int)]
def Pg.V (p : Pg) : Value := .agg p.C
def pg0 : Pg := ⟨0, 0, 0, 0, 0, 0, 0, 0⟩
/-- Its numbers, as they are named. -/
def Pg.N (p : Pg) : List Nat := [p.ty, p.fl, p.off, p.va, p.pa, p.fs, p.ms, p.al]
/-- How many bytes it has. -/
def pSize (wide : Bool) : Nat := byWide wide 32 56
/-- Which numbers stand behind one another. -/
def pOrd (wide : Bool) : List Nat := if wide then [0, 1, 2, 3, 4, 5, 6, 7] else [0, 2, 3, 4, 5, 6, 1, 7]
/-- How many bytes a number has. -/
def pWid (wide : Bool) (i : Nat) : Nat := if wide && ((i : Int) != 0) && ((i : Int) != 1) then 8 else 4
def pRow (wide : Bool) : List Nat := (pOrd wide).map (pWid wide)
theorem Pg.one (p : Pg) : p.C.all (·.oneCell') = true := by simp [Pg.C, Value.oneCell']
theorem len_pOrd (wide : Bool) : (pOrd wide).length = 8 := by cases wide <;> rfl
theorem len_pRow (wide : Bool) : (pRow wide).length = 8 := by cases wide <;> rfl
theorem sum_pRow (wide : Bool) : sumN (pRow wide) = pSize wide := by cases wide <;> rfl
theorem pOrd_lt (wide : Bool) (k : Nat) (h : k < 8) : (pOrd wide).getD k 0 < 8 := by
  cases wide <;> (match k, h with
    | 0, _ => decide
    | 1, _ => decide
    | 2, _ => decide
    | 3, _ => decide
    | 4, _ => decide
    | 5, _ => decide
    | 6, _ => decide
    | 7, _ => decide)
theorem pWid_wid (wide : Bool) (i : Nat) : wid (pWid wide i : Nat) = true := by
  unfold pWid
  split <;> rfl

theorem pSize_any (wide big : Bool) (w : World) : Calls Tryz.prog 48 #[.agg #[.bool wide, .bool big]] w fun e w' => e = .returned (.int .i64 (pSize wide : Nat)) ∧ Grow w w' := by
  cases wide
  · go_enter Tryz.func48, Tryz.ntmps48
    go_wp2
    go_ret
    exact ⟨rfl, Grow.of_alloc _ _⟩
  · go_enter Tryz.func48, Tryz.ntmps48
    go_wp2
    go_ret
    exact ⟨rfl, Grow.of_alloc _ _⟩

theorem pWid_any (wide big : Bool) (i : Nat) (w : World) : Calls Tryz.prog 98 #[.int .i64 i, .agg #[.bool wide, .bool big]] w fun e w' => e = .returned (.int .i64 (pWid wide i : Nat)) ∧ Grow w w' := by
  unfold pWid
  cases wide
  · go_enter Tryz.func98, Tryz.ntmps98
    go_wp2
    go_ret
    exact ⟨rfl, Grow.of_alloc _ _⟩
  · cases h0 : ((i : Int) != 0)
    · go_enter Tryz.func98, Tryz.ntmps98
      go_wp2
      go_ret
      exact ⟨rfl, Grow.of_alloc _ _⟩
    · cases h1 : ((i : Int) != 1)
      · go_enter Tryz.func98, Tryz.ntmps98
        go_wp2
        go_ret
        exact ⟨rfl, Grow.of_alloc _ _⟩
      · go_enter Tryz.func98, Tryz.ntmps98
        go_wp2
        go_ret
        exact ⟨rfl, Grow.of_alloc _ _⟩

theorem pOrd_any (wide big : Bool) (w : World) : Calls Tryz.prog 97 #[.agg #[.bool wide, .bool big]] w fun e w' => e = .returned (.agg (i64s (pOrd wide))) ∧ Grow w w' := by
  cases wide
  · go_enter Tryz.func97, Tryz.ntmps97
    go_wp2_with (refine wpList_store_row rfl 182 (.tmp 2) (.tmp 6) rfl (w.heap.size + 1) (i64s (pOrd false)) rfl rfl _ _ (blk2 rfl).2.1 (by kernel_rfl) rfl (one_i64s _) ?_)
    refine bodyPost_ret (results_cell_row (cs := i64s (pOrd false)) rfl _ _ (w.heap.size + 1) _ (0, 0) _ rfl ((blk2 rfl).2.1.set _) Tryz.underlying182 rfl (by kernel_rfl)) rfl ?_
    exact ⟨rfl, Grow.set (blk2 rfl).2.2 (Nat.le_succ _) _⟩
  · go_enter Tryz.func97, Tryz.ntmps97
    go_wp2_with (refine wpList_store_row rfl 182 (.tmp 2) (.tmp 5) rfl (w.heap.size + 1) (i64s (pOrd true)) rfl rfl _ _ (blk2 rfl).2.1 (by kernel_rfl) rfl (one_i64s _) ?_)
    refine bodyPost_ret (results_cell_row (cs := i64s (pOrd true)) rfl _ _ (w.heap.size + 1) _ (0, 0) _ rfl ((blk2 rfl).2.1.set _) Tryz.underlying182 rfl (by kernel_rfl)) rfl ?_
    exact ⟨rfl, Grow.set (blk2 rfl).2.2 (Nat.le_succ _) _⟩

theorem pNum_any (p : Pg) (ok : p.Ok) (w : World) : Calls Tryz.prog 96 #[p.V] w fun e w' => e = .returned (.agg (u64s p.N)) ∧ Grow w w' := by
  obtain ⟨ty, fl, off, va, pa, fs, ms, al⟩ := p
  obtain ⟨k1, k2, k3, k4, k5, k6, k7, k8⟩ := ok
  unfold Pg.V Pg.C
  simp only [] at *
  have z1 : IntKind.u64.wrap (ty : Int) = (ty : Int) := by rw [IntKind.wrap_u64]; omega
  have z2 : IntKind.u64.wrap (fl : Int) = (fl : Int) := by rw [IntKind.wrap_u64]; omega
  clear k1 k2 k3 k4 k5 k6 k7 k8
  go_enter Tryz.func96, Tryz.ntmps96
  go_wp2_with (refine wpList_store_row rfl 180 (.tmp 2) (.tmp 21) rfl (w.heap.size + 1) (u64s (Pg.N ⟨ty, fl, off, va, pa, fs, ms, al⟩)) rfl rfl _ _ (blk2 rfl).2.1 (by kernel_rfl) rfl (one_u64s _) ?_)
  refine bodyPost_ret (results_cell_row (cs := u64s (Pg.N ⟨ty, fl, off, va, pa, fs, ms, al⟩)) rfl _ _ (w.heap.size + 1) _ (0, 0) _ rfl ((blk2 rfl).2.1.set _) Tryz.underlying180 rfl (by kernel_rfl)) rfl ?_
  exact ⟨rfl, Grow.set (blk2 rfl).2.2 (Nat.le_succ _) _⟩

theorem pHdr_any (x0 x1 x2 x3 x4 x5 x6 x7 : Nat) (w : World) (k0 : x0 < 4294967296) (k1 : x1 < 4294967296) :
    Calls Tryz.prog 115 #[.agg (u64s [x0, x1, x2, x3, x4, x5, x6, x7])] w fun e w' => e = .returned (Pg.V ⟨x0, x1, x2, x3, x4, x5, x6, x7⟩) ∧ Grow w w' := by
  have z0 : IntKind.u32.wrap (x0 : Int) = (x0 : Int) := by rw [IntKind.wrap_u32]; omega
  have z1 : IntKind.u32.wrap (x1 : Int) = (x1 : Int) := by rw [IntKind.wrap_u32]; omega
  clear k0 k1
  unfold u64s
  simp only [List.map_cons, List.map_nil]
  go_enter Tryz.func115, Tryz.ntmps115
  go_wp2_with (refine wpList_store_row rfl 76 (.tmp 2) (.tmp 21) rfl (w.heap.size + 1) (Pg.C ⟨x0, x1, x2, x3, x4, x5, x6, x7⟩) rfl rfl _ _ (blk2 rfl).2.1 (by kernel_rfl) rfl (Pg.one _) ?_)
  refine bodyPost_ret (results_cell_row (cs := Pg.C ⟨x0, x1, x2, x3, x4, x5, x6, x7⟩) rfl _ _ (w.heap.size + 1) _ (0, 0) _ rfl ((blk2 rfl).2.1.set _) Tryz.underlying76 rfl (by kernel_rfl)) rfl ?_
  exact ⟨rfl, Grow.set (blk2 rfl).2.2 (Nat.le_succ _) _⟩
end Go.Proofs.YtlccbekalccahaaGreatDoor
