/-
  The contract of head.Put: the bytes of any header, in new memory; or ErrArg.
-/
import Derived.Test.YtkohkkgfmkocjaaHeadNum
import Derived.Test.YtkohkkgfmkocjaaWirePut
import Derived.Test.YtkohkkgfmkocjaaRefRow
namespace Go.Proofs.Ytkohkkgfmkocjaa
open Go.RowKit

/-- The numbers, each with how many bytes it has. -/
def Hd.Q (h : Hd) : List (Nat × Nat) := h.N.zip (hRow h.wide)
/-- The bytes. -/
def Hd.L (h : Hd) : List UInt8 := idL h.wide h.big h.o h.a ++ rowB h.big h.Q
theorem Hd.lenQ (h : Hd) : h.Q.length = 13 := by simp [Hd.Q, Hd.N, hRow]
theorem ifSome_le (b : Bool) (n : Nat) : ifSome b n ≤ n := by cases b <;> simp [ifSome]
theorem byWide_le (b : Bool) (x y m : Nat) (hx : x ≤ m) (hy : y ≤ m) : byWide b x y ≤ m := by cases b <;> simp [byWide, *]
theorem Hd.rowed (h : Hd) (ok : h.Ok) : Rowed h.Q := by
  obtain ⟨k1, k2, k3, k4, k5, k6, k7, k8, k9⟩ := ok
  have s0 : hSize h.wide ≤ 64 := byWide_le _ _ _ _ (by omega) (by omega)
  have s1 := ifSome_le ((h.pn : Int) != 0) (byWide h.wide 32 56)
  have s2 := ifSome_le ((h.sh : Int) != 0) (byWide h.wide 40 64)
  have s3 : byWide h.wide 32 56 ≤ 64 := byWide_le _ _ _ _ (by omega) (by omega)
  have s4 : byWide h.wide 40 64 ≤ 64 := byWide_le _ _ _ _ (by omega) (by omega)
  have hw : wid (byWide h.wide 4 8 : Nat) = true := by cases h.wide <;> rfl
  refine ⟨by rw [h.lenQ]; omega, fun k hk => ?_, fun k hk => ?_⟩
  · rw [h.lenQ] at hk
    match k, hk with
    | 0, _ => rfl
    | 1, _ => rfl
    | 2, _ => rfl
    | 3, _ => exact hw
    | 4, _ => exact hw
    | 5, _ => exact hw
    | 6, _ => rfl
    | 7, _ => rfl
    | 8, _ => rfl
    | 9, _ => rfl
    | 10, _ => rfl
    | 11, _ => rfl
    | 12, _ => rfl
  · rw [h.lenQ] at hk
    match k, hk with
    | 0, _ => show h.ty < _; omega
    | 1, _ => show h.ma < _; omega
    | 2, _ => show 1 < _; omega
    | 3, _ => show h.en < _; omega
    | 4, _ => show h.ph < _; omega
    | 5, _ => show h.sh < _; omega
    | 6, _ => show h.fl < _; omega
    | 7, _ => show hSize h.wide < _; omega
    | 8, _ => show ifSome ((h.pn : Int) != 0) (byWide h.wide 32 56) < _; omega
    | 9, _ => show h.pn < _; omega
    | 10, _ => show ifSome ((h.sh : Int) != 0) (byWide h.wide 40 64) < _; omega
    | 11, _ => show h.sn < _; omega
    | 12, _ => show h.st < _; omega
theorem Hd.atN (h : Hd) (k : Nat) (hk : k < h.Q.length) : (u64s h.N)[k]? = some (.int .u64 (h.Q[k].1 : Int)) := by
  have hk' := hk
  rw [h.lenQ] at hk
  simp [u64s, Hd.Q, show k < h.N.length from hk]
theorem Hd.atW (h : Hd) (k : Nat) (hk : k < h.Q.length) : (i64s (hRow h.wide))[k]? = some (.int .i64 (h.Q[k].2 : Int)) := by
  have hk' := hk
  rw [h.lenQ] at hk
  simp [i64s, Hd.Q, show k < (hRow h.wide).length from hk]

/-- What Put answers. -/
def HPut (h : Hd) (w : World) (e : Ending) (w' : World) : Prop :=
  (rowF h.Q = true ∧ ∃ A c, e = .returned (.tuple #[.slice A h.L.length c, .nilIface]) ∧ OB w' w.heap.size 5 A h.L.length c h.L ∧ Grow w w') ∨
  (rowF h.Q = false ∧ e = .returned (.tuple #[.slice none 0 0, .iface 58 (.int .i64 1)]) ∧ Grow w w')

theorem OB.of_blk {w : World} {base g : Nat} {e : TypeId} {l : List UInt8} (h : Blk w g e (l.map byt).toArray) (hb : base ≤ g) (hm : l.length ≤ maxLen) : OB w base e (some ⟨g, 0, none⟩) l.length l.length l :=
  ⟨by simp, .inr ⟨g, l.length, (l.map byt).toArray, rfl, hb, h, Nat.le_refl _, hm, by simp, by simp [List.take_of_length_le]⟩⟩

theorem rowF_false {q : List (Nat × Nat)} {k : Nat} (hk : k < q.length) (h : decide (q[k].1 < 256 ^ q[k].2) = false) : rowF q = false := by
  have e : q = q.take (k + 1) ++ q.drop (k + 1) := (List.take_append_drop _ _).symm
  rw [e, rowF_append, rowF_succ q k hk, h]
  simp

set_option maxHeartbeats 400000 in
theorem hPut_any (h : Hd) (ok : h.Ok) (w : World) : Calls Try.prog 7 #[h.V] w (HPut h w) := by
  have HR := Lib.hid (h.rowed ok)
  have HN := Lib.hid (fun w => numbers_any h ok w)
  have HAN := Lib.hid h.atN
  have HAW := Lib.hid h.atW
  have HSN : Hid ((u64s h.N).size = 13) := Lib.hid (by simp [u64s, Hd.N])
  have HON := Lib.hid (one_u64s h.N)
  have HI := Lib.hid (fun w => idPut_any h.wide h.big h.o h.a w)
  have HWi := Lib.hid (fun w => widths_any h.wide h.big w)
  have HLQ := Lib.hid h.lenQ
  have HL : Hid (h.L = idL h.wide h.big h.o h.a ++ rowB h.big h.Q) := Lib.hid rfl
  unfold HPut
  generalize h.L = L at HL ⊢
  generalize h.Q = q at HR HAN HAW HLQ HL ⊢
  generalize u64s h.N = RN at HN HAN HSN HON
  generalize i64s (hRow h.wide) = RW at HAW HWi
  obtain ⟨wide, big, o, a, ty, ma, en, ph, sh, fl, pn, sn, st⟩ := h
  unfold Hd.V Hd.C idV at *
  simp only [] at *
  go_enter Try.func7, Try.ntmps7
  go_wp2_with fail
  generalize hW : World.alloc _ _ = W0
  obtain ⟨b1, bf, hg0⟩ := blk2 hW
  have HB1 := Lib.hid b1
  have HBF := Lib.hid bf
  have HG0 := Lib.hid hg0
  clear hW b1 bf hg0
  refine (HI.out W0).mono ?_
  rintro e w1 ⟨rfl, ob, hw1⟩
  have hg1 : Grow W0 w1 := by rw [hw1]; exact (Grow.of_alloc _ _).trans (Grow.of_alloc _ _)
  have HBB : Hid (Blk w1 (W0.heap.size + 1) 5 ((idL wide big o a).map byt).toArray) := by
    have := Blk.new (W0.alloc ob) 5 (idC wide big o a)
    rw [show (W0.alloc ob).heap.size = W0.heap.size + 1 by simp] at this
    rw [hw1]; exact this
  have HG1 : Hid (Grow w w1) := HG0.out.trans hg1
  have hb1 := (HB1.out.grow hg1).c13
  have HBF1 := Lib.hid (HBF.out.grow hg1)
  have HG5 : Hid (w.heap.size + 1 < W0.heap.size + 1) := Nat.succ_lt_succ (Nat.lt_of_lt_of_le (Nat.lt_succ_self _) (Nat.le_of_lt HBF.out.lt))
  generalize W0.heap.size + 1 = g5 at HBB HG5 ⊢
  clear hw1 hg1 HB1 HBF HG0
  obtain ⟨x0, x1, x2, x3, x4, x5, x6, x7, x8, x9, x10, x11, x12⟩ := hb1
  go_wp2_with fail
  clear x0 x1 x2 x3 x4 x5 x6 x7 x8 x9 x10 x11 x12
  refine (HN.out w1).mono ?_
  rintro e w2 ⟨rfl, hg2⟩
  have HG2 : Hid (Grow w w2) := HG1.out.trans hg2
  have HBB2 := Lib.hid (HBB.out.grow hg2)
  have HBF2 := Lib.hid (HBF1.out.grow hg2)
  clear hg2 HG1 HBB HBF1
  obtain ⟨y0, y1⟩ := (HBF2.out.alloc (.cells RN 53)).c2
  go_wp2_with (refine wpList_store_row rfl 53 (.tmp 6) (.tmp 16) rfl w2.heap.size RN rfl rfl _ _ (Blk.new _ _ _) (by rw [HSN.out]; kernel_rfl) (by rw [HSN.out]; rfl) HON.out ?_; rw [World.setRow_alloc_new])
  clear y0 y1
  refine (HWi.out _).mono ?_
  rintro e w3 ⟨rfl, hg3⟩
  have HBN := Lib.hid ((Blk.new w2 53 RN).grow hg3)
  have HBB3 := Lib.hid ((HBB2.out.alloc _).grow hg3)
  have HBF3 := Lib.hid ((HBF2.out.alloc _).grow hg3)
  have HG3 : Hid (Grow w w3) := (HG2.out.trans (Grow.of_alloc _ _)).trans hg3
  have HG6 : Hid (g5 < w2.heap.size) := HBB2.out.lt
  generalize w2.heap.size = g6 at HBN HG6 ⊢
  clear hg3 HG2 HBB2 HBF2
  go_wp2_with fail
  have HI0 : Hid (OB w3 w.heap.size 5 (some ⟨g5, 0, none⟩) 16 16 (idL wide big o a)) := OB.of_blk HBB3.out (by have := HG5.out; omega) (by simp [idL, maxLen])
  have HD : Hid (g5 ≠ w.heap.size + 1) := by have := HG5.out; exact Lib.hid (by omega)
  have HD6 : Hid (g5 ≠ g6) := by have := HG6.out; exact Lib.hid (by omega)
  have HLL : Hid ((idL wide big o a).length = 16) := Lib.hid rfl
  generalize idL wide big o a = I at HL HI0 HLL
  clear HBB3 HI HN HWi
  go_loopw [5, 19] (fun x i wr => ∃ (k : Nat) (A : Option Addr) (c : Nat), k ≤ 13 ∧ i = .int .i64 k ∧ x = .slice A (16 + (rowB big (q.take k)).length) c ∧ OB wr w.heap.size 5 A (16 + (rowB big (q.take k)).length) c (I ++ rowB big (q.take k)) ∧
    own A ≠ some (w.heap.size + 1) ∧ own A ≠ some g6 ∧ Blk wr (w.heap.size + 1) 23 #[.bool wide, .bool big] ∧ Blk wr g6 53 RN ∧ rowF (q.take k) = true ∧ Grow w wr) (fun _ i _ => 13 - (intOf i).toNat)
  case atStart => exact ⟨0, some ⟨g5, 0, none⟩, 16, by omega, rfl, rfl, by rw [List.take_zero, rowB, List.append_nil]; exact HI0.out, fun h => HD.out (by injection h), fun h => HD6.out (by injection h), HBF3.out, HBN.out, rfl, HG3.out⟩
  case round =>
    obtain ⟨k, A, c, hk, rfl, rfl, ho, hd1, hd2, hbf, hbn, hrf, hg⟩ := hrel
    have HO := Lib.hid ho
    have HD1 := Lib.hid hd1
    have HD2 := Lib.hid hd2
    have HBF := Lib.hid hbf
    have HBN2 := Lib.hid hbn
    have HRF := Lib.hid hrf
    have HG := Lib.hid hg
    clear ho hd1 hd2 hbf hbn hrf hg HI0 HBN HBF3 HG3
    by_cases hlt : k < 13
    · have hkq : k < q.length := by rw [HLQ.out]; exact hlt
      have HB := Lib.hid (rowB_succ big q k hkq)
      have HF := Lib.hid (rowF_succ q k hkq)
      have HW := Lib.hid (HR.out.wide k hkq)
      have HZ := Lib.hid (fun h => rowF_false hkq h)
      have HLE := Lib.hid (rowB_le HR.out big k (by omega))
      have hv := HR.out.lt k hkq
      have hw8 := HR.out.wide8 k hkq
      have HK1 := Lib.hid (HAN.out k hkq)
      have HK2 := Lib.hid (HAW.out k hkq)
      rw [HRF.out, Bool.true_and] at HF
      generalize q[k].1 = v at HB HF HZ hv HK1
      generalize q[k].2 = m at HB HF HZ HW hw8 HK2
      have y1 : wr.cell? ⟨g6, k, none⟩ = some (.int .u64 (v : Int)) := (HBN2.out.at k).trans HK1.out
      have z1 : (0 : Int) ≤ (k : Int) := by omega
      have z2 : (k : Int) < 13 := by omega
      clear hkq
      go_wp2_with (refine wpList_index rfl 55 3 (.tmp 18) (.tmp 19) rfl 13 _ Try.underlying55 Try.underlying3 rfl (by kernel_rfl) RW k (.int .i64 (m : Int)) rfl rfl hlt HK2.out ?_)
      refine (fits_any v m _ (by omega) (by omega)).mono ?_
      rintro e w5 ⟨rfl, rfl⟩
      rw [fits_row v m HW.out]
      cases hfit : decide (v < 256 ^ m)
      · have HZ2 := Lib.hid (HZ.out hfit)
        clear hfit
        go_wp2
        go_ret2
        exact .inr ⟨HZ2.out, rfl, HG.out⟩
      · rw [hfit] at HF
        clear hfit HZ
        go_wp2_with fail
        clear y1
        refine wp_region_leap (leap_kept (fun j => j = w.heap.size + 1 ∨ j = g6)) [(0, true), (1, true), (2, true), (3, true), (4, true), (5, true), (6, true), (7, false), (8, false), (9, true)] (by kernel_rfl) (by kernel_rfl) (by kernel_rfl) ?_
        have HX : Hid (∀ W, Kept (fun j => j = w.heap.size + 1 ∨ j = g6) wr.drew W → (_ ∧ _) ∧ W.cell? ⟨g6, k, none⟩ = some (.int .u64 (v : Int))) := fun W hW =>
          ⟨(HBF.out.drew.kept hW (.inl rfl)).c2, ((HBN2.out.drew.kept hW (.inr rfl)).at k).trans HK1.out⟩
        have HO1 : Hid (OB wr.drew _ _ _ _ _ _) := HO.out
        have HBF1 := Lib.hid HBF.out.drew
        have HBN1 := Lib.hid HBN2.out.drew
        have HG1 : Hid (Grow w wr.drew) := HG.out.trans (Grow.of_drew _)
        generalize wr.drew = w6 at HX HO1 HBF1 HBN1 HG1 ⊢
        clear HO HBF HBN2 HG
        repeat (refine chain_take rfl (by rfl) ?_ (fun W hG => ?_) ?_; rotate_left; (obtain ⟨⟨q1, q2⟩, q3⟩ := HX.out W hG; go_simp; rfl); simp only [Act.put, List.setIfInBounds_toArray, List.set_cons_zero, List.set_cons_succ])
        clear HX
        refine chain_only rfl (by rfl) (fun K hK => ?_)
        go_simp
        refine (put_wide v m big _ HW.out (by omega)).mono ?_
        rintro e w7 ⟨A3, c3, rfl, ho3, hb3⟩
        refine hK _ _ (Kept.of_grow hb3) ?_
        clear hK K
        have HO3 := Lib.hid ho3
        have HO4 := Lib.hid (HO1.out.keep hb3)
        have HBF7 := Lib.hid (HBF1.out.grow hb3)
        have HBN7 := Lib.hid (HBN1.out.grow hb3)
        have HG7 : Hid (Grow w w7) := HG1.out.trans hb3
        clear ho3 hb3 HO1 HBF1 HBN1 HG1
        rw [Int.toNat_natCast] at HO3
        refine chain_only rfl (by rfl) (fun K hK => ?_)
        refine wp_appendS w7 (.tmp 30) (.tmp 37) 31 rfl w.heap.size 5 Try.underlying31 (by kernel_rfl) A _ c _ rfl HO4.out w7.heap.size A3 m c3 _ rfl HO3.out.rb (by have := HLE.out; omega) HG7.out.size ?_
        intro A5 c5 w8 ho5 hb5 hk5 hn5
        have HBF8 : Hid (Blk w8 (w.heap.size + 1) 23 #[.bool wide, .bool big]) := (hk5 _ HBF7.out.lt HD1.out).trans HBF7.out
        have HBN8 : Hid (Blk w8 g6 53 RN) := (hk5 _ HBN7.out.lt HD2.out).trans HBN7.out
        refine hK _ _ ⟨hb5.size, fun j hj hj2 => by
          rcases hj2 with rfl | rfl
          · exact hk5 _ hj HD1.out
          · exact hk5 _ hj HD2.out⟩ ?_
        clear hK K
        have HD1' : Hid (own A5 ≠ some (w.heap.size + 1)) := by
          rcases hn5 with e | e
          · rw [e]; exact HD1
          · rw [e]; have := HBF7.out.lt; exact fun h => by injection h; omega
        have HD2' : Hid (own A5 ≠ some g6) := by
          rcases hn5 with e | e
          · rw [e]; exact HD2
          · rw [e]; have := HBN7.out.lt; exact fun h => by injection h; omega
        have HG8 : Hid (Grow w w8) := HG7.out.trans' hb5
        rw [List.append_assoc, ← HB.out] at ho5
        have hm : 16 + (rowB big (q.take k)).length + m = 16 + (rowB big (q.take (k + 1))).length := by rw [HB.out, List.length_append, length_putB]; omega
        rw [hm] at ho5 ⊢
        have HO5 := Lib.hid ho5
        clear ho5 hb5 hk5 hn5 hm HO3 HO4 HG7 HBF7 HBN7
        repeat (refine chain_take rfl (by rfl) ?_ (fun W hG => ?_) ?_; rotate_left; (go_simp; rfl); simp only [Act.put, List.setIfInBounds_toArray, List.set_cons_zero, List.set_cons_succ])
        refine chain_done ?_
        go_wp2
        go_roundw
        case rel => exact ⟨k + 1, A5, c5, by omega, by go_num, rfl, HO5.out, HD1'.out, HD2'.out, HBF8.out, HBN8.out, HF.out, HG8.out⟩
        case measure => simp [intOf]; omega
    · have HK : Hid (q.take k = q) := by
        have e : k = q.length := by rw [HLQ.out]; omega
        rw [e]
        exact List.take_length
      rw [HK.out] at HO HRF ⊢
      have HE : Hid (16 + (rowB big q).length = L.length) := by
        have := HLL.out
        rw [HL.out, List.length_append, this]
        exact Lib.hid rfl
      rw [HE.out, ← HL.out] at HO
      rw [HE.out]
      go_wp2
      go_ret2
      exact .inl ⟨HRF.out, A, c, rfl, HO.out, HG.out⟩
end Go.Proofs.Ytkohkkgfmkocjaa
