/-
  Several texts in one: The contract of head; The contract of image; In a plan that ends in the file nothing stands in one place with another thing, and all is in the file; A model that may be planned.
-/
import Derived.Test.YtfglppjilcaafaaGreatDoorTtH12
import Derived.Test.YtfglppjilcaafaaGreatDoorTtH15
import Derived.Test.YtfglppjilcaafaaGreatDoorTtH16
import Derived.Test.YtfglppjilcaafaaGreatDoorTtH10
namespace Go.Proofs.YtfglppjilcaafaaGreatDoor
open Go.Lib (hid)
open Go.RowKit
set_option maxRecDepth 100000
def HGot (l : List UInt8) (w : World) (e : Ending) (w' : World) : Prop :=
 ∃ c p v err, e = .returned (.tuple #[v, err]) ∧ HTold l c p v ∧ Err w' err c p ∧ Grow w w'
theorem hgot_ret {l : List UInt8} {w W : World} {tmps : Array Value} {g c p : Nat} {err : Value} {t : TypeId} {h : Hd} (ht : tmps.getD 2 undef = .pointer (some ⟨g, 0, none⟩)) (he : tmps.getD 3 undef = err)
  (hx : Blk W g t h.C) (h1 : HTold l c p h.V) (h2 : Err W err c p) (h3 : Grow w W) : bodyPost Tryz.prog Tryz.f26 (HGot l w) .ret ⟨tmps, []⟩ W := by
 refine bodyPost_ret (v := .tuple #[h.V, err]) ?_ rfl ⟨c, p, h.V, err, rfl, h1, h2, h3⟩
 rw [results_cell_tmp rfl, ht, he]
 simp [asAddr, Result.andThen, hx.var _ _ Tryz.underlying58 rfl (by kernel_rfl)]
 rfl
theorem sz_head (h : Hd) : (Tryz.prog.info? 58).map (·.size) = some h.C.size := by kernel_rfl
set_option maxHeartbeats 800000 in
theorem hGet_any (A : Option Addr) (n c : Nat) (l : List UInt8) (w : World) (h : RB w w.heap.size A n c l) : Calls Tryz.prog 26 #[.slice A n c] w (HGot l w) := by
 have HR := hid h
 have HLen := hid h.len
 have hcp := h.cap
 have hmx := h.max
 unfold maxLen at hmx
 clear h
 go_enter Tryz.func26, Tryz.ntmps26
 go_wp2_with fail
 generalize hW : World.alloc _ _ = W0
 obtain ⟨b2, hg0⟩ := blk1 hW
 clear hW
 refine (idGet_any A n c l W0 ((HR.out.belowAt hg0 (Nat.le_refl _)).more hg0.size)).mono ?_
 rintro e w1 ⟨c0, p0, err, rfl, ht, he, hg1⟩
 have HT := hid ht
 have HE := hid he
 have HB2 : Hid (Blk w1 w.heap.size 58 hd0.C) := b2.grow hg1
 have HG1 : Hid (Grow w w1) := hg0.trans hg1
 have HS : Hid (w.heap.size ≤ w.heap.size) := Nat.le_refl _
 clear b2 hg0 ht he hg1
 rcases HE.out with ⟨rfl, rfl, rfl⟩ | ⟨h0, b, rfl, hb, hc1, hc2⟩
 ·have hi := idOf_zero l
  rw [hi]
  clear hi
  have HN : Hid (∀ w, Calls Tryz.prog 67 #[.agg (hdOf l).C] w fun e w' => e = .returned (.agg (u64s (hdOf l).N)) ∧ Grow w w') := fun w => numbers_any (hdOf l) (hdOf_ok l) w
  have HMB : Hid (∀ (k : Nat) w, Calls Tryz.prog 68 #[.int .i64 k, .agg (hdOf l).C] w fun e w' => e = .returned (.bool (mayAny k (hdOf l).pn (hdOf l).sh)) ∧ Grow w w') := fun k w => mayBeAny_any (hdOf l) k w
  have HHd : Hid (∀ w, Calls Tryz.prog 66 #[.agg #[.bool (lWide l), .bool (lBig l), .int .u8 ((l.getD 7 0).toNat : Int), .int .u8 ((l.getD 8 0).toNat : Int)], .agg (u64s (hdX l))] w fun e w' => e = .returned (.agg (hdOf l).C) ∧ Grow w w') := fun w => by
   obtain ⟨x0, x1, x2, x3, x4, x5, x6, x7, x8, x9, x10, x11, x12, hx⟩ := list13 (hdX_len l)
   have ok := hdOf_ok l
   rw [hdOf_eq hx] at ok ⊢
   rw [hx]
   exact header_any (lWide l) (lBig l) (l.getD 7 0) (l.getD 8 0) x0 x1 x2 x3 x4 x5 x6 x7 x8 x9 x10 x11 x12 w ok.ty ok.ma ok.fl ok.pn ok.sn ok.st
  have HRd : Hid (∀ w, RB w w.heap.size A n c l → hSize (lWide l) ≤ l.length → Calls Tryz.prog 65 #[.slice A n c, .agg #[.bool (lWide l), .bool (lBig l)]] w fun e w' => e = .returned (.tuple #[.agg (u64s (hdX l)), .agg (i64s (hPl (lWide l)))]) ∧ Grow w w') :=
   fun w h1 h2 => hRead_any A n c l (lWide l) (lBig l) w h1 h2
  have HSz : Hid (∀ w, Calls Tryz.prog 64 #[.agg #[.bool (lWide l), .bool (lBig l)]] w fun e w' => e = .returned (.int .i64 (hSize (lWide l) : Nat)) ∧ Grow w w') := fun w => hSize_any _ _ w
  have HXk := hid (fun k (hk : k < 13) => idx_u64s (hdX l) k (by rw [hdX_len]; exact hk))
  have HNk := hid (fun k (hk : k < 13) => idx_u64s (hdOf l).N k hk)
  have HPk := hid (fun k (hk : k < 13) => (idx_i64s (hPl (lWide l)) k (by simpa [hPl] using hk)))
  have HXs : Hid ((u64s (hdX l)).size = 13) := hid (by simp [u64s, hdX_len])
  have HPs : Hid ((i64s (hPl (lWide l))).size = 13) := hid (by simp [i64s, hPl])
  have HXo := hid (one_u64s (hdX l))
  have HPo := hid (one_i64s (hPl (lWide l)))
  have HBd : Hid (∀ k, HBad l k ↔ (hdX l).getD k 0 ≠ (hdOf l).N.getD k 0 ∧ mayAny k (hdOf l).pn (hdOf l).sh = false) := fun k => Iff.rfl
  have HPl : Hid (∀ k, k < 13 → (hPl (lWide l)).getD k 0 = 16 + sumN ((hRow (lWide l)).take k)) := fun k hk => by rw [List.getD_eq_getElem?_getD, hPl_at _ _ hk]; exact rfl
  have HC1 : Hid ((hdOf l).C.size = 13) := hid rfl
  have HC2 := hid (hdOf l).one
  have HTo : Hid (∀ c p, hdTold l c p → HTold l c p (if c = 0 then (hdOf l).V else hd0.V)) := fun c p h => .inr ⟨HT.out, h, rfl⟩
  generalize hR : (hdOf l).C = R at HN HMB HHd HC1 HC2
  have HRC := hid hR
  clear hR
  generalize u64s (hdOf l).N = RN at HN HNk
  generalize u64s (hdX l) = RX at HHd HRd HXk HXs HXo
  generalize i64s (hPl (lWide l)) = RP at HRd HPk HPs HPo
  unfold idV
  generalize ((l.getD 7 0).toNat : Int) = ov at HHd ⊢
  generalize ((l.getD 8 0).toNat : Int) = av at HHd ⊢
  obtain ⟨wide, hwide⟩ : ∃ b, b = lWide l := ⟨_, rfl⟩
  obtain ⟨big, hbig⟩ : ∃ b, b = lBig l := ⟨_, rfl⟩
  rw [← hwide, ← hbig] at HHd HRd HSz ⊢
  have HWide := hid hwide
  clear hwide hbig
  go_wp2_with fail
  refine (HSz.out _).mono ?_
  rintro e w2 ⟨rfl, hg2⟩
  have HB4 := hid ((Blk.new w1 25 #[.bool wide, .bool big, .int .u8 ov, .int .u8 av]).grow hg2)
  have HB2' := hid ((HB2.out.alloc (.cells #[.bool wide, .bool big, .int .u8 ov, .int .u8 av] 25)).grow hg2)
  have HG2 : Hid (Grow w w2) := (HG1.out.trans (Grow.of_alloc _ _)).trans hg2
  have HLt : Hid (w.heap.size < w1.heap.size) := HB2.out.lt
  generalize w1.heap.size = g4 at HB4 HLt ⊢
  clear hg2 HG1 HB2 HE HT
  generalize hsz : hSize wide = sz at HRd ⊢
  have HSzz := hid hsz
  have hsz1 : sz < 100 := by rw [← hsz]; cases wide <;> decide
  clear hsz HSz
  by_cases hshort : n < sz
  ·have HT3 : Hid (HTold l 2 n hd0.V) := HTo.out 2 n (.inl ⟨by rw [← HLen.out, ← HWide.out, HSzz.out]; exact hshort, rfl, HLen.out⟩)
   go_wp2_with (refine wpList_store_row rfl 58 (.tmp 2) (.tmp 26) rfl w.heap.size hd0.C rfl rfl _ _ (HB2'.out.alloc _) (sz_head hd0) rfl hd0.one ?_; rw [(HB2'.out.alloc _).same])
   exact hgot_ret (err := .iface 116 (.pointer (some ⟨w2.heap.size, 0, none⟩))) (c := 2) rfl rfl (HB2'.out.alloc _) HT3.out (Err.box w2 2 n _ (by omega)) (HG2.out.trans (Grow.of_alloc _ _))
  ·have hll : sz ≤ l.length := by have := HLen.out; omega
   have HLL : Hid (hSize (lWide l) ≤ l.length) := by rw [← HWide.out, HSzz.out]; exact hll
   have HRr : Hid (RB w2 w2.heap.size A n c l) := (HR.out.belowAt HG2.out (Nat.le_refl _)).more HG2.out.size
   obtain ⟨y0, y1, y2, y3⟩ := HB4.out.c4
   have HLz := hid hll
   clear hll
   go_wp2_with fail
   clear y0 y1 y2 y3
   refine (HRd.out w2 HRr.out HLz.out).mono ?_
   rintro e w3 ⟨rfl, hg3⟩
   have HB4' := hid ((HB4.out.grow hg3))
   have HB2 := hid ((HB2'.out.grow hg3))
   have HG3 : Hid (Grow w w3) := HG2.out.trans hg3
   clear hg3 HB4 HB2' HG2 HRr HRd HSzz hsz1 hshort
   go_wp2_with (first
    | (refine wpList_store_row rfl 140 (.tmp 6) (.tmp 37) rfl w3.heap.size RX rfl rfl _ _ (blk2 rfl).1 (by rw [HXs.out]; kernel_rfl) (by rw [HXs.out]; rfl) HXo.out ?_)
    | (refine wpList_store_row rfl 141 (.tmp 7) (.tmp 38) rfl (w3.heap.size + 1) RP rfl rfl _ _ ((blk2 rfl).2.1.other (by omega) _) (by rw [HPs.out]; kernel_rfl) (by rw [HPs.out]; rfl) HPo.out ?_
       generalize hW4 : World.setRow (World.setRow _ _ _) _ _ = w4
       have HB6 : Hid (Blk w4 w3.heap.size 140 RX) := by rw [← hW4]; exact ((blk2 rfl).1.set RX).other (by omega) _
       have HB7 : Hid (Blk w4 (w3.heap.size + 1) 141 RP) := by rw [← hW4]; exact ((blk2 rfl).2.1.other (by omega) _).set RP
       have HG4 : Hid (Grow w3 w4) := by rw [← hW4]; exact Grow.set (Grow.set (blk2 rfl).2.2 (Nat.le_refl _) _) (Nat.le_succ _) _
       have y := (HB4'.out.grow HG4.out).c4
       obtain ⟨y0, y1, y2, y3⟩ := y
       clear hW4)
    | (refine wpList_load_row rfl 140 (.tmp 6) rfl w3.heap.size rfl _ RX (0, 0) _ HB6.out Tryz.underlying140 rfl (by rw [HXs.out]; kernel_rfl) ?_))
   clear y0 y1 y2 y3
   have HB2b := hid (HB2.out.grow HG4.out)
   have HG4b : Hid (Grow w w4) := HG3.out.trans HG4.out
   have HL6 : Hid (w.heap.size < w3.heap.size) := HB2.out.lt
   generalize w3.heap.size = g6 at HB6 HB7 HL6 ⊢
   clear HB4' HB2 HG3 HG4
   refine (HHd.out w4).mono ?_
   rintro e w5 ⟨rfl, hg5⟩
   have HB2c := hid (HB2b.out.grow hg5)
   have HB6c := hid (HB6.out.grow hg5)
   have HB7c := hid (HB7.out.grow hg5)
   have HG5 : Hid (Grow w w5) := HG4b.out.trans hg5
   clear hg5 HB2b HB6 HB7 HG4b HHd
   go_wp2_with (first
    | (refine wpList_store_row rfl 58 (.tmp 8) (.tmp 41) rfl w5.heap.size R rfl rfl _ _ (Blk.new _ _ _) (by rw [HC1.out]; kernel_rfl) (by rw [HC1.out]; rfl) HC2.out ?_; rw [World.setRow_alloc_new])
    | (refine wpList_load_row rfl 58 (.tmp 8) rfl w5.heap.size rfl _ R (0, 0) _ (Blk.new _ _ _) Tryz.underlying58 rfl (by rw [HC1.out]; kernel_rfl) ?_))
   refine (HN.out _).mono ?_
   rintro e w6 ⟨rfl, hg6⟩
   have HB2 := hid ((HB2c.out.alloc _).grow hg6)
   have HB6 := hid ((HB6c.out.alloc _).grow hg6)
   have HB7 := hid ((HB7c.out.alloc _).grow hg6)
   have HB8 := hid ((Blk.new w5 58 R).grow hg6)
   have HG6 : Hid (Grow w w6) := (HG5.out.trans (Grow.of_alloc _ _)).trans hg6
   generalize w5.heap.size = g8 at HB8 ⊢
   clear hg6 HB2c HB6c HB7c HG5 HN
   go_wp2_with fail
   go_loopw [44] (fun i wr => ∃ k : Nat, k ≤ 13 ∧ i = .int .i64 k ∧ (∀ j, j < k → ¬ HBad l j) ∧ Blk wr w.heap.size 58 hd0.C ∧ Blk wr g6 140 RX ∧ Blk wr (g6 + 1) 141 RP ∧ Blk wr g8 58 R ∧ Grow w wr) (fun i _ => 13 - (intOf i).toNat)
   case atStart => exact ⟨0, by omega, rfl, fun j h => absurd h (Nat.not_lt_zero _), HB2.out, HB6.out, HB7.out, HB8.out, HG6.out⟩
   case round =>
    obtain ⟨k, hk, rfl, hno, hb2, hb6, hb7, hb8, hg⟩ := hrel
    clear HB2 HB6 HB7 HB8 HG6
    have HNO := hid hno
    have HB2 := hid hb2
    have HB6 := hid hb6
    have HB7 := hid hb7
    have HB8 := hid hb8
    have HG := hid hg
    clear hno hb2 hb6 hb7 hb8 hg
    by_cases hlt : k < 13
    ·have HX1 := hid (HXk.out k hlt)
     have HN1 := hid (HNk.out k hlt)
     have HP1 := hid (HPk.out k hlt)
     have HBk := hid (HBd.out k)
     have HPp := hid (HPl.out k hlt)
     have HMk := hid (HMB.out k)
     generalize (hdX l).getD k 0 = x at HX1 HBk
     generalize (hdOf l).N.getD k 0 = y at HN1 HBk
     generalize (hPl (lWide l)).getD k 0 = p at HP1 HPp
     generalize mayAny k (hdOf l).pn (hdOf l).sh = mb at HBk HMk
     have c1 : wr.cell? ⟨g6, k, none⟩ = some (.int .u64 (x : Int)) := (HB6.out.at k).trans HX1.out
     have z1 : (0 : Int) ≤ (k : Int) := by omega
     have z2 : (k : Int) < 13 := by omega
     by_cases hxy : x = y
     ·have hne : ((x : Int) != (y : Int)) = false := by simp [hxy]
      have HOK : Hid (∀ j, j < k + 1 → ¬ HBad l j) := fun j hj => by
       rcases Nat.lt_succ_iff_lt_or_eq.1 hj with h1 | h1
       ·exact HNO.out j h1
       ·rw [h1]; exact fun hb => (HBk.out.1 hb).1 hxy
      clear hxy
      go_wp2_with (refine wpList_index rfl 140 28 (.tmp 43) (.tmp 44) rfl 13 _ Tryz.underlying140 Tryz.underlying28 rfl (by kernel_rfl) RN k (.int .u64 (y : Int)) rfl rfl hlt HN1.out ?_)
      go_roundw
      case rel => exact ⟨k + 1, by omega, by go_num, HOK.out, HB2.out, HB6.out, HB7.out, HB8.out, HG.out⟩
      case measure => simp [intOf]; omega
     ·have hne : ((x : Int) != (y : Int)) = true := by simp; omega
      have HXY := hid hxy
      clear hxy
      obtain ⟨r0, r1, r2, r3, r4, r5, r6, r7, r8, r9, r10, r11, r12, rfl⟩ := arr13 HC1.out
      obtain ⟨q0, q1, q2, q3, q4, q5, q6, q7, q8, q9, q10, q11, q12⟩ := HB8.out.c13
      go_wp2_with (refine wpList_index rfl 140 28 (.tmp 43) (.tmp 44) rfl 13 _ Tryz.underlying140 Tryz.underlying28 rfl (by kernel_rfl) RN k (.int .u64 (y : Int)) rfl rfl hlt HN1.out ?_)
      clear q0 q1 q2 q3 q4 q5 q6 q7 q8 q9 q10 q11 q12 c1 hne
      refine (HMk.out _).mono ?_
      rintro e w7 ⟨rfl, hg7⟩
      have HB2n := hid (HB2.out.grow hg7)
      have HB6n := hid (HB6.out.grow hg7)
      have HB7n := hid (HB7.out.grow hg7)
      have HB8n := hid (HB8.out.grow hg7)
      have HGn : Hid (Grow w w7) := HG.out.trans hg7
      clear hg7 HB2 HB6 HB7 HB8 HG
      cases mb
      ·have HT4 : Hid (HTold l 4 p hd0.V) := HTo.out 4 p (.inr (.inr ⟨HLL.out, rfl, k, hlt, HNO.out, HBk.out.2 ⟨HXY.out, rfl⟩, HPp.out⟩))
       go_wp2_with fail
       refine wp_region_fork [(0, true), (1, true), (2, true), (3, true), (4, true)] 5 [(6, true), (7, false), (8, true)] 7 [(5, false), (6, true), (8, true)] (by kernel_rfl) (by kernel_rfl) (by kernel_rfl) ?_
       have HP2 : Hid (∀ W, Grow w7.drew W → W.cell? ⟨g6 + 1, k, none⟩ = some (.int .i64 (p : Int))) := fun W hW => (((HB7n.out.drew).grow hW).at k).trans HP1.out
       have HBd2 : Hid (Blk w7.drew w.heap.size 58 hd0.C) := HB2n.out
       have HGd : Hid (Grow w w7.drew) := HGn.out.trans (Grow.of_drew _)
       generalize w7.drew = w8 at HP2 HBd2 HGd ⊢
       clear HB2n HB6n HB7n HB8n HGn
       repeat (refine chain_take rfl (by rfl) ?_ (fun W hG => ?_) ?_; rotate_left; (have q := HP2.out W hG; go_simp; rfl); simp only [Act.put, List.setIfInBounds_toArray, List.set_cons_zero, List.set_cons_succ])
       refine chain_done ⟨step_op rfl (by rfl) (fun K hK => ?_), step_op rfl (by rfl) (fun K hK => ?_)⟩
       ·go_simp
        refine hK _ _ (Grow.of_alloc _ _) ?_
        clear hK K
        repeat (refine chain_take rfl (by rfl) ?_ (fun W hG => ?_) ?_; rotate_left; (go_simp; rfl); simp only [Act.put, List.setIfInBounds_toArray, List.set_cons_zero, List.set_cons_succ])
        refine chain_only rfl (by rfl) (fun K hK => ?_)
        refine wp_store_row 58 (.tmp 2) (.tmp 59) rfl w.heap.size hd0.C rfl rfl _ _ (HBd2.out.alloc _) (sz_head hd0) rfl hd0.one ?_
        rw [(HBd2.out.alloc _).same]
        refine hK _ _ (Grow.refl _) ?_
        clear hK K
        repeat (refine chain_take rfl (by rfl) ?_ (fun W hG => ?_) ?_; rotate_left; (go_simp; rfl); simp only [Act.put, List.setIfInBounds_toArray, List.set_cons_zero, List.set_cons_succ])
        refine chain_done ?_
        go_wp2
        exact hgot_ret (err := .iface 116 (.pointer (some ⟨w8.heap.size, 0, none⟩))) (c := 4) rfl rfl (HBd2.out.alloc _) HT4.out (Err.box w8 4 p _ (by omega)) (HGd.out.trans (Grow.of_alloc _ _))
       ·refine wp_store_row 58 (.tmp 2) (.tmp 59) rfl w.heap.size hd0.C rfl rfl _ _ HBd2.out (sz_head hd0) rfl hd0.one ?_
        rw [HBd2.out.same]
        refine hK _ _ (Grow.refl _) ?_
        clear hK K
        refine chain_only rfl (by rfl) (fun K hK => ?_)
        go_simp
        refine hK _ _ (Grow.of_alloc _ _) ?_
        clear hK K
        repeat (refine chain_take rfl (by rfl) ?_ (fun W hG => ?_) ?_; rotate_left; (go_simp; rfl); simp only [Act.put, List.setIfInBounds_toArray, List.set_cons_zero, List.set_cons_succ])
        refine chain_done ?_
        go_wp2
        exact hgot_ret (err := .iface 116 (.pointer (some ⟨w8.heap.size, 0, none⟩))) (c := 4) rfl rfl (HBd2.out.alloc _) HT4.out (Err.box w8 4 p _ (by omega)) (HGd.out.trans (Grow.of_alloc _ _))
      ·have HOK : Hid (∀ j, j < k + 1 → ¬ HBad l j) := fun j hj => by
        rcases Nat.lt_succ_iff_lt_or_eq.1 hj with h1 | h1
        ·exact HNO.out j h1
        ·rw [h1]; exact fun hb => absurd (HBk.out.1 hb).2 (by decide)
       go_wp2_with fail
       go_roundw
       case rel => exact ⟨k + 1, by omega, by go_num, HOK.out, HB2n.out, HB6n.out, HB7n.out, HB8n.out, HGn.out⟩
       case measure => simp [intOf]; omega
    ·have HT4 : Hid (HTold l 0 0 (hdOf l).V) := HTo.out 0 0 (.inr (.inl ⟨HLL.out, fun j hj => HNO.out j (by omega), rfl, rfl⟩))
     go_wp2_with (first
      | (refine wpList_load_row rfl 58 (.tmp 8) rfl g8 rfl _ R (0, 0) _ HB8.out Tryz.underlying58 rfl (by rw [HC1.out]; kernel_rfl) ?_)
      | (refine wpList_store_row rfl 58 (.tmp 2) (.tmp 67) rfl w.heap.size R rfl rfl _ _ HB2.out (by rw [HC1.out]; kernel_rfl) (by rw [HC1.out]; rfl) HC2.out ?_))
     exact hgot_ret (err := .nilIface) (c := 0) (p := 0) (h := hdOf l) rfl rfl (by rw [HRC.out]; exact HB2.out.set R) HT4.out (.inl ⟨rfl, rfl, rfl⟩) (Grow.set HG.out (Nat.le_refl _) R)
 ·rw [show idOf l c0 = .agg #[.bool false, .bool false, .int .u8 0, .int .u8 0] from idOf_bad l (by omega)]
  have HT2 : Hid (HTold l c0 p0 hd0.V) := .inl ⟨by omega, HT.out, rfl⟩
  clear hb hc1 hc2 h0
  have HB3 : Hid (∀ o : Obj, Blk (w1.alloc o) w.heap.size 58 hd0.C) := fun o => HB2.out.alloc o
  go_wp2_with (refine wpList_store_row rfl 58 (.tmp 2) (.tmp 18) rfl w.heap.size hd0.C rfl rfl _ _ (HB3.out _) (sz_head hd0) rfl hd0.one ?_; rw [(HB3.out _).same])
  exact hgot_ret (err := .iface 116 (.pointer (some ⟨b, 0, none⟩))) rfl rfl (HB3.out _) HT2.out (HE.out.grow (Grow.of_alloc _ _)) (HG1.out.trans (Grow.of_alloc _ _))
set_option maxRecDepth 100000
set_option linter.unusedVariables false
def FileR (l : List UInt8) (w : World) (e : Ending) (w' : World) : Prop :=
 (Img l ∧ ∃ A c, e = .returned (.tuple #[.agg (imC (hdOf l).en (.slice A (imL l).length c)), .nilIface]) ∧ GR rgK w' w.heap.size 107 A (imL l).length c (imL l) ∧ Grow w w') ∨
 (¬ Img l ∧ e = .returned (.tuple #[.agg (imC 0 (.slice none 0 0)), .iface 81 (.int .i64 4)]) ∧ Grow w w')
theorem if_ret {K : Ending → World → Prop} {W : World} {tmps : Array Value} {g : Nat} {ev a b : Value} (ht : tmps.getD 2 undef = .pointer (some ⟨g, 0, none⟩)) (he : tmps.getD 3 undef = ev)
  (hx : Blk W g 52 #[a, b]) (hk : K (.returned (.tuple #[.agg #[a, b], ev])) W) : bodyPost Tryz.prog Tryz.f14 K .ret ⟨tmps, []⟩ W := by
 refine bodyPost_ret (v := .tuple #[.agg #[a, b], ev]) ?_ rfl hk
 rw [results_cell_tmp rfl, ht, he]
 simp [asAddr, Result.andThen, hx.var _ _ Tryz.underlying52 rfl (by kernel_rfl)]
set_option maxHeartbeats 8000000 in
theorem imFile_any (l : List UInt8) (A : Option Addr) (n c : Nat) (w : World) (hr : RB w w.heap.size A n c l) (hn : n ≤ 140737488355328) :
  Calls Tryz.prog 14 #[.slice A n c] w (FileR l w) := by
 have HGe := hid (fun W (hW : Grow w W) => hGet_any A n c l W (hr.grow hW))
 have HHd := hid (fun W (hW : Grow w W) => imHeaders_any l A n c W (hr.grow hW))
 have HPn : (hdOf l).pn < 65536 := (hdOf_ok l).pn
 have HLd := hid (fun (A1 : Option Addr) (c1 : Nat) W (hW : Grow w W) hz => imLoaded_any l A n c (hdOf l).en A1 (hdOf l).pn c1 W (hr.grow hW) hz (by omega) hn)
 have HNz : Hid (∀ c p v, HTold l c p v → c ≠ 0 → ¬ Img l ∧ v = hd0.V) := hid fun c p v h hc => ⟨fun hi => hc (h.one hi.1).1, h.not hc⟩
 have HZe : Hid (∀ p v, HTold l 0 p v → v = (hdOf l).V) := hid fun p v h => (h.zero rfl).2
 have HYe : Hid (∀ p v, HTold l 0 p v → (Img l ↔ (hdOf l).pn ≠ 65535 ∧ ImIn l ∧ OwnIn l (hdOf l).pn)) := hid fun p v h => by
  obtain ⟨rfl, rfl⟩ := h.zero rfl
  exact ⟨fun hi => hi.2, fun hi => ⟨h, hi⟩⟩
 have HIm : Hid (fImg l (hdOf l).pn = imL l) := hid rfl
 unfold HGot at HGe
 unfold HdsR at HHd
 unfold LdR at HLd
 unfold FileR imC
 unfold imC at HLd
 clear hr hn
 obtain ⟨x0, x1, x2, x3, x4, x5, x7, x8, x9, x11, x12, hC, hO⟩ : ∃ x0 x1 x2 x3 x4 x5 x7 x8 x9 x11 x12 : Value, (hdOf l).V = .agg #[x0, x1, x2, x3, x4, x5, .int .u64 ((hdOf l).en : Nat), x7, x8, x9, .int .u16 ((hdOf l).pn : Nat), x11, x12] ∧ (#[x0, x1, x2, x3, x4, x5, .int .u64 ((hdOf l).en : Nat), x7, x8, x9, .int .u16 ((hdOf l).pn : Nat), x11, x12] : Array Value).all (·.oneCell') = true := ⟨_, _, _, _, _, _, _, _, _, _, _, rfl, (hdOf l).one⟩
 have HO := hid hO
 clear hO
 rw [hC] at HZe HHd
 clear hC
 rw [HIm.out] at HLd
 generalize imL l = IM at *
 generalize (hdOf l).en = en at *
 generalize (hdOf l).pn = P at *
 generalize Img l = IG at *
 generalize ImIn l = II at *
 generalize OwnIn l P = OI at *
 generalize pgR l P = PR at *
 go_enter Tryz.func14, Tryz.ntmps14
 go_wp2_with fail
 generalize hW : World.alloc _ _ = W0
 obtain ⟨b1, hg0⟩ := blk1 hW
 clear hW
 have HZ := hid b1
 have HG := hid hg0
 have HG2 : Hid (w.heap.size ≤ w.heap.size) := hid (Nat.le_refl _)
 clear b1 hg0
 refine (HGe.out _ HG.out).mono ?_
 rintro e w1 ⟨cc, p, v, err, rfl, ht, he, hg⟩
 have HZ1 := hid (HZ.out.grow hg)
 have HG1 : Hid (Grow w w1) := hid (HG.out.trans hg)
 clear hg HZ HG HGe
 by_cases h0 : cc = 0
 ·subst h0
  have e0 := he.nil
  subst e0
  have e1 := HZe.out p v ht
  have HY := hid (HYe.out p v ht)
  subst e1
  clear ht he HZe HYe HNz
  go_wp2_with (refine wpList_store_row rfl 58 (.tmp 4) (.tmp 10) rfl w1.heap.size _ rfl rfl _ _ (Blk.new _ _ _) (by kernel_rfl) rfl HO.out ?_; rw [World.setRow_alloc_new]; refine Hid.out ?_)
  generalize hW : World.alloc _ _ = W2
  obtain ⟨b4, hg⟩ := blk1 hW
  clear hW
  have HB2 := hid b4
  have HZ2 := hid (HZ1.out.grow hg)
  have HG2 : Hid (Grow w W2) := hid (HG1.out.trans hg)
  clear b4 hg HZ1 HG1
  generalize w1.heap.size = g4 at HB2 ⊢
  refine hid ?_
  have c10 := HB2.out.at 10
  by_cases hp : P = 65535
  ·have d1 : ((P : Int) == 65535) = true := by simp [hp]
   have HNo : Hid (¬ IG) := hid (by rw [HY.out]; exact fun h => h.1 hp)
   clear hp
   go_wp2_with (refine wpList_store_row rfl 52 (.tmp 2) (.tmp 19) rfl w.heap.size #[.int .u64 0, .slice none 0 0] rfl rfl _ _ HZ2.out (by kernel_rfl) rfl (by simp [Value.oneCell']) ?_)
   refine if_ret (by rfl) (by rfl) (HZ2.out.set _) ?_
   exact .inr ⟨HNo.out, rfl, Grow.set HG2.out (Nat.le_refl _) _⟩
  ·have d1 : ((P : Int) == 65535) = false := by simp; omega
   have HP := hid hp
   clear hp
   go_wp2_with (refine wpList_load_row rfl 58 (.tmp 4) rfl g4 rfl _ _ (0, 0) _ HB2.out Tryz.underlying58 rfl (by kernel_rfl) ?_)
   clear c10
   refine (HHd.out _ HG2.out).mono ?_
   rintro e w3 (⟨hi, A1, c1, rfl, hzs, hg⟩ | ⟨hi, rfl, hg⟩)
   ·have HZ3 := hid (HZ2.out.grow hg)
    have HG3 : Hid (Grow w w3) := hid (HG2.out.trans hg)
    have HB3 := hid (HB2.out.grow hg)
    have HLk := hid (HLd.out A1 c1 w3 HG3.out hzs)
    have HI := hid hi
    clear hg HZ2 HG2 HB2 hzs hi HLd HHd
    have c6 := HB3.out.at 6
    go_wp2_with fail
    clear c6
    refine HLk.out.mono ?_
    rintro e w4 (⟨ho, A2, c2, rfl, hgr, hg⟩ | ⟨ho, rfl, hg⟩)
    ·have HZ4 := hid (HZ3.out.grow hg)
     have HG4 : Hid (Grow w w4) := hid (HG3.out.trans hg)
     have HR4 : Hid (GR rgK w4 (w.heap.size + 1) 107 A2 IM.length c2 IM) := hid (hgr.mono HZ3.out.lt)
     have HYs : Hid IG := hid (HY.out.2 ⟨HP.out, HI.out, ho⟩)
     clear hg HZ3 HG3 hgr ho HLk
     go_wp2_with (refine wpList_store_row rfl 52 (.tmp 2) (.tmp 36) rfl w.heap.size _ rfl rfl _ _ HZ4.out (by kernel_rfl) rfl (by simp [Value.oneCell']) ?_)
     refine if_ret (by rfl) (by rfl) (HZ4.out.set _) ?_
     exact .inl ⟨HYs.out, A2, c2, rfl, (HR4.out.set (Nat.lt_succ_self _) _).mono (Nat.le_succ _), Grow.set HG4.out (Nat.le_refl _) _⟩
    ·have HZ4 := hid (HZ3.out.grow hg)
     have HG4 : Hid (Grow w w4) := hid (HG3.out.trans hg)
     have HNo : Hid (¬ IG) := hid (by rw [HY.out]; exact fun h => ho h.2.2)
     clear hg HZ3 HG3 ho HLk
     go_wp2_with (refine wpList_store_row rfl 52 (.tmp 2) (.tmp 36) rfl w.heap.size _ rfl rfl _ _ HZ4.out (by kernel_rfl) rfl (by simp [Value.oneCell']) ?_)
     refine if_ret (by rfl) (by rfl) (HZ4.out.set _) ?_
     exact .inr ⟨HNo.out, rfl, Grow.set HG4.out (Nat.le_refl _) _⟩
   ·have HZ3 := hid (HZ2.out.grow hg)
    have HG3 : Hid (Grow w w3) := hid (HG2.out.trans hg)
    have HNo : Hid (¬ IG) := hid (by rw [HY.out]; exact fun h => hi h.2.1)
    clear hg HZ2 HG2 HB2 hi HLd HHd
    go_wp2_with (refine wpList_store_row rfl 52 (.tmp 2) (.tmp 29) rfl w.heap.size #[.int .u64 0, .slice none 0 0] rfl rfl _ _ HZ3.out (by kernel_rfl) rfl (by simp [Value.oneCell']) ?_)
    refine if_ret (by rfl) (by rfl) (HZ3.out.set _) ?_
    exact .inr ⟨HNo.out, rfl, Grow.set HG3.out (Nat.le_refl _) _⟩
 ·obtain ⟨hno, rfl⟩ := HNz.out cc p v ht h0
  have HNo := hid hno
  obtain ⟨_, bb, rfl, _⟩ : 0 < cc ∧ ∃ b, err = .iface 116 (.pointer (some ⟨b, 0, none⟩)) ∧ True := by
   rcases he with ⟨h, _⟩ | ⟨h1, b, h2, _⟩
   ·exact absurd h h0
   ·exact ⟨h1, b, h2, trivial⟩
  clear ht he h0 HYe HZe HNz hno HHd HLd
  unfold hd0 Hd.V Hd.C
  simp only []
  go_wp2_with (first | (refine wpList_store_row rfl 52 (.tmp 2) (.tmp 19) rfl w.heap.size #[.int .u64 0, .slice none 0 0] rfl rfl _ _ (HZ1.out.grow (Grow.of_alloc _ _)) (by kernel_rfl) rfl (by simp [Value.oneCell']) ?_))
  refine if_ret (by rfl) (by rfl) ((HZ1.out.grow (Grow.of_alloc _ _)).set _) ?_
  exact .inr ⟨HNo.out, rfl, Grow.set (HG1.out.trans (Grow.of_alloc _ _)) (Nat.le_refl _) _⟩
end Go.Proofs.YtfglppjilcaafaaGreatDoor
namespace Go.Proofs.YtfglppjilcaafaaGreatDoor
open Go.Lib (hid)
namespace Md
variable (m : Md)
theorem eL_step (h : m.segs.length ≤ 16) (k : Nat) : m.eL k ≤ m.eL (k + 1) := by
 rw [eL]
 split
 ·exact fin_ge (m.eL_le h k)
 ·exact Nat.le_refl _
theorem eO_step (h : m.segs.length ≤ 16) (k : Nat) : m.eO k ≤ m.eO (k + 1) := by
 rw [eO]
 split
 ·exact Nat.le_refl _
 split
 ·exact fin_ge (m.eO_le h k)
 ·exact Nat.le_refl _
theorem eS_step (h : m.segs.length ≤ 16) (k : Nat) : m.eS k ≤ m.eS (k + 1) := by
 rw [eS]
 split
 ·exact fin_ge (m.eS_le h k)
 ·exact Nat.le_refl _
end Md
theorem mono_of {f : Nat → Nat} (h : ∀ k, f k ≤ f (k + 1)) {a b : Nat} (hab : a ≤ b) : f a ≤ f b := by
 induction b with
 | zero => rw [show a = 0 by omega]; exact Nat.le_refl _
 | succ b ih =>
  rcases Nat.lt_or_ge a (b + 1) with h1 | h1
  ·exact Nat.le_trans (ih (by omega)) (h b)
  ·rw [show a = b + 1 by omega]; exact Nat.le_refl _
structure Planned (m : Md) : Prop where
 ok : PlOk m
 load : ∀ k, k < m.segs.length → (m.sg k).typ = 1 → (m.sg k).pl.inn = -1
 fits : m.eT ≤ 65536
theorem Planned.eS_in {m : Md} (h : Planned m) {k : Nat} (hk : k ≤ m.secs.length) : m.eS k ≤ 65536 := by
 have h1 := h.fits
 have h2 : m.eS k ≤ m.eS m.secs.length := mono_of (m.eS_step h.ok.n1) hk
 have h3 : m.eS m.secs.length ≤ m.eT := by
  unfold Md.eT
  split
  ·exact fin_ge (m.eS_le h.ok.n1 _)
  ·exact Nat.le_refl _
 omega
theorem Planned.eO_in {m : Md} (h : Planned m) {k : Nat} (hk : k ≤ m.segs.length) : m.eO k ≤ m.eO m.segs.length ∧ m.eO m.segs.length ≤ 65536 := by
 have h1 := h.eS_in (k := 0) (by omega)
 exact ⟨mono_of (m.eO_step h.ok.n1) hk, h1⟩
theorem Planned.eL_in {m : Md} (h : Planned m) {k : Nat} (hk : k ≤ m.segs.length) : m.eL k ≤ m.eL m.segs.length ∧ m.eL m.segs.length ≤ 65536 := by
 have h1 := (h.eO_in (k := 0) (by omega))
 have h2 : m.eO 0 = m.eL m.segs.length := rfl
 exact ⟨mono_of (m.eL_step h.ok.n1) hk, by omega⟩
theorem Planned.load_at {m : Md} (h : Planned m) {k : Nat} (hk : k < m.segs.length) (ht : (m.sg k).typ = 1) : m.eL k ≤ m.P2 k ∧ m.P2 k + (m.sg k).pl.size = m.eL (k + 1) ∧ m.P2 k = nxt (m.eL k) (m.sg k).vaddr (m.sg k).align := by
 have h1 := h.eL_in (k := k + 1) hk
 have e : m.eL (k + 1) = fin (m.eL k) (m.sg k).vaddr (m.sg k).align (m.sg k).pl.size := by rw [Md.eL, if_pos ht]
 have hin := fin_in (e := m.eL k) (v := (m.sg k).vaddr) (a := (m.sg k).align) (n := (m.sg k).pl.size) (by rw [← e]; omega)
 have e2 : m.P2 k = plc (m.eL k) (m.sg k).vaddr (m.sg k).align := by unfold Md.P2 Md.P1; rw [if_pos ht, if_pos ht]
 rw [e2, e]
 exact ⟨hin.2.2.2, hin.2.2.1, hin.1⟩
theorem Planned.other_at {m : Md} (h : Planned m) {k : Nat} (hk : k < m.segs.length) (ht : (m.sg k).typ ≠ 1) (hi : (m.sg k).pl.inn = -1) : m.eO k ≤ m.P2 k ∧ m.P2 k + (m.sg k).pl.size = m.eO (k + 1) := by
 have h1 := h.eO_in (k := k + 1) hk
 have e : m.eO (k + 1) = fin (m.eO k) 0 8 (m.sg k).pl.size := by rw [Md.eO, if_neg ht, if_pos hi]
 have hin := fin_in (e := m.eO k) (v := 0) (a := 8) (n := (m.sg k).pl.size) (by rw [← e]; omega)
 have e2 : m.P2 k = plc (m.eO k) 0 8 := by unfold Md.P2; rw [if_neg ht, if_pos hi]
 rw [e2, e]
 exact ⟨hin.2.2.2, hin.2.2.1⟩
theorem Planned.sec_at {m : Md} (h : Planned m) {k : Nat} (hk : k < m.secs.length) (hi : (m.se k).pl.inn = -1) : m.eS k ≤ m.P3 k ∧ m.P3 k + (m.se k).pl.size = m.eS (k + 1) := by
 have h1 := h.eS_in (k := k + 1) hk
 have e : m.eS (k + 1) = fin (m.eS k) 0 8 (m.se k).pl.size := by rw [Md.eS, if_pos hi]
 have hin := fin_in (e := m.eS k) (v := 0) (a := 8) (n := (m.se k).pl.size) (by rw [← e]; exact h1)
 have e2 : m.P3 k = plc (m.eS k) 0 8 := by unfold Md.P3; rw [if_pos hi]
 rw [e2, e]
 exact ⟨hin.2.2.2, hin.2.2.1⟩
theorem Planned.order {m : Md} (h : Planned m) : hSize m.wide ≤ m.e1 ∧ m.e1 ≤ m.eL m.segs.length ∧ m.eL m.segs.length ≤ m.eO m.segs.length ∧ m.eO m.segs.length = m.eS 0 ∧ m.eS 0 ≤ m.eS m.secs.length ∧ m.eS m.secs.length ≤ m.eT := by
 have a : m.eL 0 ≤ m.eL m.segs.length := mono_of (m.eL_step h.ok.n1) (by omega)
 have b : m.eO 0 ≤ m.eO m.segs.length := mono_of (m.eO_step h.ok.n1) (by omega)
 have c : m.eS 0 ≤ m.eS m.secs.length := mono_of (m.eS_step h.ok.n1) (by omega)
 have d : m.eS m.secs.length ≤ m.eT := by
  unfold Md.eT
  split
  ·exact fin_ge (m.eS_le h.ok.n1 _)
  ·exact Nat.le_refl _
 exact ⟨Nat.le_add_right _ _, a, b, rfl, c, d⟩
end Go.Proofs.YtfglppjilcaafaaGreatDoor
namespace Go.Proofs.YtfglppjilcaafaaGreatDoor
open Go.Lib (hid)
open Go.RowKit
theorem segC_own {m : Md} {s : Sg} (h : m.segC s = 0) (ht : s.typ = 1) : s.pl.inn = -1 := by
 unfold Md.segC at h
 split at h
 ·omega
 split at h
 ·omega
 split at h
 ·omega
 split at h
 ·omega
 ·rename_i h1
  omega
theorem planned_of {m : Md} (ok : m.Ok) (h : m.planC = 0) (hl : ∀ s ∈ m.segs, s.pl.own.length ≤ maxLen) (hl2 : ∀ s ∈ m.secs, s.pl.own.length ≤ maxLen) : Planned m := by
 unfold Md.planC at h
 split at h
 ·omega
 ·rename_i h1
  have hc : m.chk = 0 := by omega
  split at h
  ·rename_i h2
   exact ⟨plan_ok ok hc hl hl2, fun k hk ht => segC_own ((Md.chk_zero hc).1 _ (m.sg_mem hk)) ht, h2⟩
  ·omega
theorem Planned.seg_in {m : Md} (h : Planned m) {k : Nat} (hk : k < m.segs.length) (hi : (m.sg k).pl.inn ≠ -1) : (m.sg k).typ ≠ 1 ∧ ∃ i : Nat, (m.sg k).pl.inn = (i : Int) ∧ i < m.segs.length ∧ m.P2 k = m.P2 i + (m.sg k).pl.off ∧ m.P2 k < 18446744073709551616 := by
 have ht : (m.sg k).typ ≠ 1 := fun e => hi (h.load k hk e)
 refine ⟨ht, ?_⟩
 rcases (h.ok.sg k hk).pl ht with a | ⟨i, a, b, c, d⟩
 ·exact absurd a hi
 ·have e1 : m.P2 i = m.P1 i := by unfold Md.P2; rw [if_pos c]
  have e2 : m.P2 k = m.P1 i + (m.sg k).pl.off := by unfold Md.P2; rw [if_neg ht, if_neg hi, a]; rfl
  have := m.P1_le i
  exact ⟨i, a, b, by rw [e1, e2], by omega⟩
theorem Planned.sec_in {m : Md} (h : Planned m) {k : Nat} (hk : k < m.secs.length) (hi : (m.se k).pl.inn ≠ -1) : ∃ i : Nat, (m.se k).pl.inn = (i : Int) ∧ i < m.segs.length ∧ m.P3 k = m.P2 i + (m.se k).pl.off ∧ m.P3 k < 18446744073709551616 := by
 rcases h.ok.se k hk with a | ⟨i, a, b, c⟩
 ·exact absurd a hi
 ·have e2 : m.P3 k = m.P2 i + (m.se k).pl.off := by unfold Md.P3; rw [if_neg hi, a]; rfl
  exact ⟨i, a, b, e2, by omega⟩
end Go.Proofs.YtfglppjilcaafaaGreatDoor
