/-
  Several texts in one: The contract of head; The contracts of file.
-/
import Derived.Test.YtlccbekalccahaaGreatDoorFqH14
import Derived.Test.YtlccbekalccahaaGreatDoorFqH16
import Derived.Test.YtlccbekalccahaaGreatDoorFqH8
namespace Go.Proofs.YtlccbekalccahaaGreatDoor
open Go.Lib (hid)
open Go.RowKit
set_option maxRecDepth 100000
def HGot (l : List UInt8) (w : World) (e : Ending) (w' : World) : Prop :=
 ∃ c p v err, e = .returned (.tuple #[v, err]) ∧ HTold l c p v ∧ Err w' err c p ∧ Grow w w'
theorem hgot_ret {l : List UInt8} {w W : World} {tmps : Array Value} {g c p : Nat} {err : Value} {t : TypeId} {h : Hd} (ht : tmps.getD 2 undef = .pointer (some ⟨g, 0, none⟩)) (he : tmps.getD 3 undef = err)
  (hx : Blk W g t h.C) (h1 : HTold l c p h.V) (h2 : Err W err c p) (h3 : Grow w W) : bodyPost Tryz.prog Tryz.f25 (HGot l w) .ret ⟨tmps, []⟩ W := by
 refine bodyPost_ret (v := .tuple #[h.V, err]) ?_ rfl ⟨c, p, h.V, err, rfl, h1, h2, h3⟩
 rw [results_cell_tmp rfl, ht, he]
 simp [asAddr, Result.andThen, hx.var _ _ Tryz.underlying69 rfl (by kernel_rfl)]
 rfl
theorem sz_head (h : Hd) : (Tryz.prog.info? 69).map (·.size) = some h.C.size := by kernel_rfl
set_option maxHeartbeats 800000 in
theorem hGet_any (A : Option Addr) (n c : Nat) (l : List UInt8) (w : World) (h : RB w w.heap.size A n c l) : Calls Tryz.prog 25 #[.slice A n c] w (HGot l w) := by
 have HR := hid h
 have HLen := hid h.len
 have hcp := h.cap
 have hmx := h.max
 unfold maxLen at hmx
 clear h
 go_enter Tryz.func25, Tryz.ntmps25
 go_wp2_with fail
 generalize hW : World.alloc _ _ = W0
 obtain ⟨b2, hg0⟩ := blk1 hW
 clear hW
 refine (idGet_any A n c l W0 ((HR.out.belowAt hg0 (Nat.le_refl _)).more hg0.size)).mono ?_
 rintro e w1 ⟨c0, p0, err, rfl, ht, he, hg1⟩
 have HT := hid ht
 have HE := hid he
 have HB2 : Hid (Blk w1 w.heap.size 69 hd0.C) := b2.grow hg1
 have HG1 : Hid (Grow w w1) := hg0.trans hg1
 have HS : Hid (w.heap.size ≤ w.heap.size) := Nat.le_refl _
 clear b2 hg0 ht he hg1
 rcases HE.out with ⟨rfl, rfl, rfl⟩ | ⟨h0, b, rfl, hb, hc1, hc2⟩
 ·have hi := idOf_zero l
  rw [hi]
  clear hi
  have HN : Hid (∀ w, Calls Tryz.prog 62 #[.agg (hdOf l).C] w fun e w' => e = .returned (.agg (u64s (hdOf l).N)) ∧ Grow w w') := fun w => numbers_any (hdOf l) (hdOf_ok l) w
  have HMB : Hid (∀ (k : Nat) w, Calls Tryz.prog 63 #[.int .i64 k, .agg (hdOf l).C] w fun e w' => e = .returned (.bool (mayAny k (hdOf l).pn (hdOf l).sh)) ∧ Grow w w') := fun k w => mayBeAny_any (hdOf l) k w
  have HHd : Hid (∀ w, Calls Tryz.prog 61 #[.agg #[.bool (lWide l), .bool (lBig l), .int .u8 ((l.getD 7 0).toNat : Int), .int .u8 ((l.getD 8 0).toNat : Int)], .agg (u64s (hdX l))] w fun e w' => e = .returned (.agg (hdOf l).C) ∧ Grow w w') := fun w => by
   obtain ⟨x0, x1, x2, x3, x4, x5, x6, x7, x8, x9, x10, x11, x12, hx⟩ := list13 (hdX_len l)
   have ok := hdOf_ok l
   rw [hdOf_eq hx] at ok ⊢
   rw [hx]
   exact header_any (lWide l) (lBig l) (l.getD 7 0) (l.getD 8 0) x0 x1 x2 x3 x4 x5 x6 x7 x8 x9 x10 x11 x12 w ok.ty ok.ma ok.fl ok.pn ok.sn ok.st
  have HRd : Hid (∀ w, RB w w.heap.size A n c l → hSize (lWide l) ≤ l.length → Calls Tryz.prog 60 #[.slice A n c, .agg #[.bool (lWide l), .bool (lBig l)]] w fun e w' => e = .returned (.tuple #[.agg (u64s (hdX l)), .agg (i64s (hPl (lWide l)))]) ∧ Grow w w') :=
   fun w h1 h2 => hRead_any A n c l (lWide l) (lBig l) w h1 h2
  have HSz : Hid (∀ w, Calls Tryz.prog 59 #[.agg #[.bool (lWide l), .bool (lBig l)]] w fun e w' => e = .returned (.int .i64 (hSize (lWide l) : Nat)) ∧ Grow w w') := fun w => hSize_any _ _ w
  have HXk := hid (fun k (hk : k < 13) => idx_u64s (hdX l) k (by rw [hdX_len]; exact hk))
  have HNk := hid (fun k (hk : k < 13) => idx_u64s (hdOf l).N k hk)
  have HPk := hid (fun k (hk : k < 13) => (idx_i64s (hPl (lWide l)) k (by simpa [hPl] using hk)))
  have HXs : Hid ((u64s (hdX l)).size = 13) := hid (by simp [u64s, hdX_len])
  have HPs : Hid ((i64s (hPl (lWide l))).size = 13) := hid (by simp [i64s, hPl])
  have HXo := hid (one_u64s (hdX l))
  have HPo := hid (one_i64s (hPl (lWide l)))
  have HBd : Hid (∀ k, HBad l k ↔ (hdX l).getD k 0 ≠ (hdOf l).N.getD k 0 ∧ mayAny k (hdOf l).pn (hdOf l).sh = false) := fun k => Iff.rfl
  have HPl : Hid (∀ k, k < 13 → (hPl (lWide l)).getD k 0 = 16 + sumN ((hRow (lWide l)).take k)) := fun k hk => by rw [List.getD_eq_getElem?_getD, hPl_at _ _ hk]; exact rfl
  have HC1 : Hid ((hdOf l).C.size = 13) := hid rfl
  have HC2 := hid (hdOf l).one
  have HTo : Hid (∀ c p, hdTold l c p → HTold l c p (if c = 0 then (hdOf l).V else hd0.V)) := fun c p h => .inr ⟨HT.out, h, rfl⟩
  generalize hR : (hdOf l).C = R at HN HMB HHd HC1 HC2
  have HRC := hid hR
  clear hR
  generalize u64s (hdOf l).N = RN at HN HNk
  generalize u64s (hdX l) = RX at HHd HRd HXk HXs HXo
  generalize i64s (hPl (lWide l)) = RP at HRd HPk HPs HPo
  unfold idV
  generalize ((l.getD 7 0).toNat : Int) = ov at HHd ⊢
  generalize ((l.getD 8 0).toNat : Int) = av at HHd ⊢
  obtain ⟨wide, hwide⟩ : ∃ b, b = lWide l := ⟨_, rfl⟩
  obtain ⟨big, hbig⟩ : ∃ b, b = lBig l := ⟨_, rfl⟩
  rw [← hwide, ← hbig] at HHd HRd HSz ⊢
  have HWide := hid hwide
  clear hwide hbig
  go_wp2_with fail
  refine (HSz.out _).mono ?_
  rintro e w2 ⟨rfl, hg2⟩
  have HB4 := hid ((Blk.new w1 25 #[.bool wide, .bool big, .int .u8 ov, .int .u8 av]).grow hg2)
  have HB2' := hid ((HB2.out.alloc (.cells #[.bool wide, .bool big, .int .u8 ov, .int .u8 av] 25)).grow hg2)
  have HG2 : Hid (Grow w w2) := (HG1.out.trans (Grow.of_alloc _ _)).trans hg2
  have HLt : Hid (w.heap.size < w1.heap.size) := HB2.out.lt
  generalize w1.heap.size = g4 at HB4 HLt ⊢
  clear hg2 HG1 HB2 HE HT
  generalize hsz : hSize wide = sz at HRd ⊢
  have HSzz := hid hsz
  have hsz1 : sz < 100 := by rw [← hsz]; cases wide <;> decide
  clear hsz HSz
  by_cases hshort : n < sz
  ·have HT3 : Hid (HTold l 2 n hd0.V) := HTo.out 2 n (.inl ⟨by rw [← HLen.out, ← HWide.out, HSzz.out]; exact hshort, rfl, HLen.out⟩)
   go_wp2_with (refine wpList_store_row rfl 69 (.tmp 2) (.tmp 26) rfl w.heap.size hd0.C rfl rfl _ _ (HB2'.out.alloc _) (sz_head hd0) rfl hd0.one ?_; rw [(HB2'.out.alloc _).same])
   exact hgot_ret (err := .iface 107 (.pointer (some ⟨w2.heap.size, 0, none⟩))) (c := 2) rfl rfl (HB2'.out.alloc _) HT3.out (Err.box w2 2 n _ (by omega)) (HG2.out.trans (Grow.of_alloc _ _))
  ·have hll : sz ≤ l.length := by have := HLen.out; omega
   have HLL : Hid (hSize (lWide l) ≤ l.length) := by rw [← HWide.out, HSzz.out]; exact hll
   have HRr : Hid (RB w2 w2.heap.size A n c l) := (HR.out.belowAt HG2.out (Nat.le_refl _)).more HG2.out.size
   obtain ⟨y0, y1, y2, y3⟩ := HB4.out.c4
   have HLz := hid hll
   clear hll
   go_wp2_with fail
   clear y0 y1 y2 y3
   refine (HRd.out w2 HRr.out HLz.out).mono ?_
   rintro e w3 ⟨rfl, hg3⟩
   have HB4' := hid ((HB4.out.grow hg3))
   have HB2 := hid ((HB2'.out.grow hg3))
   have HG3 : Hid (Grow w w3) := HG2.out.trans hg3
   clear hg3 HB4 HB2' HG2 HRr HRd HSzz hsz1 hshort
   go_wp2_with (first
    | (refine wpList_store_row rfl 133 (.tmp 6) (.tmp 37) rfl w3.heap.size RX rfl rfl _ _ (blk2 rfl).1 (by rw [HXs.out]; kernel_rfl) (by rw [HXs.out]; rfl) HXo.out ?_)
    | (refine wpList_store_row rfl 134 (.tmp 7) (.tmp 38) rfl (w3.heap.size + 1) RP rfl rfl _ _ ((blk2 rfl).2.1.other (by omega) _) (by rw [HPs.out]; kernel_rfl) (by rw [HPs.out]; rfl) HPo.out ?_
       generalize hW4 : World.setRow (World.setRow _ _ _) _ _ = w4
       have HB6 : Hid (Blk w4 w3.heap.size 133 RX) := by rw [← hW4]; exact ((blk2 rfl).1.set RX).other (by omega) _
       have HB7 : Hid (Blk w4 (w3.heap.size + 1) 134 RP) := by rw [← hW4]; exact ((blk2 rfl).2.1.other (by omega) _).set RP
       have HG4 : Hid (Grow w3 w4) := by rw [← hW4]; exact Grow.set (Grow.set (blk2 rfl).2.2 (Nat.le_refl _) _) (Nat.le_succ _) _
       have y := (HB4'.out.grow HG4.out).c4
       obtain ⟨y0, y1, y2, y3⟩ := y
       clear hW4)
    | (refine wpList_load_row rfl 133 (.tmp 6) rfl w3.heap.size rfl _ RX (0, 0) _ HB6.out Tryz.underlying133 rfl (by rw [HXs.out]; kernel_rfl) ?_))
   clear y0 y1 y2 y3
   have HB2b := hid (HB2.out.grow HG4.out)
   have HG4b : Hid (Grow w w4) := HG3.out.trans HG4.out
   have HL6 : Hid (w.heap.size < w3.heap.size) := HB2.out.lt
   generalize w3.heap.size = g6 at HB6 HB7 HL6 ⊢
   clear HB4' HB2 HG3 HG4
   refine (HHd.out w4).mono ?_
   rintro e w5 ⟨rfl, hg5⟩
   have HB2c := hid (HB2b.out.grow hg5)
   have HB6c := hid (HB6.out.grow hg5)
   have HB7c := hid (HB7.out.grow hg5)
   have HG5 : Hid (Grow w w5) := HG4b.out.trans hg5
   clear hg5 HB2b HB6 HB7 HG4b HHd
   go_wp2_with (first
    | (refine wpList_store_row rfl 69 (.tmp 8) (.tmp 41) rfl w5.heap.size R rfl rfl _ _ (Blk.new _ _ _) (by rw [HC1.out]; kernel_rfl) (by rw [HC1.out]; rfl) HC2.out ?_; rw [World.setRow_alloc_new])
    | (refine wpList_load_row rfl 69 (.tmp 8) rfl w5.heap.size rfl _ R (0, 0) _ (Blk.new _ _ _) Tryz.underlying69 rfl (by rw [HC1.out]; kernel_rfl) ?_))
   refine (HN.out _).mono ?_
   rintro e w6 ⟨rfl, hg6⟩
   have HB2 := hid ((HB2c.out.alloc _).grow hg6)
   have HB6 := hid ((HB6c.out.alloc _).grow hg6)
   have HB7 := hid ((HB7c.out.alloc _).grow hg6)
   have HB8 := hid ((Blk.new w5 69 R).grow hg6)
   have HG6 : Hid (Grow w w6) := (HG5.out.trans (Grow.of_alloc _ _)).trans hg6
   generalize w5.heap.size = g8 at HB8 ⊢
   clear hg6 HB2c HB6c HB7c HG5 HN
   go_wp2_with fail
   go_loopw [44] (fun i wr => ∃ k : Nat, k ≤ 13 ∧ i = .int .i64 k ∧ (∀ j, j < k → ¬ HBad l j) ∧ Blk wr w.heap.size 69 hd0.C ∧ Blk wr g6 133 RX ∧ Blk wr (g6 + 1) 134 RP ∧ Blk wr g8 69 R ∧ Grow w wr) (fun i _ => 13 - (intOf i).toNat)
   case atStart => exact ⟨0, by omega, rfl, fun j h => absurd h (Nat.not_lt_zero _), HB2.out, HB6.out, HB7.out, HB8.out, HG6.out⟩
   case round =>
    obtain ⟨k, hk, rfl, hno, hb2, hb6, hb7, hb8, hg⟩ := hrel
    clear HB2 HB6 HB7 HB8 HG6
    have HNO := hid hno
    have HB2 := hid hb2
    have HB6 := hid hb6
    have HB7 := hid hb7
    have HB8 := hid hb8
    have HG := hid hg
    clear hno hb2 hb6 hb7 hb8 hg
    by_cases hlt : k < 13
    ·have HX1 := hid (HXk.out k hlt)
     have HN1 := hid (HNk.out k hlt)
     have HP1 := hid (HPk.out k hlt)
     have HBk := hid (HBd.out k)
     have HPp := hid (HPl.out k hlt)
     have HMk := hid (HMB.out k)
     generalize (hdX l).getD k 0 = x at HX1 HBk
     generalize (hdOf l).N.getD k 0 = y at HN1 HBk
     generalize (hPl (lWide l)).getD k 0 = p at HP1 HPp
     generalize mayAny k (hdOf l).pn (hdOf l).sh = mb at HBk HMk
     have c1 : wr.cell? ⟨g6, k, none⟩ = some (.int .u64 (x : Int)) := (HB6.out.at k).trans HX1.out
     have z1 : (0 : Int) ≤ (k : Int) := by omega
     have z2 : (k : Int) < 13 := by omega
     by_cases hxy : x = y
     ·have hne : ((x : Int) != (y : Int)) = false := by simp [hxy]
      have HOK : Hid (∀ j, j < k + 1 → ¬ HBad l j) := fun j hj => by
       rcases Nat.lt_succ_iff_lt_or_eq.1 hj with h1 | h1
       ·exact HNO.out j h1
       ·rw [h1]; exact fun hb => (HBk.out.1 hb).1 hxy
      clear hxy
      go_wp2_with (refine wpList_index rfl 133 28 (.tmp 43) (.tmp 44) rfl 13 _ Tryz.underlying133 Tryz.underlying28 rfl (by kernel_rfl) RN k (.int .u64 (y : Int)) rfl rfl hlt HN1.out ?_)
      go_roundw
      case rel => exact ⟨k + 1, by omega, by go_num, HOK.out, HB2.out, HB6.out, HB7.out, HB8.out, HG.out⟩
      case measure => simp [intOf]; omega
     ·have hne : ((x : Int) != (y : Int)) = true := by simp; omega
      have HXY := hid hxy
      clear hxy
      obtain ⟨r0, r1, r2, r3, r4, r5, r6, r7, r8, r9, r10, r11, r12, rfl⟩ := arr13 HC1.out
      obtain ⟨q0, q1, q2, q3, q4, q5, q6, q7, q8, q9, q10, q11, q12⟩ := HB8.out.c13
      go_wp2_with (refine wpList_index rfl 133 28 (.tmp 43) (.tmp 44) rfl 13 _ Tryz.underlying133 Tryz.underlying28 rfl (by kernel_rfl) RN k (.int .u64 (y : Int)) rfl rfl hlt HN1.out ?_)
      clear q0 q1 q2 q3 q4 q5 q6 q7 q8 q9 q10 q11 q12 c1 hne
      refine (HMk.out _).mono ?_
      rintro e w7 ⟨rfl, hg7⟩
      have HB2n := hid (HB2.out.grow hg7)
      have HB6n := hid (HB6.out.grow hg7)
      have HB7n := hid (HB7.out.grow hg7)
      have HB8n := hid (HB8.out.grow hg7)
      have HGn : Hid (Grow w w7) := HG.out.trans hg7
      clear hg7 HB2 HB6 HB7 HB8 HG
      cases mb
      ·have HT4 : Hid (HTold l 4 p hd0.V) := HTo.out 4 p (.inr (.inr ⟨HLL.out, rfl, k, hlt, HNO.out, HBk.out.2 ⟨HXY.out, rfl⟩, HPp.out⟩))
       go_wp2_with fail
       refine wp_region_fork [(0, true), (1, true), (2, true), (3, true), (4, true)] 5 [(6, true), (7, false), (8, true)] 7 [(5, false), (6, true), (8, true)] (by kernel_rfl) (by kernel_rfl) (by kernel_rfl) ?_
       have HP2 : Hid (∀ W, Grow w7.drew W → W.cell? ⟨g6 + 1, k, none⟩ = some (.int .i64 (p : Int))) := fun W hW => (((HB7n.out.drew).grow hW).at k).trans HP1.out
       have HBd2 : Hid (Blk w7.drew w.heap.size 69 hd0.C) := HB2n.out
       have HGd : Hid (Grow w w7.drew) := HGn.out.trans (Grow.of_drew _)
       generalize w7.drew = w8 at HP2 HBd2 HGd ⊢
       clear HB2n HB6n HB7n HB8n HGn
       repeat (refine chain_take rfl (by rfl) ?_ (fun W hG => ?_) ?_; rotate_left; (have q := HP2.out W hG; go_simp; rfl); simp only [Act.put, List.setIfInBounds_toArray, List.set_cons_zero, List.set_cons_succ])
       refine chain_done ⟨step_op rfl (by rfl) (fun K hK => ?_), step_op rfl (by rfl) (fun K hK => ?_)⟩
       ·go_simp
        refine hK _ _ (Grow.of_alloc _ _) ?_
        clear hK K
        repeat (refine chain_take rfl (by rfl) ?_ (fun W hG => ?_) ?_; rotate_left; (go_simp; rfl); simp only [Act.put, List.setIfInBounds_toArray, List.set_cons_zero, List.set_cons_succ])
        refine chain_only rfl (by rfl) (fun K hK => ?_)
        refine wp_store_row 69 (.tmp 2) (.tmp 59) rfl w.heap.size hd0.C rfl rfl _ _ (HBd2.out.alloc _) (sz_head hd0) rfl hd0.one ?_
        rw [(HBd2.out.alloc _).same]
        refine hK _ _ (Grow.refl _) ?_
        clear hK K
        repeat (refine chain_take rfl (by rfl) ?_ (fun W hG => ?_) ?_; rotate_left; (go_simp; rfl); simp only [Act.put, List.setIfInBounds_toArray, List.set_cons_zero, List.set_cons_succ])
        refine chain_done ?_
        go_wp2
        exact hgot_ret (err := .iface 107 (.pointer (some ⟨w8.heap.size, 0, none⟩))) (c := 4) rfl rfl (HBd2.out.alloc _) HT4.out (Err.box w8 4 p _ (by omega)) (HGd.out.trans (Grow.of_alloc _ _))
       ·refine wp_store_row 69 (.tmp 2) (.tmp 59) rfl w.heap.size hd0.C rfl rfl _ _ HBd2.out (sz_head hd0) rfl hd0.one ?_
        rw [HBd2.out.same]
        refine hK _ _ (Grow.refl _) ?_
        clear hK K
        refine chain_only rfl (by rfl) (fun K hK => ?_)
        go_simp
        refine hK _ _ (Grow.of_alloc _ _) ?_
        clear hK K
        repeat (refine chain_take rfl (by rfl) ?_ (fun W hG => ?_) ?_; rotate_left; (go_simp; rfl); simp only [Act.put, List.setIfInBounds_toArray, List.set_cons_zero, List.set_cons_succ])
        refine chain_done ?_
        go_wp2
        exact hgot_ret (err := .iface 107 (.pointer (some ⟨w8.heap.size, 0, none⟩))) (c := 4) rfl rfl (HBd2.out.alloc _) HT4.out (Err.box w8 4 p _ (by omega)) (HGd.out.trans (Grow.of_alloc _ _))
      ·have HOK : Hid (∀ j, j < k + 1 → ¬ HBad l j) := fun j hj => by
        rcases Nat.lt_succ_iff_lt_or_eq.1 hj with h1 | h1
        ·exact HNO.out j h1
        ·rw [h1]; exact fun hb => absurd (HBk.out.1 hb).2 (by decide)
       go_wp2_with fail
       go_roundw
       case rel => exact ⟨k + 1, by omega, by go_num, HOK.out, HB2n.out, HB6n.out, HB7n.out, HB8n.out, HGn.out⟩
       case measure => simp [intOf]; omega
    ·have HT4 : Hid (HTold l 0 0 (hdOf l).V) := HTo.out 0 0 (.inr (.inl ⟨HLL.out, fun j hj => HNO.out j (by omega), rfl, rfl⟩))
     go_wp2_with (first
      | (refine wpList_load_row rfl 69 (.tmp 8) rfl g8 rfl _ R (0, 0) _ HB8.out Tryz.underlying69 rfl (by rw [HC1.out]; kernel_rfl) ?_)
      | (refine wpList_store_row rfl 69 (.tmp 2) (.tmp 67) rfl w.heap.size R rfl rfl _ _ HB2.out (by rw [HC1.out]; kernel_rfl) (by rw [HC1.out]; rfl) HC2.out ?_))
     exact hgot_ret (err := .nilIface) (c := 0) (p := 0) (h := hdOf l) rfl rfl (by rw [HRC.out]; exact HB2.out.set R) HT4.out (.inl ⟨rfl, rfl, rfl⟩) (Grow.set HG.out (Nat.le_refl _) R)
 ·rw [show idOf l c0 = .agg #[.bool false, .bool false, .int .u8 0, .int .u8 0] from idOf_bad l (by omega)]
  have HT2 : Hid (HTold l c0 p0 hd0.V) := .inl ⟨by omega, HT.out, rfl⟩
  clear hb hc1 hc2 h0
  have HB3 : Hid (∀ o : Obj, Blk (w1.alloc o) w.heap.size 69 hd0.C) := fun o => HB2.out.alloc o
  go_wp2_with (refine wpList_store_row rfl 69 (.tmp 2) (.tmp 18) rfl w.heap.size hd0.C rfl rfl _ _ (HB3.out _) (sz_head hd0) rfl hd0.one ?_; rw [(HB3.out _).same])
  exact hgot_ret (err := .iface 107 (.pointer (some ⟨b, 0, none⟩))) rfl rfl (HB3.out _) HT2.out (HE.out.grow (Grow.of_alloc _ _)) (HG1.out.trans (Grow.of_alloc _ _))
set_option maxRecDepth 100000
set_option linter.unusedVariables false
def Spt (w : World) (v : Value) (c p : Nat) : Prop := ∃ b, v = .iface 107 (.pointer (some ⟨b, 0, none⟩)) ∧ b < w.heap.size ∧ w.cell? ⟨b, 0, none⟩ = some (.int .i64 (p : Int)) ∧ w.cell? ⟨b, 1, none⟩ = some (.int .i64 (c : Int))
theorem Spt.err {w : World} {v : Value} {c p : Nat} (h : Spt w v c p) (hc : 0 < c) : Err w v c p := .inr ⟨hc, h⟩
theorem Spt.grow {w w' : World} {v : Value} {c p : Nat} (h : Spt w v c p) (hg : Grow w w') : Spt w' v c p := by
 obtain ⟨b, h1, h2, h3, h4⟩ := h
 exact ⟨b, h1, Nat.lt_of_lt_of_le h2 hg.size, by rw [hg.cell h2]; exact h3, by rw [hg.cell h2]; exact h4⟩
theorem fspot_any (p c : Nat) (w : World) : Calls Tryz.prog 24 #[.int .i64 (p : Int), .int .i64 (c : Int)] w fun e w' => ∃ b, e = .returned (.iface 107 (.pointer (some ⟨b, 0, none⟩))) ∧ Spt w' (.iface 107 (.pointer (some ⟨b, 0, none⟩))) c p ∧ Grow w w' := by
 go_enter Tryz.func24, Tryz.ntmps24
 go_wp2
 go_ret
 exact ⟨_, rfl, ⟨w.heap.size, rfl, by simp, by simp, by simp⟩, Grow.of_alloc _ _⟩
theorem fspot_4 (p : Nat) (w : World) : Calls Tryz.prog 24 #[.int .i64 (p : Int), .int .i64 4] w fun e w' => ∃ b, e = .returned (.iface 107 (.pointer (some ⟨b, 0, none⟩))) ∧ Spt w' (.iface 107 (.pointer (some ⟨b, 0, none⟩))) 4 p ∧ Grow w w' := fspot_any p 4 w
theorem fspot_5 (p : Nat) (w : World) : Calls Tryz.prog 24 #[.int .i64 (p : Int), .int .i64 5] w fun e w' => ∃ b, e = .returned (.iface 107 (.pointer (some ⟨b, 0, none⟩))) ∧ Spt w' (.iface 107 (.pointer (some ⟨b, 0, none⟩))) 5 p ∧ Grow w w' := fspot_any p 5 w
theorem fspot_8 (p : Nat) (w : World) : Calls Tryz.prog 24 #[.int .i64 (p : Int), .int .i64 8] w fun e w' => ∃ b, e = .returned (.iface 107 (.pointer (some ⟨b, 0, none⟩))) ∧ Spt w' (.iface 107 (.pointer (some ⟨b, 0, none⟩))) 8 p ∧ Grow w w' := fspot_any p 8 w
theorem num_0 (a b c d e : Value) (W : World) : (Instr.field 143 (.agg #[a, b, c, d, e]) 0).run Tryz.prog W = .ok a W := by kernel_rfl
theorem num_1 (a b c d e : Value) (W : World) : (Instr.field 143 (.agg #[a, b, c, d, e]) 1).run Tryz.prog W = .ok b W := by kernel_rfl
theorem num_2 (a b c d e : Value) (W : World) : (Instr.field 143 (.agg #[a, b, c, d, e]) 2).run Tryz.prog W = .ok c W := by kernel_rfl
theorem num_3 (a b c d e : Value) (W : World) : (Instr.field 143 (.agg #[a, b, c, d, e]) 3).run Tryz.prog W = .ok d W := by kernel_rfl
theorem num_4 (a b c d e : Value) (W : World) : (Instr.field 143 (.agg #[a, b, c, d, e]) 4).run Tryz.prog W = .ok e W := by kernel_rfl
def bare (ty : Nat) : Bool := decide (ty = 0) || decide (ty = 8)
theorem hasNo_any (ty : Nat) (w : World) : Calls Tryz.prog 71 #[.int .u32 (ty : Int)] w fun e w' => e = .returned (.bool (bare ty)) ∧ w = w' := by
 have E : Hid (bare ty = (((ty : Int) == 0) || ((ty : Int) == 8))) := hid (by
  unfold bare
  rw [Bool.eq_iff_iff]
  simp
  omega)
 generalize bare ty = R at E ⊢
 by_cases h0 : ((ty : Int) == 0) = true
 ·rw [h0] at E
  go_enter Tryz.func71, Tryz.ntmps71
  go_wp2
  go_ret
  exact ⟨by rw [E.out]; rfl, rfl⟩
 ·have h0' : ((ty : Int) == 0) = false := by simpa using h0
  rw [h0'] at E
  clear h0
  go_enter Tryz.func71, Tryz.ntmps71
  go_wp2
  go_ret
  exact ⟨ret_bool (by rw [E.out]; rfl), rfl⟩
theorem isIn_any (A : Option Addr) (n c p m : Nat) (w : World) (hn : n ≤ maxLen) : Calls Tryz.prog 70 #[.slice A n c, .int .u64 (p : Int), .int .u64 (m : Int)] w fun e w' => e = .returned (.bool (inB n p m)) ∧ w = w' := by
 unfold maxLen at hn
 have z : IntKind.u64.wrap (n : Int) = (n : Int) := by rw [IntKind.wrap_u64]; omega
 by_cases h0 : m = 0
 ·have E : Hid (inB n p m = true) := hid (by unfold inB; simp [h0])
  generalize inB n p m = R at E ⊢
  have d : ((m : Int) == 0) = true := by simp [h0]
  clear h0
  go_enter Tryz.func70, Tryz.ntmps70
  go_wp2
  go_ret
  exact ⟨by rw [E.out]; rfl, rfl⟩
 ·have E : Hid (wthn (p : Nat) (m : Nat) (n : Nat) = inB n p m) := hid (by unfold wthn inB; rw [Bool.eq_iff_iff]; simp; omega)
  generalize inB n p m = R at E ⊢
  have d : ((m : Int) == 0) = false := by simp [h0]
  clear h0
  go_enter Tryz.func70, Tryz.ntmps70
  go_wp2_with (go_at_call 113; refine (within_any _ _ _ _ (by omega) (by omega) (by omega)).mono ?_; rintro e w' ⟨rfl, rfl⟩; rw [E.out])
  go_ret
  exact ⟨rfl, rfl⟩
theorem places_any (wide big : Bool) (w : World) : Calls Tryz.prog 65 #[.agg #[.bool wide, .bool big]] w fun e w' => e = .returned (.agg #[.int .i64 (oPh wide : Nat), .int .i64 (oSh wide : Nat), .int .i64 (oPn wide : Nat), .int .i64 (oSn wide : Nat), .int .i64 (oSt wide : Nat)]) ∧ Grow w w' := by
 cases wide
 ·go_enter Tryz.func65, Tryz.ntmps65
  go_wp2
  refine bodyPost_ret (results_cell_row rfl _ _ (w.heap.size + 1) _ _ (0, 0) _ rfl (blk2 rfl).2.1 Tryz.underlying143 rfl (by kernel_rfl)) rfl ?_
  exact ⟨rfl, (blk2 rfl).2.2⟩
 ·go_enter Tryz.func65, Tryz.ntmps65
  go_wp2
  refine bodyPost_ret (results_cell_row rfl _ _ (w.heap.size + 1) _ _ (0, 0) _ rfl (blk2 rfl).2.1 Tryz.underlying143 rfl (by kernel_rfl)) rfl ?_
  exact ⟨rfl, (blk2 rfl).2.2⟩
set_option maxHeartbeats 4000000 in
theorem countsOf_any (h : Hd) (hok : h.Ok) (s : Sc) (sok : s.Ok) (w : World) : Calls Tryz.prog 66 #[h.V, s.V] w fun e w' => e = .returned (.agg #[.int .u64 ((if h.pn = 65535 then s.inf else h.pn : Nat) : Int), .int .u64 ((if h.sn = 0 then s.sz else h.sn : Nat) : Int), .int .u64 ((if h.st = 65535 then s.li else h.st : Nat) : Int)]) ∧ Grow w w' := by
 obtain ⟨k1, k2, k3, k4, k5, k6, k7, k8, k9⟩ := hok
 obtain ⟨s1, s2, s3, s4, s5, s6, s7, s8, s9, s10⟩ := sok
 obtain ⟨wide, big, o, a, ty, ma, en, ph, sh, fl, pn, sn, st⟩ := h
 obtain ⟨na, sty, sfl, ad, off, sz, li, inf, al, sen⟩ := s
 unfold Hd.V Hd.C Sc.V Sc.C
 simp only [] at *
 have z1 : IntKind.u64.wrap (pn : Int) = (pn : Int) := by rw [IntKind.wrap_u64]; omega
 have z2 : IntKind.u64.wrap (sn : Int) = (sn : Int) := by rw [IntKind.wrap_u64]; omega
 have z3 : IntKind.u64.wrap (st : Int) = (st : Int) := by rw [IntKind.wrap_u64]; omega
 have z4 : IntKind.u64.wrap (inf : Int) = (inf : Int) := by rw [IntKind.wrap_u64]; omega
 have z5 : IntKind.u64.wrap (li : Int) = (li : Int) := by rw [IntKind.wrap_u64]; omega
 clear k1 k2 k3 k4 k5 k6 k7 k8 k9 s1 s2 s3 s4 s5 s6 s7 s8 s9 s10
 obtain ⟨r1, e1⟩ : ∃ r, (if pn = 65535 then inf else pn : Nat) = r := ⟨_, rfl⟩
 obtain ⟨r2, e2⟩ : ∃ r, (if sn = 0 then sz else sn : Nat) = r := ⟨_, rfl⟩
 obtain ⟨r3, e3⟩ : ∃ r, (if st = 65535 then li else st : Nat) = r := ⟨_, rfl⟩
 rw [e1, e2, e3]
 by_cases h0 : pn = 65535
 ·rw [if_pos h0] at e1
  have E1 := hid e1
  have d0 : ((pn : Int) == 65535) = true := by simp [h0]
  clear h0 e1
  by_cases h1 : sn = 0
  ·rw [if_pos h1] at e2
   have E2 := hid e2
   have d1 : ((sn : Int) == 0) = true := by simp [h1]
   clear h1 e2
   by_cases h2 : st = 65535
   ·rw [if_pos h2] at e3
    have E3 := hid e3
    have d2 : ((st : Int) == 65535) = true := by simp [h2]
    clear h2 e3
    go_enter Tryz.func66, Tryz.ntmps66
    go_wp2
    refine bodyPost_ret (results_cell_row rfl _ _ (w.heap.size + 1 + 1) _ _ (0, 0) _ rfl (blk4 rfl).2.2.1 Tryz.underlying86 rfl (by kernel_rfl)) rfl ?_
    exact ⟨by rw [← E1.out, ← E2.out, ← E3.out], (blk4 rfl).2.2.2.2⟩
   ·rw [if_neg h2] at e3
    have E3 := hid e3
    have d2 : ((st : Int) == 65535) = false := by simp; omega
    clear h2 e3
    go_enter Tryz.func66, Tryz.ntmps66
    go_wp2
    refine bodyPost_ret (results_cell_row rfl _ _ (w.heap.size + 1 + 1) _ _ (0, 0) _ rfl (blk4 rfl).2.2.1 Tryz.underlying86 rfl (by kernel_rfl)) rfl ?_
    exact ⟨by rw [← E1.out, ← E2.out, ← E3.out], (blk4 rfl).2.2.2.2⟩
  ·rw [if_neg h1] at e2
   have E2 := hid e2
   have d1 : ((sn : Int) == 0) = false := by simp; omega
   clear h1 e2
   by_cases h2 : st = 65535
   ·rw [if_pos h2] at e3
    have E3 := hid e3
    have d2 : ((st : Int) == 65535) = true := by simp [h2]
    clear h2 e3
    go_enter Tryz.func66, Tryz.ntmps66
    go_wp2
    refine bodyPost_ret (results_cell_row rfl _ _ (w.heap.size + 1 + 1) _ _ (0, 0) _ rfl (blk4 rfl).2.2.1 Tryz.underlying86 rfl (by kernel_rfl)) rfl ?_
    exact ⟨by rw [← E1.out, ← E2.out, ← E3.out], (blk4 rfl).2.2.2.2⟩
   ·rw [if_neg h2] at e3
    have E3 := hid e3
    have d2 : ((st : Int) == 65535) = false := by simp; omega
    clear h2 e3
    go_enter Tryz.func66, Tryz.ntmps66
    go_wp2
    refine bodyPost_ret (results_cell_row rfl _ _ (w.heap.size + 1 + 1) _ _ (0, 0) _ rfl (blk4 rfl).2.2.1 Tryz.underlying86 rfl (by kernel_rfl)) rfl ?_
    exact ⟨by rw [← E1.out, ← E2.out, ← E3.out], (blk4 rfl).2.2.2.2⟩
 ·rw [if_neg h0] at e1
  have E1 := hid e1
  have d0 : ((pn : Int) == 65535) = false := by simp; omega
  clear h0 e1
  by_cases h1 : sn = 0
  ·rw [if_pos h1] at e2
   have E2 := hid e2
   have d1 : ((sn : Int) == 0) = true := by simp [h1]
   clear h1 e2
   by_cases h2 : st = 65535
   ·rw [if_pos h2] at e3
    have E3 := hid e3
    have d2 : ((st : Int) == 65535) = true := by simp [h2]
    clear h2 e3
    go_enter Tryz.func66, Tryz.ntmps66
    go_wp2
    refine bodyPost_ret (results_cell_row rfl _ _ (w.heap.size + 1 + 1) _ _ (0, 0) _ rfl (blk4 rfl).2.2.1 Tryz.underlying86 rfl (by kernel_rfl)) rfl ?_
    exact ⟨by rw [← E1.out, ← E2.out, ← E3.out], (blk4 rfl).2.2.2.2⟩
   ·rw [if_neg h2] at e3
    have E3 := hid e3
    have d2 : ((st : Int) == 65535) = false := by simp; omega
    clear h2 e3
    go_enter Tryz.func66, Tryz.ntmps66
    go_wp2
    refine bodyPost_ret (results_cell_row rfl _ _ (w.heap.size + 1 + 1) _ _ (0, 0) _ rfl (blk4 rfl).2.2.1 Tryz.underlying86 rfl (by kernel_rfl)) rfl ?_
    exact ⟨by rw [← E1.out, ← E2.out, ← E3.out], (blk4 rfl).2.2.2.2⟩
  ·rw [if_neg h1] at e2
   have E2 := hid e2
   have d1 : ((sn : Int) == 0) = false := by simp; omega
   clear h1 e2
   by_cases h2 : st = 65535
   ·rw [if_pos h2] at e3
    have E3 := hid e3
    have d2 : ((st : Int) == 65535) = true := by simp [h2]
    clear h2 e3
    go_enter Tryz.func66, Tryz.ntmps66
    go_wp2
    refine bodyPost_ret (results_cell_row rfl _ _ (w.heap.size + 1 + 1) _ _ (0, 0) _ rfl (blk4 rfl).2.2.1 Tryz.underlying86 rfl (by kernel_rfl)) rfl ?_
    exact ⟨by rw [← E1.out, ← E2.out, ← E3.out], (blk4 rfl).2.2.2.2⟩
   ·rw [if_neg h2] at e3
    have E3 := hid e3
    have d2 : ((st : Int) == 65535) = false := by simp; omega
    clear h2 e3
    go_enter Tryz.func66, Tryz.ntmps66
    go_wp2
    refine bodyPost_ret (results_cell_row rfl _ _ (w.heap.size + 1 + 1) _ _ (0, 0) _ rfl (blk4 rfl).2.2.1 Tryz.underlying86 rfl (by kernel_rfl)) rfl ?_
    exact ⟨by rw [← E1.out, ← E2.out, ← E3.out], (blk4 rfl).2.2.2.2⟩
end Go.Proofs.YtlccbekalccahaaGreatDoor
