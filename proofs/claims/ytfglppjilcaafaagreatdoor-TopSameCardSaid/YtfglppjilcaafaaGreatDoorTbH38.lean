/-
  Several texts in one: The contract of the document's own GetHead.
-/
import Derived.Test.YtfglppjilcaafaaGreatDoorTbH37
import Derived.Test.YtfglppjilcaafaaGreatDoorTbH18
import Derived.Test.YtfglppjilcaafaaGreatDoorTbH17
namespace Go.Proofs.YtfglppjilcaafaaGreatDoor
open Go.Lib (hid)
open Go.RowKit
def RGot (l : List UInt8) (w : World) (e : Ending) (w' : World) : Prop :=
 ∃ c p v, e = .returned (.tuple #[v, .int .i64 (c : Nat), .int .i64 (p : Nat)]) ∧ HTold l c p v ∧ Grow w w'
theorem rgot_ret {l : List UInt8} {w W : World} {tmps : Array Value} {g c p : Nat} {t : TypeId} {h : Hd} (ht : tmps.getD 2 undef = .pointer (some ⟨g, 0, none⟩)) (he : tmps.getD 3 undef = .int .i64 (c : Nat)) (hp : tmps.getD 4 undef = .int .i64 (p : Nat))
  (hx : Blk W g t h.C) (h1 : HTold l c p h.V) (h3 : Grow w W) : bodyPost Tryz.prog Tryz.f17 (RGot l w) .ret ⟨tmps, []⟩ W := by
 refine bodyPost_ret (v := .tuple #[h.V, .int .i64 (c : Nat), .int .i64 (p : Nat)]) ?_ rfl ⟨c, p, h.V, rfl, h1, h3⟩
 rw [results_cell_tmp2 rfl, ht, he, hp]
 simp [asAddr, Result.andThen, hx.var _ _ Tryz.underlying58 rfl (sz_head h)]
 rfl
theorem ON.at13 {w : World} {base : Nat} {e : TypeId} {k : IntKind} {A : Option Addr} {c x0 x1 x2 x3 x4 x5 x6 x7 x8 x9 x10 x11 x12 : Nat} (h : ON w base e k A 13 c [x0, x1, x2, x3, x4, x5, x6, x7, x8, x9, x10, x11, x12]) :
  ∃ g cs, A = some ⟨g, 0, none⟩ ∧ base ≤ g ∧ Blk w g e cs ∧ 13 ≤ c ∧ ∀ W, Blk W g e cs → W.cell? ⟨g, 0, none⟩ = some (.int k x0) ∧ W.cell? ⟨g, 1, none⟩ = some (.int k x1) ∧ W.cell? ⟨g, 2, none⟩ = some (.int k x2) ∧ W.cell? ⟨g, 3, none⟩ = some (.int k x3) ∧
   W.cell? ⟨g, 4, none⟩ = some (.int k x4) ∧ W.cell? ⟨g, 5, none⟩ = some (.int k x5) ∧ W.cell? ⟨g, 6, none⟩ = some (.int k x6) ∧ W.cell? ⟨g, 7, none⟩ = some (.int k x7) ∧ W.cell? ⟨g, 8, none⟩ = some (.int k x8) ∧ W.cell? ⟨g, 9, none⟩ = some (.int k x9) ∧
   W.cell? ⟨g, 10, none⟩ = some (.int k x10) ∧ W.cell? ⟨g, 11, none⟩ = some (.int k x11) ∧ W.cell? ⟨g, 12, none⟩ = some (.int k x12) := by
 rcases h.2 with ⟨_, h0⟩ | ⟨g, cap, cur, hv, hg, hh, hnc, hcm, hsz, htk⟩
 ·omega
 ·injection hv with hA _ hc
  refine ⟨g, cur, hA, hg, hh, by omega, fun W hW => ?_⟩
  have key : ∀ (j y : Nat), j < 13 → [x0, x1, x2, x3, x4, x5, x6, x7, x8, x9, x10, x11, x12][j]? = some y → W.cell? ⟨g, j, none⟩ = some (.int k (y : Int)) := fun j y hj hy => by
   rw [hW.at]
   have e1 : (cur.toList.take (13 * 1))[j]? = some (Value.int k (y : Int)) := by
    rw [htk, List.getElem?_map, hy]; rfl
   rw [List.getElem?_take_of_lt (by omega)] at e1
   simpa using e1
  exact ⟨key 0 _ (by omega) rfl, key 1 _ (by omega) rfl, key 2 _ (by omega) rfl, key 3 _ (by omega) rfl, key 4 _ (by omega) rfl, key 5 _ (by omega) rfl, key 6 _ (by omega) rfl, key 7 _ (by omega) rfl, key 8 _ (by omega) rfl, key 9 _ (by omega) rfl, key 10 _ (by omega) rfl, key 11 _ (by omega) rfl, key 12 _ (by omega) rfl⟩
set_option maxRecDepth 100000 in
set_option maxHeartbeats 2000000 in
theorem rGet_any (A : Option Addr) (n c : Nat) (l : List UInt8) (w : World) (h : RB w w.heap.size A n c l) : Calls Tryz.prog 17 #[.slice A n c] w (RGot l w) := by
 have HR := hid h
 have HLen := hid h.len
 have hcp := h.cap
 have hmx := h.max
 unfold maxLen at hmx
 clear h
 go_enter Tryz.func17, Tryz.ntmps17
 go_wp2_with fail
 generalize hW : World.alloc _ _ = W0
 obtain ⟨b2, hg0⟩ := blk1 hW
 clear hW
 refine (refGetIdent_any A n c l W0 ((HR.out.belowAt hg0 (Nat.le_refl _)).more hg0.size)).mono ?_
 rintro e w1 ⟨c0, p0, rfl, ht, hg1⟩
 have HT := hid ht
 have HB2 : Hid (Blk w1 w.heap.size 58 hd0.C) := b2.grow hg1
 have HG1 : Hid (Grow w w1) := hg0.trans hg1
 clear b2 hg0 ht hg1
 by_cases hc0 : c0 = 0
 ·subst hc0
  have hp0 : p0 = 0 := by
   rcases HT.out with ⟨_, h, _⟩ | ⟨h, _⟩ | ⟨h, _⟩
   ·exact h
   ·omega
   ·omega
  subst hp0
  have hi := idOf_zero l
  rw [hi]
  clear hi
  have HTo : Hid (∀ c p, hdTold l c p → HTold l c p (if c = 0 then (hdOf l).V else hd0.V)) := fun c p h => .inr ⟨HT.out, h, rfl⟩
  obtain ⟨x0, x1, x2, x3, x4, x5, x6, x7, x8, x9, x10, x11, x12, hx⟩ := list13 (hdX_len l)
  have ok := hdOf_ok l
  have hof := hdOf_eq hx
  have HBI := hid (hbad_iff hx)
  have HNu : Hid (nums l (lBig l) 16 (hRow (lWide l)) = [x0, x1, x2, x3, x4, x5, x6, x7, x8, x9, x10, x11, x12]) := hx
  clear hx
  unfold idV
  rw [hof] at ok HTo
  obtain ⟨k0, k1, k3, k4, k5, k6, k9, k11, k12⟩ := ok
  simp only [] at k0 k1 k3 k4 k5 k6 k9 k11 k12
  have HSz := hid (fun w => sizes_any (lWide l) (lBig l) w)
  have HRo := hid (fun w => headRow_any (lWide l) (lBig l) w)
  have HSum := hid (sum_hRow (lWide l))
  have HNL : Hid ((hRow (lWide l)).length = 13) := hid rfl
  have HK2 : Hid (sumN ((hRow (lWide l)).take 2) = 4) := hid rfl
  have HWd := hid (wid_hRow (lWide l))
  have s0 : hSize (lWide l) < 100 := by cases lWide l <;> decide
  have s1 : byWide (lWide l) 32 56 < 100 := by cases lWide l <;> decide
  have s2 : byWide (lWide l) 40 64 < 100 := by cases lWide l <;> decide
  have HTd : Hid (hdTold l = fun c p => (l.length < hSize (lWide l) ∧ c = 2 ∧ p = l.length) ∨ (hSize (lWide l) ≤ l.length ∧ (∀ j, j < 13 → ¬ HBad l j) ∧ c = 0 ∧ p = 0) ∨
   (hSize (lWide l) ≤ l.length ∧ c = 4 ∧ ∃ k, k < 13 ∧ (∀ j, j < k → ¬ HBad l j) ∧ HBad l k ∧ p = 16 + sumN ((hRow (lWide l)).take k))) := hid rfl
  generalize hRow (lWide l) = ns at *
  generalize (l.getD 7 0) = o at *
  generalize (l.getD 8 0) = a at *
  generalize (lWide l) = wide at *
  generalize (lBig l) = big at *
  generalize hSize wide = S at *
  generalize byWide wide 32 56 = S1 at *
  generalize byWide wide 40 64 = S2 at *
  go_wp2_with fail
  refine (HSz.out _).mono ?_
  rintro e w2 ⟨rfl, hg2⟩
  have HB2' := hid ((((HB2.out.alloc (.cells #[.bool wide, .bool big, .int .u8 (o.toNat : Int), .int .u8 (a.toNat : Int)] 25)).alloc (.cells #[.bool wide, .bool big] 23)).grow hg2))
  have hbi := ((Blk.new w1 25 #[.bool wide, .bool big, .int .u8 (o.toNat : Int), .int .u8 (a.toNat : Int)]).alloc (.cells #[.bool wide, .bool big] 23)).grow hg2
  have hbf := (Blk.new (w1.alloc (.cells #[.bool wide, .bool big, .int .u8 (o.toNat : Int), .int .u8 (a.toNat : Int)] 25)) 23 #[.bool wide, .bool big]).grow hg2
  rw [show (w1.alloc (.cells #[.bool wide, .bool big, .int .u8 (o.toNat : Int), .int .u8 (a.toNat : Int)] 25)).heap.size = w1.heap.size + 1 by simp] at hbf
  have HBI2 := hid hbi
  have HBF2 := hid hbf
  have HG2 : Hid (Grow w w2) := ((HG1.out.trans (Grow.of_alloc _ _)).trans (Grow.of_alloc _ _)).trans hg2
  have HL5 : Hid (w.heap.size < w1.heap.size) := HB2.out.lt
  generalize w1.heap.size = g5 at HBI2 HBF2 HL5 ⊢
  clear hbi hbf hg2 HB2 HG1 HSz
  obtain ⟨R, hR⟩ : ∃ R, R = Hd.C ⟨wide, big, o, a, x0, x1, x3, x4, x5, x6, x9, x11, x12⟩ := ⟨_, rfl⟩
  have HR1 := hid hR
  have HR2 : Hid (R = #[.bool wide, .bool big, .int .u8 (o.toNat : Int), .int .u8 (a.toNat : Int), .int .u16 (x0 : Int), .int .u16 (x1 : Int), .int .u64 (x3 : Int), .int .u64 (x4 : Int), .int .u64 (x5 : Int), .int .u32 (x6 : Int), .int .u16 (x9 : Int), .int .u16 (x11 : Int), .int .u16 (x12 : Int)]) := hR
  have HRo1 : Hid (R.all (·.oneCell') = true) := by rw [hR]; exact Hd.one _
  have HRs : Hid (R.size = 13) := by rw [hR]; exact hid rfl
  clear hR
  generalize (o.toNat : Int) = ov at HBI2 HR2 ⊢
  generalize (a.toNat : Int) = av at HBI2 HR2 ⊢
  by_cases hshort : n < S
  ·have HT3 : Hid (HTold l 2 n hd0.V) := HTo.out 2 n (by rw [HTd.out]; exact .inl ⟨by rw [← HLen.out]; exact hshort, rfl, HLen.out⟩)
   go_wp2_with (refine wpList_store_row rfl 58 (.tmp 2) (.tmp 39) rfl w.heap.size hd0.C rfl rfl _ _ HB2'.out (sz_head hd0) rfl hd0.one ?_; rw [HB2'.out.same])
   exact rgot_ret (c := 2) (p := n) rfl rfl rfl HB2'.out HT3.out HG2.out
  ·have hll : S ≤ l.length := by have := HLen.out; omega
   have HLL := hid hll
   obtain ⟨f0, f1⟩ := HBF2.out.c2
   clear hll
   go_wp2_with fail
   clear f0 f1
   refine (HRo.out _).mono ?_
   rintro e w3 ⟨gr, rfl, hbr, hle3, hg3⟩
   have HBR := hid hbr
   have HB23 := hid (HB2'.out.grow hg3)
   have HBI3 := hid (HBI2.out.grow hg3)
   have HBF3 := hid (HBF2.out.grow hg3)
   have HG3 : Hid (Grow w w3) := HG2.out.trans hg3
   have HNR3 : Hid (NS w3 w3.heap.size .i64 (some ⟨gr, 0, none⟩) 13 13 ns) := NS.of_blk13 hbr HNL.out hbr.lt rfl
   have HRr : Hid (RB w3 w3.heap.size A n c l) := (HR.out.belowAt HG3.out (Nat.le_refl _)).more HG3.out.size
   have HLr : Hid (w.heap.size < gr) := Nat.lt_of_lt_of_le (Nat.lt_of_lt_of_le HL5.out (Nat.le_of_lt HBI2.out.lt)) hle3
   clear hbr hle3 hg3 HB2' HBI2 HBF2 HG2 HRo
   obtain ⟨f0, f1⟩ := HBF3.out.c2
   go_wp2_with fail
   clear f0 f1
   refine (numbersRef_any A n c l 16 _ 13 13 ns big _ HRr.out HNR3.out (by omega) HWd.out (by rw [HNL.out]; omega) (by rw [HNL.out]; omega)).mono ?_
   rintro e w4 (⟨_, A4, c4, rfl, ho4, hg4⟩ | ⟨hbad, _⟩)
   ·rw [HNu.out, HNL.out] at ho4
    obtain ⟨gn, cs, rfl, hle4, hbn, hc4, hcells⟩ := ho4.at13
    have HCells := hid hcells
    have HBN := hid hbn
    have HB24 := hid (HB23.out.grow hg4)
    have HBI4 := hid (HBI3.out.grow hg4)
    have HBR4 := hid (HBR.out.grow hg4)
    have HG4 : Hid (Grow w w4) := HG3.out.trans hg4
    rw [HNL.out]
    clear ho4 hle4 hbn hcells hg4 HB23 HBI3 HBF3 HBR HG3 HNR3 HRr
    go_wp2_with fail
    refine wp_region_leap (leap_bar w4.heap.size) [(0, true), (1, true), (2, true), (3, true), (4, true), (5, true), (6, true), (7, true), (8, true), (9, true), (10, true), (11, true), (12, true), (13, true), (14, true), (15, true), (16, true), (17, true), (18, true), (19, true), (20, true), (21, true), (22, true), (23, true), (24, true), (25, true), (26, true), (27, true), (28, true), (29, true), (30, true), (31, true), (32, true), (33, true), (34, true), (35, false), (36, false)] (by kernel_rfl) (by kernel_rfl) (by kernel_rfl) ?_
    have HX : Hid (∀ W, Bar w4.heap.size w4.drew W → _ ∧ _) := fun W hW => ⟨(HBI4.out.drew.bar hW (Nat.ne_of_lt HBI4.out.lt)).c4, HCells.out W (HBN.out.drew.bar hW (Nat.ne_of_lt HBN.out.lt))⟩
    have HB25 := hid HB24.out.drew
    have HBN5 := hid HBN.out.drew
    have HBR5 := hid HBR4.out.drew
    have HG5 : Hid (Grow w w4.drew) := HG4.out.trans (Grow.of_drew _)
    rw [show w4.heap.size = w4.drew.heap.size from rfl] at HX ⊢
    generalize w4.drew = w5 at HX HB25 HBN5 HBR5 HG5 ⊢
    clear HB24 HBI4 HBR4 HBN HG4
    have z0 : IntKind.u16.wrap (x0 : Int) = (x0 : Int) := by rw [IntKind.wrap_u16]; omega
    have z1 : IntKind.u16.wrap (x1 : Int) = (x1 : Int) := by rw [IntKind.wrap_u16]; omega
    have z6 : IntKind.u32.wrap (x6 : Int) = (x6 : Int) := by rw [IntKind.wrap_u32]; omega
    have z9 : IntKind.u16.wrap (x9 : Int) = (x9 : Int) := by rw [IntKind.wrap_u16]; omega
    have z11 : IntKind.u16.wrap (x11 : Int) = (x11 : Int) := by rw [IntKind.wrap_u16]; omega
    have z12 : IntKind.u16.wrap (x12 : Int) = (x12 : Int) := by rw [IntKind.wrap_u16]; omega
    repeat (refine chain_take rfl (by rfl) ?_ (fun W hG => ?_) ?_; rotate_left; (obtain ⟨⟨i0, i1, i2, i3⟩, y0, y1, y2, y3, y4, y5, y6, y7, y8, y9, y10, y11, y12⟩ := HX.out W hG; go_simp; rfl); simp only [Act.put, List.setIfInBounds_toArray, List.set_cons_zero, List.set_cons_succ])
    clear HX z0 z1 z6 z9 z11 z12
    refine chain_only rfl (by rfl) (fun K hK => ?_)
    go_simp
    refine hK _ _ (Bar.of_grow (Grow.of_alloc _ _)) ?_
    clear hK K
    refine chain_only rfl (by rfl) (fun K hK => ?_)
    refine wp_store_row 58 (.tmp 15) (.tmp 86) rfl w5.heap.size R rfl (by rw [HR2.out]; rfl) _ _ (Blk.new _ _ _) (by rw [HRs.out]; kernel_rfl) (by rw [HRs.out]; rfl) HRo1.out ?_
    refine hK _ _ (Bar.set _ _ _) ?_
    clear hK K
    rw [World.setRow_alloc_new]
    refine chain_done ?_
    have HBH := hid (Blk.new w5 58 R)
    have HB26 := hid (HB25.out.alloc (.cells R 58))
    have HBN6 := hid (HBN5.out.alloc (.cells R 58))
    have HBR6 := hid (HBR5.out.alloc (.cells R 58))
    have HG6 : Hid (Grow w (w5.alloc (.cells R 58))) := HG5.out.trans (Grow.of_alloc _ _)
    generalize w5.alloc (.cells R 58) = w6 at HBH HB26 HBN6 HBR6 HG6 ⊢
    generalize w5.heap.size = gh at HBH ⊢
    clear HB25 HBN5 HBR5 HG5
    obtain ⟨-, -, y2, -, -, y5, -, y7, y8, y9, y10, -, -⟩ := HCells.out w6 HBN6.out
    have HNR6 : Hid (NS w6 w6.heap.size .i64 (some ⟨gr, 0, none⟩) 13 13 ns) := NS.of_blk13 HBR6.out HNL.out HBR6.out.lt rfl
    have HW8 : Hid (∀ k (h : k < ns.length), ns[k] ≤ 8) := fun k h => by have := wid_cases (HWd.out k h); omega
    have HSm : Hid (∀ m, m ≤ 13 → Calls Tryz.prog 45 #[.slice (some ⟨gr, 0, none⟩) (m : Nat) 13] w6 fun e w' => e = .returned (.int .i64 (sumN (ns.take m) : Nat)) ∧ w6 = w') := fun m hm =>
     sumRef_any _ m 13 (ns.take m) w6 (HNR6.out.first hm) (by have := HNL.out; simp; omega) (fun k hk => by rw [List.getElem_take]; exact HW8.out k (by simp at hk; omega))
    have HSl : Hid (∀ m, sumN (ns.take m) ≤ 84) := fun m => by have e1 := sumN_le ns m; have e2 := HSum.out; omega
    have zS : IntKind.u64.wrap (S : Int) = (S : Int) := by rw [IntKind.wrap_u64]; omega
    have zS1 : IntKind.u64.wrap (S1 : Int) = (S1 : Int) := by rw [IntKind.wrap_u64]; omega
    have zS2 : IntKind.u64.wrap (S2 : Int) = (S2 : Int) := by rw [IntKind.wrap_u64]; omega
    by_cases e2 : x2 = 1
    ·by_cases e7 : x7 = S
     ·by_cases e8 : x9 ≠ 0 ∧ x8 ≠ S1
      ·obtain ⟨e9, e8⟩ := e8
       have HT4 : Hid (HTold l 4 (16 + sumN (ns.take 8)) hd0.V) := HTo.out 4 _ (by
        rw [HTd.out]
        refine .inr (.inr ⟨HLL.out, rfl, 8, by omega, fun j hj hb => ?_, (HBI.out 8 (by omega)).2 (.inr (.inr (.inl ⟨rfl, e9, e8⟩))), rfl⟩)
        have := (HBI.out j (by omega)).1 hb; omega)
       have hsm := HSm.out 8 (by omega)
       have hs84 := HSl.out 8
       generalize sumN (ns.take 8) = s at HT4 hsm hs84
       have HSk := hid hsm
       clear hsm
       have c2 : ((x2 : Int) != 1) = false := by simp; omega
       have c7 : ((x7 : Int) != (S : Int)) = false := by simp; omega
       have c9 : ((x9 : Int) != 0) = true := by simp; omega
       have c8 : ((x8 : Int) != (S1 : Int)) = true := by simp; omega
       clear e2 e7 e9 e8
       go_wp2_with fail
       refine HSk.out.mono ?_
       rintro e w7 ⟨rfl, rfl⟩
       go_wp2_with (refine wpList_store_row rfl 58 (.tmp 2) (.tmp 115) rfl w.heap.size hd0.C rfl rfl _ _ HB26.out (sz_head hd0) rfl hd0.one ?_; rw [HB26.out.same])
       exact rgot_ret (c := 4) (p := 16 + s) rfl rfl (by rw [show ((16 + s : Nat) : Int) = 16 + (s : Int) by omega]; rfl) HB26.out HT4.out HG6.out
      ·by_cases e10 : x5 ≠ 0 ∧ x10 ≠ S2
       ·obtain ⟨e5, e10⟩ := e10
        by_cases e9 : x9 = 0
        ·have HT4 : Hid (HTold l 4 (16 + sumN (ns.take 10)) hd0.V) := HTo.out 4 _ (by
          rw [HTd.out]
          refine .inr (.inr ⟨HLL.out, rfl, 10, by omega, fun j hj hb => ?_, (HBI.out 10 (by omega)).2 (.inr (.inr (.inr ⟨rfl, e5, e10⟩))), rfl⟩)
          have := (HBI.out j (by omega)).1 hb; omega)
         have hsm := HSm.out 10 (by omega)
         have hs84 := HSl.out 10
         generalize sumN (ns.take 10) = s at HT4 hsm hs84
         have HSk := hid hsm
         clear hsm
         have c2 : ((x2 : Int) != 1) = false := by simp; omega
         have c7 : ((x7 : Int) != (S : Int)) = false := by simp; omega
         have c9 : ((x9 : Int) != 0) = false := by simp; omega
         have c5 : ((x5 : Int) != 0) = true := by simp; omega
         have c10 : ((x10 : Int) != (S2 : Int)) = true := by simp; omega
         clear e2 e7 e8 e9 e5 e10
         go_wp2_with fail
         refine HSk.out.mono ?_
         rintro e w7 ⟨rfl, rfl⟩
         go_wp2_with (refine wpList_store_row rfl 58 (.tmp 2) (.tmp 132) rfl w.heap.size hd0.C rfl rfl _ _ HB26.out (sz_head hd0) rfl hd0.one ?_; rw [HB26.out.same])
         exact rgot_ret (c := 4) (p := 16 + s) rfl rfl (by rw [show ((16 + s : Nat) : Int) = 16 + (s : Int) by omega]; rfl) HB26.out HT4.out HG6.out
        ·have HT4 : Hid (HTold l 4 (16 + sumN (ns.take 10)) hd0.V) := HTo.out 4 _ (by
          rw [HTd.out]
          refine .inr (.inr ⟨HLL.out, rfl, 10, by omega, fun j hj hb => ?_, (HBI.out 10 (by omega)).2 (.inr (.inr (.inr ⟨rfl, e5, e10⟩))), rfl⟩)
          have := (HBI.out j (by omega)).1 hb; omega)
         have hsm := HSm.out 10 (by omega)
         have hs84 := HSl.out 10
         generalize sumN (ns.take 10) = s at HT4 hsm hs84
         have HSk := hid hsm
         clear hsm
         have c2 : ((x2 : Int) != 1) = false := by simp; omega
         have c7 : ((x7 : Int) != (S : Int)) = false := by simp; omega
         have c9 : ((x9 : Int) != 0) = true := by simp; omega
         have c8 : ((x8 : Int) != (S1 : Int)) = false := by simp; omega
         have c5 : ((x5 : Int) != 0) = true := by simp; omega
         have c10 : ((x10 : Int) != (S2 : Int)) = true := by simp; omega
         clear e2 e7 e8 e9 e5 e10
         go_wp2_with fail
         refine HSk.out.mono ?_
         rintro e w7 ⟨rfl, rfl⟩
         go_wp2_with (refine wpList_store_row rfl 58 (.tmp 2) (.tmp 132) rfl w.heap.size hd0.C rfl rfl _ _ HB26.out (sz_head hd0) rfl hd0.one ?_; rw [HB26.out.same])
         exact rgot_ret (c := 4) (p := 16 + s) rfl rfl (by rw [show ((16 + s : Nat) : Int) = 16 + (s : Int) by omega]; rfl) HB26.out HT4.out HG6.out
       ·have HT4 : Hid (HTold l 0 0 (Hd.V ⟨wide, big, o, a, x0, x1, x3, x4, x5, x6, x9, x11, x12⟩)) := HTo.out 0 0 (by
         rw [HTd.out]
         refine .inr (.inl ⟨HLL.out, fun j hj hb => ?_, rfl, rfl⟩)
         have := (HBI.out j hj).1 hb; omega)
        by_cases e9 : x9 = 0 <;> by_cases e5 : x5 = 0
        ·have c2 : ((x2 : Int) != 1) = false := by simp; omega
         have c7 : ((x7 : Int) != (S : Int)) = false := by simp; omega
         have c9 : ((x9 : Int) != 0) = false := by simp; omega
         have c5 : ((x5 : Int) != 0) = false := by simp; omega
         clear e2 e7 e8 e9 e5 e10
         go_wp2_with (first
          | (refine wpList_load_row rfl 58 (.tmp 15) rfl gh rfl _ R (0, 0) _ HBH.out Tryz.underlying58 rfl (by rw [HRs.out]; kernel_rfl) ?_)
          | (refine wpList_store_row rfl 58 (.tmp 2) (.tmp 137) rfl w.heap.size R rfl rfl _ _ HB26.out (by rw [HRs.out]; kernel_rfl) (by rw [HRs.out]; rfl) HRo1.out ?_))
         exact rgot_ret (c := 0) (p := 0) (h := ⟨wide, big, o, a, x0, x1, x3, x4, x5, x6, x9, x11, x12⟩) rfl rfl rfl (by rw [← HR1.out]; exact HB26.out.set R) HT4.out (Grow.set HG6.out (Nat.le_refl _) R)
        ·have c2 : ((x2 : Int) != 1) = false := by simp; omega
         have c7 : ((x7 : Int) != (S : Int)) = false := by simp; omega
         have c9 : ((x9 : Int) != 0) = false := by simp; omega
         have c5 : ((x5 : Int) != 0) = true := by simp; omega
         have c10 : ((x10 : Int) != (S2 : Int)) = false := by simp; omega
         clear e2 e7 e8 e9 e5 e10
         go_wp2_with (first
          | (refine wpList_load_row rfl 58 (.tmp 15) rfl gh rfl _ R (0, 0) _ HBH.out Tryz.underlying58 rfl (by rw [HRs.out]; kernel_rfl) ?_)
          | (refine wpList_store_row rfl 58 (.tmp 2) (.tmp 137) rfl w.heap.size R rfl rfl _ _ HB26.out (by rw [HRs.out]; kernel_rfl) (by rw [HRs.out]; rfl) HRo1.out ?_))
         exact rgot_ret (c := 0) (p := 0) (h := ⟨wide, big, o, a, x0, x1, x3, x4, x5, x6, x9, x11, x12⟩) rfl rfl rfl (by rw [← HR1.out]; exact HB26.out.set R) HT4.out (Grow.set HG6.out (Nat.le_refl _) R)
        ·have c2 : ((x2 : Int) != 1) = false := by simp; omega
         have c7 : ((x7 : Int) != (S : Int)) = false := by simp; omega
         have c9 : ((x9 : Int) != 0) = true := by simp; omega
         have c8 : ((x8 : Int) != (S1 : Int)) = false := by simp; omega
         have c5 : ((x5 : Int) != 0) = false := by simp; omega
         clear e2 e7 e8 e9 e5 e10
         go_wp2_with (first
          | (refine wpList_load_row rfl 58 (.tmp 15) rfl gh rfl _ R (0, 0) _ HBH.out Tryz.underlying58 rfl (by rw [HRs.out]; kernel_rfl) ?_)
          | (refine wpList_store_row rfl 58 (.tmp 2) (.tmp 137) rfl w.heap.size R rfl rfl _ _ HB26.out (by rw [HRs.out]; kernel_rfl) (by rw [HRs.out]; rfl) HRo1.out ?_))
         exact rgot_ret (c := 0) (p := 0) (h := ⟨wide, big, o, a, x0, x1, x3, x4, x5, x6, x9, x11, x12⟩) rfl rfl rfl (by rw [← HR1.out]; exact HB26.out.set R) HT4.out (Grow.set HG6.out (Nat.le_refl _) R)
        ·have c2 : ((x2 : Int) != 1) = false := by simp; omega
         have c7 : ((x7 : Int) != (S : Int)) = false := by simp; omega
         have c9 : ((x9 : Int) != 0) = true := by simp; omega
         have c8 : ((x8 : Int) != (S1 : Int)) = false := by simp; omega
         have c5 : ((x5 : Int) != 0) = true := by simp; omega
         have c10 : ((x10 : Int) != (S2 : Int)) = false := by simp; omega
         clear e2 e7 e8 e9 e5 e10
         go_wp2_with (first
          | (refine wpList_load_row rfl 58 (.tmp 15) rfl gh rfl _ R (0, 0) _ HBH.out Tryz.underlying58 rfl (by rw [HRs.out]; kernel_rfl) ?_)
          | (refine wpList_store_row rfl 58 (.tmp 2) (.tmp 137) rfl w.heap.size R rfl rfl _ _ HB26.out (by rw [HRs.out]; kernel_rfl) (by rw [HRs.out]; rfl) HRo1.out ?_))
         exact rgot_ret (c := 0) (p := 0) (h := ⟨wide, big, o, a, x0, x1, x3, x4, x5, x6, x9, x11, x12⟩) rfl rfl rfl (by rw [← HR1.out]; exact HB26.out.set R) HT4.out (Grow.set HG6.out (Nat.le_refl _) R)
     ·have HT4 : Hid (HTold l 4 (16 + sumN (ns.take 7)) hd0.V) := HTo.out 4 _ (by
       rw [HTd.out]
       refine .inr (.inr ⟨HLL.out, rfl, 7, by omega, fun j hj hb => ?_, (HBI.out 7 (by omega)).2 (.inr (.inl ⟨rfl, e7⟩)), rfl⟩)
       have := (HBI.out j (by omega)).1 hb; omega)
      have hsm := HSm.out 7 (by omega)
      have hs84 := HSl.out 7
      generalize sumN (ns.take 7) = s at HT4 hsm hs84
      have HSk := hid hsm
      clear hsm
      have c2 : ((x2 : Int) != 1) = false := by simp; omega
      have c7 : ((x7 : Int) != (S : Int)) = true := by simp; omega
      clear e2 e7
      go_wp2_with fail
      refine HSk.out.mono ?_
      rintro e w7 ⟨rfl, rfl⟩
      go_wp2_with (refine wpList_store_row rfl 58 (.tmp 2) (.tmp 98) rfl w.heap.size hd0.C rfl rfl _ _ HB26.out (sz_head hd0) rfl hd0.one ?_; rw [HB26.out.same])
      exact rgot_ret (c := 4) (p := 16 + s) rfl rfl (by rw [show ((16 + s : Nat) : Int) = 16 + (s : Int) by omega]; rfl) HB26.out HT4.out HG6.out
    ·have HT4 : Hid (HTold l 4 20 hd0.V) := HTo.out 4 20 (by
      rw [HTd.out]
      refine .inr (.inr ⟨HLL.out, rfl, 2, by omega, fun j hj hb => ?_, (HBI.out 2 (by omega)).2 (.inl ⟨rfl, e2⟩), ?_⟩)
      ·have := (HBI.out j (by omega)).1 hb; omega
      ·rw [HK2.out])
     have c2 : ((x2 : Int) != 1) = true := by simp; omega
     clear e2
     go_wp2_with (refine wpList_store_row rfl 58 (.tmp 2) (.tmp 91) rfl w.heap.size hd0.C rfl rfl _ _ HB26.out (sz_head hd0) rfl hd0.one ?_; rw [HB26.out.same])
     exact rgot_ret (c := 4) (p := 20) rfl rfl rfl HB26.out HT4.out HG6.out
   ·exact absurd hbad (by rw [HSum.out]; have := HLL.out; omega)
 ·rw [show idOf l c0 = .agg #[.bool false, .bool false, .int .u8 0, .int .u8 0] from idOf_bad l hc0]
  have HT2 : Hid (HTold l c0 p0 hd0.V) := .inl ⟨hc0, HT.out, rfl⟩
  have hne : ((c0 : Int) != 0) = true := by simp; omega
  have HB3 : Hid (∀ o : Obj, Blk (w1.alloc o) w.heap.size 58 hd0.C) := fun o => HB2.out.alloc o
  clear hc0
  go_wp2_with (refine wpList_store_row rfl 58 (.tmp 2) (.tmp 24) rfl w.heap.size hd0.C rfl rfl _ _ (HB3.out _) (sz_head hd0) rfl hd0.one ?_; rw [(HB3.out _).same])
  exact rgot_ret (c := c0) (p := p0) rfl rfl rfl (HB3.out _) HT2.out (HG1.out.trans (Grow.of_alloc _ _))
end Go.Proofs.YtfglppjilcaafaaGreatDoor
