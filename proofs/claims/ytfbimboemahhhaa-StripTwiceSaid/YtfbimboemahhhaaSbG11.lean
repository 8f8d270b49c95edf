/-
  Several texts in one: The contract of strip; The document's example (up) of layer 18; The contract of the statements' Few; Small facts of a model's number; The contract of the statements' Bools at two readings of one list of truths; how long the names' bytes are; Images, as plain data.
-/
import Derived.Test.YtfbimboemahhhaaSbG6
import Derived.Test.YtfbimboemahhhaaSbG10
import Derived.Test.YtfbimboemahhhaaSbG3
import Derived.WalkKit
import Derived.BigQuiet
import Derived.Deep.QuietTactic
import Derived.Lib.Hide
import Derived.Laws.MakeOwn
import Derived.Test.YtfbimboemahhhaaSbG9
import Derived.Test.YtfbimboemahhhaaRows
import Derived.Test.YtfbimboemahhhaaSbG4
import Derived.Test.YtfbimboemahhhaaSbG5
namespace Go.Proofs.Ytfbimboemahhhaa
open Go.Lib (hid)
open Go.RowKit
set_option maxRecDepth 100000
set_option linter.unusedVariables false
set_option maxHeartbeats 8000000 in
theorem strip_any (m : Md) (ok : m.Ok) (A1 A2 : Option Addr) (n1 c1 n2 c2 : Nat) (w : World) (g1 : ZR sgK w w.heap.size A1 n1 c1 m.segs) (g2 : ZR seK w w.heap.size A2 n2 c2 m.secs) (hsm : m.strs.length ≤ 140737488355328) (hn1 : n1 ≤ 65536) (hn2 : n2 ≤ 65536)
  (hs1 : ∀ s ∈ m.segs, s.pl.own.length ≤ 140737488355328) (hs2 : ∀ s ∈ m.secs, s.pl.own.length ≤ 140737488355328) :
  Calls Try.prog 9 #[.agg (mdC m (.slice A1 n1 c1) (.slice A2 n2 c2))] w fun e w' => ∃ A3 c3 A4 c4, e = .returned (.agg (mdC m (.slice A3 n1 c3) (.slice A4 n2 c4))) ∧ ZR sgK w' w'.heap.size A3 n1 c3 m.segs ∧ ZR seK w' w'.heap.size A4 n2 c4 m.strip.secs ∧ Grow w w' := by
 obtain ⟨x0, x1, x2, x3, x4, x5, x6, x7, x10, hC⟩ : ∃ x0 x1 x2 x3 x4 x5 x6 x7 x10 : Value, (∀ s t, mdC m s t = #[x0, x1, x2, x3, x4, x5, x6, x7, s, t, x10]) ∧ (x0.oneCell' = true ∧ x1.oneCell' = true ∧ x2.oneCell' = true ∧ x3.oneCell' = true ∧ x4.oneCell' = true ∧ x5.oneCell' = true ∧ x6.oneCell' = true ∧ x7.oneCell' = true ∧ x10.oneCell' = true) := ⟨_, _, _, _, _, _, _, _, _, fun _ _ => rfl, by simp [Value.oneCell']⟩
 obtain ⟨hC, hO⟩ := hC
 have HOne := hid hO
 have HGo := hid (fun W (hW : Grow w W) => goes_any m ok A1 A2 n1 c1 n2 c2 W (g1.grow hW) (g2.grow hW) hsm hn2)
 have HC1 := hid (fun W (hW : Grow w W) => cloneSegs_any A1 n1 c1 m.segs w.heap.size W (g1.belowAt hW (Nat.le_refl _)) hW.size hn1)
 have HC2 := hid (fun W (hW : Grow w W) => cloneSecs_any A2 n2 c2 m.secs w.heap.size W (g2.belowAt hW (Nat.le_refl _)) hW.size hn2)
 have HL1 := hid g1.len
 have HL2 := hid g2.len
 have HS1 := hid hs1
 have HS2 := hid hs2
 have HK0 := hid m.cutTo_zero
 have HKn := hid (m.cutTo_all g2.len)
 have HKl := hid m.cutTo_len
 have HKa := hid (fun k (h : k < m.secs.length) h' => m.cutTo_at h h')
 have HKs : Hid (∀ k, k < m.secs.length → m.goes k = true → m.cutTo (k + 1) = (m.cutTo k).set k seX) := hid fun k h hg => by rw [m.cutTo_succ k, Md.left, if_pos hg]
 have HKf : Hid (∀ k, k < m.secs.length → m.goes k = false → m.cutTo (k + 1) = m.cutTo k) := hid fun k h hg => m.cut_same h hg
 rw [hC] at HGo ⊢
 simp only [hC]
 clear hC hO g1 g2 hsm hs1 hs2 ok
 generalize m.goes = Gg at *
 generalize m.strip.secs = Lx at *
 generalize m.cutTo = Ck at *
 generalize m.segs = L1 at *
 generalize m.secs = L2 at *
 go_enter Try.func9, Try.ntmps9
 go_wp2_with fail
 generalize hW : World.alloc _ _ = W0
 obtain ⟨b1, b2, hg0⟩ := blk2 hW
 clear hW
 obtain ⟨gm, hgm⟩ : ∃ g, g = w.heap.size := ⟨_, rfl⟩
 rw [← hgm] at b1 b2 ⊢
 have HB0 := hid b1
 have HX0 := hid b2
 have HG0 := hid hg0
 have HGM : Hid (w.heap.size ≤ gm ∧ w.heap.size ≤ gm + 1 ∧ gm ≠ gm + 1) := hid (by omega)
 clear b1 b2 hg0 hgm
 generalize gm + 1 = gr at HX0 HGM ⊢
 obtain ⟨v0, v1, v2, v3, v4, v5, v6, v7, v8, v9, v10⟩ := HB0.out.c11
 go_wp2_with fail
 clear v0 v1 v2 v3 v4 v5 v6 v7 v8 v9 v10
 refine (HGo.out _ HG0.out).mono ?_
 rintro e w1 ⟨gg, rfl, -, hr, hg⟩
 have HB1 := hid (HB0.out.grow hg).drew
 have HX1 := hid (HX0.out.grow hg).drew
 have HR1 := hid (World.rowIs.drew hr)
 have HG1 : Hid (Grow w w1.drew) := hid ((HG0.out.trans hg).trans (Grow.of_drew _))
 clear hr hg HB0 HX0 HG0 HGo
 go_wp2_with fail
 refine wp_region_last (leap_keepC gm 9) [(0, true), (3, true), (4, true), (1, false), (2, false), (6, true), (5, false), (7, false), (8, true)] 9 (by kernel_rfl) (by kernel_rfl) (by kernel_rfl) ?_
 generalize w1.drew = v0 at HB1 HX1 HR1 HG1 ⊢
 have q9 : ∀ W, KeepC gm 9 v0 W → W.cell? ⟨gm, 9, none⟩ = some (.slice A2 n2 c2) := fun W hW => hW.2.trans (HB1.out.at 9)
 repeat ((first | (refine chain_take rfl (by rfl) ?_ (fun W hG => ?_) ?_; rotate_left; (go_simp; rfl)) | refine chain_skip rfl (by rfl) ?_); simp only [Act.put, List.setIfInBounds_toArray, List.set_cons_zero, List.set_cons_succ])
 clear q9
 have q8 : v0.cell? ⟨gm, 8, none⟩ = some (.slice A1 n1 c1) := HB1.out.at 8
 refine chain_only rfl (by rfl) (fun K hK => ?_)
 go_simp
 refine hK _ _ ((leap_keepC gm 9).refl _) ?_
 clear hK K q8
 refine chain_only rfl (by rfl) (fun K hK => ?_)
 go_simp
 refine (HC1.out _ HG1.out).mono ?_
 rintro e v1 ⟨A3, c3, rfl, hgm1, hg⟩
 refine hK _ _ (KeepC.of_grow hg HB1.out.lt) ?_
 clear hK K
 have HB2 := hid (HB1.out.grow hg)
 have HX2 := hid (HX1.out.grow hg)
 have HR2 := hid (bools_grow HR1.out hg)
 have HG2 : Hid (Grow w v1) := hid (HG1.out.trans hg)
 have HM2 := hid hgm1
 clear hgm1 hg HB1 HX1 HR1 HG1 HC1
 repeat ((first | (refine chain_take rfl (by rfl) ?_ (fun W hG => ?_) ?_; rotate_left; (go_simp; rfl)) | refine chain_skip rfl (by rfl) ?_); simp only [Act.put, List.setIfInBounds_toArray, List.set_cons_zero, List.set_cons_succ])
 refine chain_only rfl (by rfl) (fun K hK => ?_)
 go_simp
 refine (HC2.out _ HG2.out).mono ?_
 rintro e v2 ⟨A4, c4, rfl, hgm2, hg⟩
 refine hK _ _ (KeepC.of_grow hg HB2.out.lt) ?_
 clear hK K
 have HB3 := hid (HB2.out.grow hg)
 have HX3 := hid (HX2.out.grow hg)
 have HR3 := hid (bools_grow HR2.out hg)
 have HM3 := hid (HM2.out.keep hg HG2.out.size)
 have HN3 := hid hgm2
 have HG3 : Hid (Grow w v2) := hid (HG2.out.trans hg)
 clear hgm2 hg HB2 HX2 HR2 HG2 HC2 HM2
 repeat ((first | (refine chain_take rfl (by rfl) ?_ (fun W hG => ?_) ?_; rotate_left; (go_simp; rfl)) | refine chain_skip rfl (by rfl) ?_); simp only [Act.put, List.setIfInBounds_toArray, List.set_cons_zero, List.set_cons_succ])
 refine chain_only rfl (by rfl) (fun K hK => ?_)
 have c9 : v2.cell? ⟨gm, 8, none⟩ = some (.slice A1 n1 c1) := HB3.out.at 8
 have s9 := HB3.out.soft 8
 go_simp
 refine hK _ _ (KeepC.of_set (by omega) _) ?_
 clear hK K c9 s9
 have e9 := setCell_eq_setRow v2 gm 8 _ 32 (0, 0) (.slice A3 n1 c3) HB3.out
 have hgr : v2.grownBy (v2.setCell ⟨gm, 8, none⟩ (.slice A3 n1 c3)) (some gm) := grown_set' _ _ _
 have HM4 := hid (HM3.out.past HB3.out (by decide) (by decide) hgr HGM.out.1 HG3.out.size)
 have HN4 := hid (HN3.out.past HB3.out (by decide) (by decide) hgr HGM.out.1 HG3.out.size)
 have HX4 : Hid (Blk (v2.setCell ⟨gm, 8, none⟩ (.slice A3 n1 c3)) gr 32 _) := hid (HX3.out.cellset (a := ⟨gm, 8, none⟩) (Ne.symm HGM.out.2.2) (.slice A3 n1 c3))
 have HB4 : Hid (Blk (v2.setCell ⟨gm, 8, none⟩ (.slice A3 n1 c3)) gm 32 #[x0, x1, x2, x3, x4, x5, x6, x7, .slice A3 n1 c3, .slice A2 n2 c2, x10]) := hid (by rw [e9]; exact HB3.out.set _)
 have HR4 : Hid ((v2.setCell ⟨gm, 8, none⟩ (.slice A3 n1 c3)).rowIs gg 4 n2 (bvl Gg)) := hid (by
  obtain ⟨gc, hgc⟩ := bools_blk HR3.out
  exact HR3.out.of_block (Deep.blk_setCell_other _ _ _ _ (hgc.apart HB3.out (by decide))))
 have HG4 : Hid (Grow w (v2.setCell ⟨gm, 8, none⟩ (.slice A3 n1 c3))) := hid (HG3.out.cellset HGM.out.1 8 _)
 clear e9 hgr HB3 HX3 HR3 HM3 HN3 HG3
 generalize v2.setCell ⟨gm, 8, none⟩ (.slice A3 n1 c3) = v3 at HX4 HB4 HR4 HM4 HN4 HG4 ⊢
 repeat ((first | (refine chain_take rfl (by rfl) ?_ (fun W hG => ?_) ?_; rotate_left; (go_simp; rfl)) | refine chain_skip rfl (by rfl) ?_); simp only [Act.put, List.setIfInBounds_toArray, List.set_cons_zero, List.set_cons_succ])
 refine chain_done (last_op rfl (by rfl) (fun K hK => ?_))
 have c9 : v3.cell? ⟨gm, 9, none⟩ = some (.slice A2 n2 c2) := HB4.out.at 9
 have s9 := HB4.out.soft 9
 go_simp
 refine hK _ _ ?_
 clear hK K c9 s9
 have e9 := setCell_eq_setRow v3 gm 9 _ 32 (0, 0) (.slice A4 n2 c4) HB4.out
 have hgr : v3.grownBy (v3.setCell ⟨gm, 9, none⟩ (.slice A4 n2 c4)) (some gm) := grown_set' _ _ _
 have HI0 : Hid (SI w (v3.setCell ⟨gm, 9, none⟩ (.slice A4 n2 c4)) gm gr gg #[x0, x1, x2, x3, x4, x5, x6, x7, .slice A3 n1 c3, .slice A4 n2 c4, x10] _ n1 n2 A3 c3 A4 c4 Gg L1 (Ck 0)) := hid
  ⟨by rw [e9]; exact HB4.out.set _, HX4.out.cellset (a := ⟨gm, 9, none⟩) (Ne.symm HGM.out.2.2) (.slice A4 n2 c4),
   (by obtain ⟨gc, hgc⟩ := bools_blk HR4.out; exact HR4.out.of_block (Deep.blk_setCell_other _ _ _ _ (hgc.apart HB4.out (by decide)))),
   HM4.out.past HB4.out (by decide) (by decide) hgr HGM.out.1 HG4.out.size,
   by rw [HK0.out]; exact HN4.out.past HB4.out (by decide) (by decide) hgr HGM.out.1 HG4.out.size, HG4.out.cellset HGM.out.1 9 _⟩
 clear e9 hgr HB4 HX4 HR4 HM4 HN4 HG4
 generalize v3.setCell ⟨gm, 9, none⟩ (.slice A4 n2 c4) = v4 at HI0 ⊢
 have m8 : v4.cell? ⟨gm, 8, none⟩ = some (.slice A3 n1 c3) := HI0.out.b.at 8
 go_wp2_with fail
 clear m8
 go_loopw [19] (fun i wr => ∃ k : Nat, k ≤ n1 ∧ i = .int .i64 k ∧ SI w wr gm gr gg #[x0, x1, x2, x3, x4, x5, x6, x7, .slice A3 n1 c3, .slice A4 n2 c4, x10] #[.bool false, .bool false, .int .u8 0, .int .u8 0, .int .u16 0, .int .u16 0, .int .u32 0, .int .u64 0, .slice none 0 0, .slice none 0 0, .int .i64 0] n1 n2 A3 c3 A4 c4 Gg L1 (Ck 0)) (fun i _ => n1 - (intOf i).toNat)
 case atStart => exact ⟨0, Nat.zero_le _, rfl, HI0.out⟩
 case round =>
  obtain ⟨k, hk, rfl, hi⟩ := hrel
  have HI1 := hid hi
  clear hi HI0
  by_cases hlt : k < n1
  ·have hkl : k < L1.length := by rw [← HL1.out]; exact hlt
   have d1 : decide ((k : Int) < (n1 : Int)) = true := decide_eq_true (by omega)
   have w0 : (0 : Int) ≤ (k : Int) := by omega
   have w1' : (k : Int) < (n1 : Int) := by omega
   obtain ⟨g3, cur, B1, k1, e1, hA3, hb3, hB3, hle, hcell, hby⟩ := HI1.out.s1.open hkl (by decide) (fun _ => rfl)
   subst hA3
   have h9 : cur[k * 10 + 9]? = some (.slice B1 k1 e1) := hcell 9 (by decide)
   have HBl := hid (fun W (hW : Grow wr W) => hb3.grow hW)
   have HBg := hid hB3
   have H9 := hid h9
   have HCl : Hid (∀ W, Grow wr W → Calls Try.prog 26 #[.slice B1 k1 e1] W (NewB L1[k].pl.own W)) := hid fun W hW => by
    have hl := HS1.out L1[k] (List.getElem_mem hkl)
    rcases hby with h | h
    ·exact clone_any B1 k1 e1 L1[k].pl.own w.heap.size W (h.belowAt hW HI1.out.gw.size) (Nat.le_trans HI1.out.gw.size hW.size) (by rw [h.len]; exact hl)
    ·exact clone_any B1 k1 e1 L1[k].pl.own wr.heap.size W (h.rb.belowAt hW (Nat.le_refl _)) hW.size (by rw [h.rb.len]; exact hl)
   have HKL := hid hkl
   have ho9 : Hid (∀ W (hW : SI w W gm gr gg #[x0, x1, x2, x3, x4, x5, x6, x7, .slice (some ⟨g3, 0, none⟩) n1 c3, .slice A4 n2 c4, x10] #[.bool false, .bool false, .int .u8 0, .int .u8 0, .int .u16 0, .int .u16 0, .int .u32 0, .int .u64 0, .slice none 0 0, .slice none 0 0, .int .i64 0] n1 n2 (some ⟨g3, 0, none⟩) c3 A4 c4 Gg L1 (Ck 0)) (hb : Blk W g3 55 cur) A5 n5 c5, OB W w.heap.size 5 A5 n5 c5 L1[k].pl.own → SI w (W.setCell ⟨g3, k * 10 + 9, none⟩ (.slice A5 n5 c5)) gm gr gg #[x0, x1, x2, x3, x4, x5, x6, x7, .slice (some ⟨g3, 0, none⟩) n1 c3, .slice A4 n2 c4, x10] #[.bool false, .bool false, .int .u8 0, .int .u8 0, .int .u16 0, .int .u16 0, .int .u32 0, .int .u64 0, .slice none 0 0, .slice none 0 0, .int .i64 0] n1 n2 (some ⟨g3, 0, none⟩) c3 A4 c4 Gg L1 (Ck 0)) :=
    hid fun W hW hb A5 n5 c5 ho => hW.seg hb HBg.out HKL.out ho
   have HNe : Hid (gm ≠ g3) := hid (HI1.out.b.apart hb3 (by decide))
   unfold NewB at HCl
   generalize hown : L1[k].pl.own = lo at HCl ho9
   clear hb3 hB3 hle hcell hby h9 hown hkl
   go_wp2_with fail
   refine wp_region_last (leap_kept (fun j => j = gm ∨ j = g3)) [(0, true), (1, true), (2, true), (3, true), (4, true), (5, true), (6, true), (7, true), (8, true), (9, true), (10, false), (11, true), (12, true), (13, true)] 14 (by kernel_rfl) (by kernel_rfl) (by kernel_rfl) ?_
   have HI2 := hid (HI1.out.grow (Grow.of_drew wr))
   have HB2 := hid (HBl.out _ (Grow.of_drew wr))
   have HC2 := hid (HCl.out _ (Grow.of_drew wr))
   generalize wr.drew = v0 at HI2 HB2 HC2 ⊢
   have q8 : ∀ W, Kept (fun j => j = gm ∨ j = g3) v0 W → W.cell? ⟨gm, 8, none⟩ = some (.slice (some ⟨g3, 0, none⟩) n1 c3) := fun W hW => (HI2.out.b.kept hW (.inl rfl)).at 8
   have q9 : ∀ W, Kept (fun j => j = gm ∨ j = g3) v0 W → W.cell? ⟨g3, k * 10 + 9, none⟩ = some (.slice B1 k1 e1) := fun W hW => ((HB2.out.kept hW (.inr rfl)).at _).trans H9.out
   repeat ((first | (refine chain_take rfl (by rfl) ?_ (fun W hG => ?_) ?_; rotate_left; (go_simp; rfl)) | refine chain_skip rfl (by rfl) ?_); simp only [Act.put, List.setIfInBounds_toArray, List.set_cons_zero, List.set_cons_succ])
   clear q8 q9
   refine chain_only rfl (by rfl) (fun K hK => ?_)
   go_simp
   refine HC2.out.mono ?_
   rintro e v1 ⟨A5, c5, rfl, ho, hg⟩
   refine hK _ _ (Kept.of_grow hg) ?_
   clear hK K
   have HI3 := hid (HI2.out.grow hg)
   have HB3 := hid (HB2.out.grow hg)
   have HO3 := hid (ho.mono HI2.out.gw.size)
   clear ho hg HI2 HB2 HC2 HI1 HBl HCl
   repeat ((first | (refine chain_take rfl (by rfl) ?_ (fun W hG => ?_) ?_; rotate_left; (go_simp; rfl)) | refine chain_skip rfl (by rfl) ?_); simp only [Act.put, List.setIfInBounds_toArray, List.set_cons_zero, List.set_cons_succ])
   refine chain_done (last_op rfl (by rfl) (fun K hK => ?_))
   have c9 : v1.cell? ⟨g3, k * 10 + 9, none⟩ = some (.slice B1 k1 e1) := (HB3.out.at _).trans H9.out
   have s9 := HB3.out.soft (k * 10 + 9)
   go_simp
   refine hK _ _ ?_
   clear hK K c9 s9
   have HI4 := hid (ho9.out v1 HI3.out HB3.out A5 lo.length c5 HO3.out)
   clear HI3 HB3 HO3 ho9
   go_wp2
   go_roundw
   case rel => exact ⟨k + 1, by omega, by go_num, HI4.out⟩
   case measure => simp [intOf]; omega
  ·have e : k = n1 := by omega
   subst e
   have d1 : decide ((k : Int) < (k : Int)) = false := decide_eq_false (by omega)
   have m9 : wr.cell? ⟨gm, 9, none⟩ = some (.slice A4 n2 c4) := HI1.out.b.at 9
   go_wp2_with fail
   clear m9 d1 hlt
   generalize hwq : wr = wq at HI1 ⊢
   clear hwq
   go_loopw [40] (fun i wr => ∃ j : Nat, j ≤ n2 ∧ i = .int .i64 j ∧ SI w wr gm gr gg #[x0, x1, x2, x3, x4, x5, x6, x7, .slice A3 k c3, .slice A4 n2 c4, x10] #[.bool false, .bool false, .int .u8 0, .int .u8 0, .int .u16 0, .int .u16 0, .int .u32 0, .int .u64 0, .slice none 0 0, .slice none 0 0, .int .i64 0] k n2 A3 c3 A4 c4 Gg L1 (Ck j)) (fun i _ => n2 - (intOf i).toNat)
   case atStart => exact ⟨0, Nat.zero_le _, rfl, HI1.out⟩
   case round =>
    obtain ⟨j, hj, rfl, hi⟩ := hrel
    have HI2 := hid hi
    clear hi HI1
    by_cases hlt : j < n2
    ·have hjl : j < L2.length := by rw [← HL2.out]; exact hlt
     have hjc : j < (Ck j).length := by rw [HKl.out]; exact hjl
     have d1 : decide ((j : Int) < (n2 : Int)) = true := decide_eq_true (by omega)
     have w0 : (0 : Int) ≤ (j : Int) := by omega
     have w1' : (j : Int) < (n2 : Int) := by omega
     obtain ⟨g4, cur, B1, k1, e1, hA4, hb4, hB4, hle, hcell, hby⟩ := HI2.out.s2.open hjc (by decide) (fun _ => rfl)
     subst hA4
     have qg : wr.cell? ⟨gg, j, none⟩ = some (.bool (Gg j)) := HI2.out.g.cell hlt
     cases hG : Gg j with
     | true =>
      rw [hG] at qg
      have HKj := hid (HKs.out j hjl hG)
      have HHb := hid hb4
      have HHB := hid hB4
      have HLe := hid hle
      have HJc := hid hjc
      have m9 : wr.cell? ⟨gm, 9, none⟩ = some (.slice (some ⟨g4, 0, none⟩) n2 c4) := HI2.out.b.at 9
      clear hb4 hB4 hle hcell hby hG hjl hjc
      go_wp2_with (refine wpList_store_zo rfl 53 (.tmp 52) (.tmp 51) rfl HI2.out.s2 HHb.out HHB.out HI2.out.gw.size (by decide) HJc.out (by decide) HLe.out (r := seC seX (.slice none 0 0)) (b := seX) rfl (by simp [seC, seX, Value.oneCell']) ⟨none, 0, 0, rfl, .inl RB.nil⟩ (by kernel_rfl) rfl rfl ?_; intro cs9 hm9; refine Hid.out ?_)
      have HI9 := hid (HI2.out.row HHb.out HHB.out hm9)
      rw [← HKj.out] at HI9
      clear hm9 HI2 HKj HHb HHB HLe HJc m9 qg
      refine hid ?_
      go_wp2
      go_roundw
      case rel => exact ⟨j + 1, by omega, by go_num, HI9.out⟩
      case measure => simp [intOf]; omega
     | false =>
      rw [hG] at qg
      have HKj := hid (HKf.out j hjl hG)
      have h9 : cur[j * 13 + 12]? = some (.slice B1 k1 e1) := hcell 12 (by decide)
      have HBl := hid (fun W (hW : Grow wr W) => hb4.grow hW)
      have HBg := hid hB4
      have H9 := hid h9
      have hsame := HKa.out j hjl hjc
      have HCl : Hid (∀ W, Grow wr W → Calls Try.prog 26 #[.slice B1 k1 e1] W (NewB (Ck j)[j].pl.own W)) := hid fun W hW => by
       have hl : (Ck j)[j].pl.own.length ≤ 140737488355328 := by rw [hsame]; exact HS2.out L2[j] (List.getElem_mem hjl)
       rcases hby with h | h
       ·exact clone_any B1 k1 e1 (Ck j)[j].pl.own w.heap.size W (h.belowAt hW HI2.out.gw.size) (Nat.le_trans HI2.out.gw.size hW.size) (by rw [h.len]; exact hl)
       ·exact clone_any B1 k1 e1 (Ck j)[j].pl.own wr.heap.size W (h.rb.belowAt hW (Nat.le_refl _)) hW.size (by rw [h.rb.len]; exact hl)
      have HJc := hid hjc
      have ho9 : Hid (∀ W (hW : SI w W gm gr gg #[x0, x1, x2, x3, x4, x5, x6, x7, .slice A3 k c3, .slice (some ⟨g4, 0, none⟩) n2 c4, x10] #[.bool false, .bool false, .int .u8 0, .int .u8 0, .int .u16 0, .int .u16 0, .int .u32 0, .int .u64 0, .slice none 0 0, .slice none 0 0, .int .i64 0] k n2 A3 c3 (some ⟨g4, 0, none⟩) c4 Gg L1 (Ck j)) (hb : Blk W g4 53 cur) A5 n5 c5, OB W w.heap.size 5 A5 n5 c5 (Ck j)[j].pl.own → SI w (W.setCell ⟨g4, j * 13 + 12, none⟩ (.slice A5 n5 c5)) gm gr gg #[x0, x1, x2, x3, x4, x5, x6, x7, .slice A3 k c3, .slice (some ⟨g4, 0, none⟩) n2 c4, x10] #[.bool false, .bool false, .int .u8 0, .int .u8 0, .int .u16 0, .int .u16 0, .int .u32 0, .int .u64 0, .slice none 0 0, .slice none 0 0, .int .i64 0] k n2 A3 c3 (some ⟨g4, 0, none⟩) c4 Gg L1 (Ck (j + 1))) :=
       hid fun W hW hb A5 n5 c5 ho => by rw [HKj.out]; exact hW.sec hb HBg.out HJc.out ho
      unfold NewB at HCl
      have m9 : wr.cell? ⟨gm, 9, none⟩ = some (.slice (some ⟨g4, 0, none⟩) n2 c4) := HI2.out.b.at 9
      generalize hown : (Ck j)[j].pl.own = lo at HCl ho9
      clear hb4 hB4 hle hcell hby h9 hown hjl hjc hG hsame HKj
      go_wp2_with fail
      clear m9 qg
      refine wp_region_last (leap_kept (fun j => j = gm ∨ j = g4)) [(0, true), (1, true), (2, true), (3, true), (4, true), (5, true), (6, true), (7, true), (8, true), (9, true), (10, false), (11, true), (12, true), (13, true)] 14 (by kernel_rfl) (by kernel_rfl) (by kernel_rfl) ?_
      have HI3 := hid (HI2.out.grow (Grow.of_drew wr))
      have HB3 := hid (HBl.out _ (Grow.of_drew wr))
      have HC3 := hid (HCl.out _ (Grow.of_drew wr))
      generalize wr.drew = v0 at HI3 HB3 HC3 ⊢
      have q8 : ∀ W, Kept (fun j => j = gm ∨ j = g4) v0 W → W.cell? ⟨gm, 9, none⟩ = some (.slice (some ⟨g4, 0, none⟩) n2 c4) := fun W hW => (HI3.out.b.kept hW (.inl rfl)).at 9
      have q9 : ∀ W, Kept (fun j => j = gm ∨ j = g4) v0 W → W.cell? ⟨g4, j * 13 + 12, none⟩ = some (.slice B1 k1 e1) := fun W hW => ((HB3.out.kept hW (.inr rfl)).at _).trans H9.out
      repeat ((first | (refine chain_take rfl (by rfl) ?_ (fun W hG => ?_) ?_; rotate_left; (go_simp; rfl)) | refine chain_skip rfl (by rfl) ?_); simp only [Act.put, List.setIfInBounds_toArray, List.set_cons_zero, List.set_cons_succ])
      clear q8 q9
      refine chain_only rfl (by rfl) (fun K hK => ?_)
      go_simp
      refine HC3.out.mono ?_
      rintro e v1 ⟨A5, c5, rfl, ho, hg⟩
      refine hK _ _ (Kept.of_grow hg) ?_
      clear hK K
      have HI4 := hid (HI3.out.grow hg)
      have HB4 := hid (HB3.out.grow hg)
      have HO4 := hid (ho.mono HI3.out.gw.size)
      clear ho hg HI3 HB3 HC3 HI2 HBl HCl
      repeat ((first | (refine chain_take rfl (by rfl) ?_ (fun W hG => ?_) ?_; rotate_left; (go_simp; rfl)) | refine chain_skip rfl (by rfl) ?_); simp only [Act.put, List.setIfInBounds_toArray, List.set_cons_zero, List.set_cons_succ])
      refine chain_done (last_op rfl (by rfl) (fun K hK => ?_))
      have c9 : v1.cell? ⟨g4, j * 13 + 12, none⟩ = some (.slice B1 k1 e1) := (HB4.out.at _).trans H9.out
      have s9 := HB4.out.soft (j * 13 + 12)
      go_simp
      refine hK _ _ ?_
      clear hK K c9 s9
      have HI5 := hid (ho9.out v1 HI4.out HB4.out A5 lo.length c5 HO4.out)
      clear HI4 HB4 HO4 ho9
      go_wp2
      go_roundw
      case rel => exact ⟨j + 1, by omega, by go_num, HI5.out⟩
      case measure => simp [intOf]; omega
    ·have e : j = n2 := by omega
     subst e
     have d1 : decide ((j : Int) < (j : Int)) = false := decide_eq_false (by omega)
     obtain ⟨m0, m1, m2, m3, m4, m5, m6, m7, m8, m9, m10⟩ := HI2.out.b.c11
     obtain ⟨o0, o1, o2, o3, o4, o5, o6, o7, o10⟩ := HOne.out
     have hall : (#[x0, x1, x2, x3, x4, x5, x6, x7, .slice A3 k c3, .slice A4 j c4, x10] : Array Value).all (·.oneCell') = true := by
      simp only [List.all_toArray, List.all_cons, List.all_nil, o0, o1, o2, o3, o4, o5, o6, o7, o10, Bool.true_and, Bool.and_true]
      rfl
     have HAll := hid hall
     clear o0 o1 o2 o3 o4 o5 o6 o7 o10 hall
     go_wp2_with (refine wpList_store_row rfl 32 (.tmp 2) (.tmp 68) rfl gr _ rfl rfl _ _ HI2.out.r (by kernel_rfl) rfl HAll.out ?_)
     clear m0 m1 m2 m3 m4 m5 m6 m7 m8 m9 m10
     refine bodyPost_ret (results_cell_row rfl _ _ gr _ _ (0, 0) _ rfl (HI2.out.r.set _) Try.underlying32 rfl (by kernel_rfl)) rfl ?_
     have hgr : ∀ cs, wr.grownBy (wr.setRow gr cs) (some gr) := fun cs => ⟨rfl, rfl, rfl, by simp, fun j _ hj => setRow_other wr gr j cs (fun e => hj (by rw [e]))⟩
     have hs : ∀ cs, w.heap.size ≤ (wr.setRow gr cs).heap.size := fun cs => by simpa using HI2.out.gw.size
     refine ⟨A3, c3, A4, c4, rfl, (HI2.out.s1.past HI2.out.r (by decide) (by decide) (hgr _) HGM.out.2.1 HI2.out.gw.size).zr (hs _), ?_, HI2.out.gw.set HGM.out.2.1 _⟩
     rw [← HKn.out]
     exact (HI2.out.s2.past HI2.out.r (by decide) (by decide) (hgr _) HGM.out.2.1 HI2.out.gw.size).zr (hs _)
set_option maxRecDepth 100000
set_option linter.unusedVariables false
def se18 : Se := ⟨0, 2, 0, 0, 0, 0, 0, 0, 0, ⟨-1, 0, 0, []⟩⟩
def md18 : Md := ⟨false, false, 0, 0, 0, 0, 0, 0, [], [se18], 0⟩
def md18n : Md := ⟨false, false, 0, 0, 0, 0, 0, 0, [], [], 0⟩
theorem se18_ok : se18.Ok := ⟨by decide, by decide, by decide, by decide, by decide, by decide, by decide, by decide, by decide, ⟨by unfold I64; decide, by decide, by decide⟩⟩
theorem md18_ok : md18.Ok := ⟨by decide, by decide, by decide, by decide, by decide, by decide, fun s h => absurd h (by simp [md18]), fun s h => by
 obtain rfl : s = se18 := by simpa [md18] using h
 exact se18_ok, by unfold I64; decide⟩
theorem md18n_ok : md18n.Ok := ⟨by decide, by decide, by decide, by decide, by decide, by decide, fun s h => absurd h (by simp [md18n]), fun s h => absurd h (by simp [md18n]), by unfold I64; decide⟩
theorem strip18 (g : Nat) (w : World) (hg : Blk w g 53 (seC se18 (.slice none 0 0))) :
  Calls Try.prog 9 #[.agg #[.bool false, .bool false, .int .u8 0, .int .u8 0, .int .u16 0, .int .u16 0, .int .u32 0, .int .u64 0, .slice none 0 0, .slice (some ⟨g, 0, none⟩) 1 1, .int .i64 0]] w fun e w' =>
   ∃ A3 c3 b off c4, e = .returned (.agg #[.bool false, .bool false, .int .u8 0, .int .u8 0, .int .u16 0, .int .u16 0, .int .u32 0, .int .u64 0, .slice A3 0 c3, .slice (some ⟨b, off, none⟩) 1 c4, .int .i64 0]) ∧ b < w'.heap.size ∧ w'.cell? ⟨b, off + 1, none⟩ = some (.int .u32 0) ∧ Grow w w' := by
 have hz : ZR seK w w.heap.size (some ⟨g, 0, none⟩) 1 1 md18.secs := ZR.one (K := seK) (a := se18) (A := none) (n := 0) (c := 0) hg RB.nil rfl hg.lt
 refine Calls.mono (strip_any md18 md18_ok none (some ⟨g, 0, none⟩) 0 0 1 1 w ZR.nil hz (by decide) (by decide) (by decide) (by decide) (by decide)) ?_
 rintro e w' ⟨A3, c3, A4, c4, rfl, -, h4, hgr⟩
 have hs : md18.strip.secs = [seX] := by kernel_rfl
 rw [hs] at h4
 obtain ⟨b, off, rfl, hb⟩ := h4.pos (by decide)
 obtain ⟨A, n, c, -, hc, -⟩ := h4.at (k := 0) (by decide)
 exact ⟨A3, c3, b, off, c4, rfl, hb, by simpa [seK] using hc 1 (.int .u32 0) rfl, hgr⟩
theorem goes18 (w : World) :
  Calls Try.prog 12 #[.agg #[.bool false, .bool false, .int .u8 0, .int .u8 0, .int .u16 0, .int .u16 0, .int .u32 0, .int .u64 0, .slice none 0 0, .slice none 0 0, .int .i64 0]] w fun e w' =>
   ∃ g, e = .returned (.slice (some ⟨g, 0, none⟩) 0 0) ∧ Grow w w' := by
 refine Calls.mono (goes_any md18n md18n_ok none none 0 0 0 0 w ZR.nil ZR.nil (by decide) (by decide)) ?_
 rintro e w' ⟨g, rfl, -, -, hgr⟩
 exact ⟨g, rfl, hgr⟩
set_option maxHeartbeats 4000000 in
theorem up18 (w : World) : Calls Try.prog 5 #[] w fun e w' => e = .returned (.bool true) ∧ Grow w w' := by
 go_enter Try.func5, Try.ntmps5
 go_wp2_with fail
 generalize hW : World.alloc _ _ = W0
 obtain ⟨b1, hg⟩ := blk1 hW
 clear hW
 have HG0 := hid hg
 refine (strip18 _ W0 b1).mono ?_
 clear hg b1
 rintro e w1 ⟨A3, c3, b, off, c4, rfl, hb, hc, hg⟩
 have HG1 : Hid (Grow w w1) := hid (HG0.out.trans hg)
 have HC1 := hid hc
 have HBb := hid hb
 clear hg hc hb HG0
 go_wp2_with fail
 generalize hW : World.alloc _ _ = W2
 obtain ⟨b1, hg⟩ := blk1 hW
 clear hW
 have HX2 := hid b1
 have HC2 := hid ((Below.cell hg HBb.out).trans HC1.out)
 have HG2 : Hid (Grow w W2) := hid (HG1.out.trans hg)
 have HB2 := hid (Nat.lt_of_lt_of_le HBb.out hg.size)
 clear b1 hg HG1 HC1 HBb
 generalize w1.heap.size = gx at HX2 ⊢
 refine (goes18 W2).mono ?_
 rintro e w3 ⟨g, rfl, hg⟩
 have HG3 : Hid (Grow w w3) := hid (HG2.out.trans hg)
 have c9 : w3.cell? ⟨gx, 9, none⟩ = some (.slice (some ⟨b, off, none⟩) 1 c4) := (HX2.out.grow hg).at 9
 have c1 : w3.cell? ⟨b, off + 1, none⟩ = some (.int .u32 0) := (Below.cell hg HB2.out).trans HC2.out
 clear hg HX2 HC2 HG2 HB2
 go_wp2
 go_ret
 exact ⟨rfl, HG3.out⟩
def Md.sum (m : Md) : Nat := (m.segs.map fun s => s.pl.own.length).sum + (m.secs.map fun s => s.pl.own.length).sum
def Md.few (m : Md) : Nat := if 20 < m.segs.length then 0 else if 70 < m.secs.length then 0 else if 100000 < m.sum then 0 else 1
theorem sum_snoc {α : Type} (f : α → Nat) (l : List α) (k : Nat) (h : k < l.length) : ((l.take (k + 1)).map f).sum = ((l.take k).map f).sum + f l[k] := by
 rw [takeS l k h, List.map_append, List.sum_append]
 simp
theorem sum_le {α : Type} (f : α → Nat) (b : Nat) : ∀ (l : List α), (∀ a ∈ l, f a ≤ b) → (l.map f).sum ≤ l.length * b
 | [], _ => by simp
 | a :: r, h => by
  have := sum_le f b r fun x hx => h x (List.mem_cons_of_mem _ hx)
  have := h a (by simp)
  simp only [List.map_cons, List.sum_cons, List.length_cons, Nat.succ_mul]
  omega
theorem sum_take_le {α : Type} (f : α → Nat) (l : List α) (k : Nat) : ((l.take k).map f).sum ≤ (l.map f).sum := by
 have : (l.map f).sum = ((l.take k).map f).sum + ((l.drop k).map f).sum := by
  rw [← List.sum_append, ← List.map_append, List.take_append_drop]
 omega
set_option maxHeartbeats 1000000 in
theorem few_any (m : Md) (A1 A2 : Option Addr) (n1 c1 n2 c2 : Nat) (w : World) (g1 : ZR sgK w w.heap.size A1 n1 c1 m.segs) (g2 : ZR seK w w.heap.size A2 n2 c2 m.secs) (hsm0 : n1 ≤ 20 → n2 ≤ 70 → m.sum ≤ 4000000000000000000) :
  Calls Try.prog 6 #[.agg (mdC m (.slice A1 n1 c1) (.slice A2 n2 c2))] w fun e w' => e = .returned (.int .i64 (m.few : Nat)) ∧ Grow w w' := by
 obtain ⟨x0, x1, x2, x3, x4, x5, x6, x7, x10, hC⟩ : ∃ x0 x1 x2 x3 x4 x5 x6 x7 x10 : Value, mdC m (.slice A1 n1 c1) (.slice A2 n2 c2) = #[x0, x1, x2, x3, x4, x5, x6, x7, .slice A1 n1 c1, .slice A2 n2 c2, x10] := ⟨_, _, _, _, _, _, _, _, _, rfl⟩
 rw [hC]
 have hm1 := g1.max
 have hc1 := g1.cap
 have hm2 := g2.max
 have hc2 := g2.cap
 have HZ1 := hid g1
 have HZ2 := hid g2
 have HL1 := hid g1.len
 have HL2 := hid g2.len
 have E := hid (show m.few = if 20 < n1 then 0 else if 70 < n2 then 0 else if 100000 < m.sum then 0 else 1 by rw [g1.len, g2.len]; rfl)
 have ES : Hid (m.sum = (m.segs.map fun s => s.pl.own.length).sum + (m.secs.map fun s => s.pl.own.length).sum) := hid rfl
 generalize m.few = R at E ⊢
 generalize m.sum = S at E ES hsm0
 generalize m.segs = L1 at HZ1 HL1 ES
 generalize m.secs = L2 at HZ2 HL2 ES
 have HA : Hid (∀ k, ((L1.take k).map fun s => s.pl.own.length).sum ≤ S) := hid fun k => by
  have := sum_take_le (fun s : Sg => s.pl.own.length) L1 k
  have := ES.out
  omega
 have HB : Hid (∀ k, (L1.map fun s => s.pl.own.length).sum + ((L2.take k).map fun s => s.pl.own.length).sum ≤ S) := hid fun k => by
  have := sum_take_le (fun s : Se => s.pl.own.length) L2 k
  have := ES.out
  omega
 clear hC g1 g2
 unfold maxLen at hm1 hm2
 by_cases h1 : 20 < n1
 ·have E2 := hid (show R = 0 by rw [E.out, if_pos h1])
  go_enter Try.func6, Try.ntmps6
  go_wp2
  go_ret
  exact ⟨by rw [E2.out]; rfl, Grow.of_alloc _ _⟩
 rw [if_neg h1] at E
 have d1 : decide (20 < n1) = false := decide_eq_false h1
 have d1' : decide ((20 : Int) < (n1 : Int)) = false := decide_eq_false (by omega)
 by_cases h2 : 70 < n2
 ·have E2 := hid (show R = 0 by rw [E.out, if_pos h2])
  clear h1
  go_enter Try.func6, Try.ntmps6
  go_wp2
  go_ret
  exact ⟨by rw [E2.out]; rfl, Grow.of_alloc _ _⟩
 rw [if_neg h2] at E
 have d2 : decide (70 < n2) = false := decide_eq_false h2
 have d2' : decide ((70 : Int) < (n2 : Int)) = false := decide_eq_false (by omega)
 have HH : Hid (n1 ≤ 20 ∧ n2 ≤ 70) := hid ⟨by omega, by omega⟩
 have hsm := hsm0 (by omega) (by omega)
 clear h1 h2 hsm0
 go_enter Try.func6, Try.ntmps6
 go_wp2_with fail
 clear d1 d1' d2 d2'
 generalize hW : World.alloc _ _ = W0
 obtain ⟨b1, hg0⟩ := blk1 hW
 clear hW
 have HB1 := hid b1
 have HG0 := hid hg0
 have y8 := b1.at 8
 clear b1 hg0
 go_loop [3, 4] (fun x i => ∃ (k : Nat) (t : Nat), k ≤ n1 ∧ i = .int .i64 k ∧ x = .int .i64 (t : Nat) ∧ Hid (t = ((L1.take k).map fun s => s.pl.own.length).sum)) (fun _ i => n1 - (intOf i).toNat)
 case atStart => exact ⟨0, 0, by omega, rfl, rfl, hid (by simp)⟩
 case round =>
  obtain ⟨k, t, hk, rfl, rfl, HT⟩ := hrel
  by_cases hlt : k < n1
  ·have hkl : k < L1.length := by rw [← HL1.out]; exact hlt
   obtain ⟨b, off, rfl, hb⟩ := HZ1.out.pos (by omega)
   obtain ⟨Ak, nk, ck, -, hcell, gk⟩ := HZ1.out.at hkl
   have t9 : W0.cell? ⟨b, off + k * 10 + 9, none⟩ = some (.slice Ak nk ck) := (Below.cell HG0.out hb).trans (hcell 9 _ rfl)
   have HS := hid (sum_snoc (fun s : Sg => s.pl.own.length) L1 k hkl)
   have hnk : L1[k].pl.own.length = nk := gk.len.symm
   have hle := HA.out (k + 1)
   rw [HS.out, ← HT.out] at hle
   simp only [hnk] at HS hle
   rw [← HT.out] at HS
   clear hcell gk hb hnk
   have z : IntKind.i64.wrap ((t : Int) + (nk : Int)) = ((t + nk : Nat) : Int) := by rw [IntKind.wrap_i64]; omega
   go_wp2
   go_round
   case rel => exact ⟨k + 1, t + nk, by omega, by go_num, by first | rfl | simp, hid HS.out.symm⟩
   case measure => simp [intOf]; omega
  ·obtain rfl : n1 = k := by omega
   have HT1 : Hid (t = (L1.map fun s => s.pl.own.length).sum) := by
    have : L1.take n1 = L1 := by rw [List.take_of_length_le (by have := HL1.out; omega)]
    have h := HT.out
    rw [this] at h
    exact h
   have y9 := HB1.out.at 9
   clear HT
   go_wp2_with fail
   clear y8
   go_loop [3, 5] (fun x i => ∃ (k : Nat) (t' : Nat), k ≤ n2 ∧ i = .int .i64 k ∧ x = .int .i64 (t' : Nat) ∧ Hid (t' = t + ((L2.take k).map fun s => s.pl.own.length).sum)) (fun _ i => n2 - (intOf i).toNat)
   case atStart => exact ⟨0, t, by omega, rfl, rfl, hid (by simp)⟩
   case round =>
    obtain ⟨k, t', hk, rfl, rfl, HT⟩ := hrel
    by_cases hlt : k < n2
    ·have hkl : k < L2.length := by rw [← HL2.out]; exact hlt
     obtain ⟨b, off, rfl, hb⟩ := HZ2.out.pos (by omega)
     obtain ⟨Ak, nk, ck, -, hcell, gk⟩ := HZ2.out.at hkl
     have t9 : W0.cell? ⟨b, off + k * 13 + 12, none⟩ = some (.slice Ak nk ck) := (Below.cell HG0.out hb).trans (hcell 12 _ rfl)
     have HS := hid (sum_snoc (fun s : Se => s.pl.own.length) L2 k hkl)
     have hnk : L2[k].pl.own.length = nk := gk.len.symm
     have hle := HB.out (k + 1)
     rw [HS.out, ← HT1.out, ← Nat.add_assoc, ← HT.out] at hle
     simp only [hnk] at HS hle
     have HS2 : Hid (t' + nk = t + ((L2.take (k + 1)).map fun s => s.pl.own.length).sum) := hid (by rw [HS.out, ← Nat.add_assoc, ← HT.out])
     clear hcell gk hb hnk HS
     have z : IntKind.i64.wrap ((t' : Int) + (nk : Int)) = ((t' + nk : Nat) : Int) := by rw [IntKind.wrap_i64]; omega
     go_wp2
     go_round
     case rel => exact ⟨k + 1, t' + nk, by omega, by go_num, by first | rfl | simp, HS2⟩
     case measure => simp [intOf]; omega
    ·obtain rfl : n2 = k := by omega
     have HS : Hid (t' = S) := by
      have : L2.take n2 = L2 := by rw [List.take_of_length_le (by have := HL2.out; omega)]
      have h := HT.out
      rw [this, HT1.out, ← ES.out] at h
      exact h
     by_cases hb : 100000 < t'
     ·have E2 := hid (show R = 0 by rw [E.out, ← HS.out, if_pos hb])
      have d : decide (100000 < t') = true := decide_eq_true hb
      have d' : decide ((100000 : Int) < (t' : Int)) = true := decide_eq_true (by omega)
      clear hb
      go_wp2
      go_ret
      exact ⟨by rw [E2.out]; rfl, HG0.out⟩
     ·have E2 := hid (show R = 1 by rw [E.out, ← HS.out, if_neg hb])
      have d : decide (100000 < t') = false := decide_eq_false hb
      have d' : decide ((100000 : Int) < (t' : Int)) = false := decide_eq_false (by omega)
      clear hb
      go_wp2
      go_ret
      exact ⟨by rw [E2.out]; rfl, HG0.out⟩
theorem sum_small {m : Md} {n1 n2 : Nat} (l1 : n1 = m.segs.length) (l2 : n2 = m.secs.length) (hs1 : ∀ s ∈ m.segs, s.pl.own.length ≤ reachBytes) (hs2 : ∀ s ∈ m.secs, s.pl.own.length ≤ reachBytes) :
  n1 ≤ 20 → n2 ≤ 70 → m.sum ≤ 4000000000000000000 := fun h1 h2 => by
 have q1 := sum_le (fun s : Sg => s.pl.own.length) reachBytes m.segs hs1
 have q2 := sum_le (fun s : Se => s.pl.own.length) reachBytes m.secs hs2
 have e1 : m.segs.length * reachBytes ≤ 20 * reachBytes := Nat.mul_le_mul_right _ (by omega)
 have e2 : m.secs.length * reachBytes ≤ 70 * reachBytes := Nat.mul_le_mul_right _ (by omega)
 unfold Md.sum
 unfold reachBytes at q1 q2 e1 e2
 omega
set_option maxRecDepth 100000
set_option linter.unusedVariables false
theorem strs_le {m : Md} {b : Nat} (h1 : ∀ s ∈ m.segs, s.pl.own.length ≤ b) (h2 : ∀ s ∈ m.secs, s.pl.own.length ≤ b) : m.strs.length ≤ b := by
 unfold Md.strs
 split
 ·exact Nat.zero_le _
 ·rename_i h0
  have h0 : m.noStr = false := by simpa using h0
  unfold Md.noStr at h0
  simp only [Bool.or_eq_false_iff, decide_eq_false_iff_not] at h0
  have hi : (m.str - 1).toNat < m.secs.length := by omega
  have h3 : m.tab = m.secs[(m.str - 1).toNat] := m.sec_at hi
  rw [h3]
  unfold Md.bytes
  split
  ·exact h2 _ (List.getElem_mem hi)
  ·split
   ·rename_i h4
    simp only [Bool.and_eq_true] at h4
    obtain ⟨k, hk, hkl⟩ := isSegN_true h4.1
    rw [hk, m.seg_nat k hkl]
    have := h1 _ (List.getElem_mem hkl)
    rw [List.length_take, List.length_drop]
    omega
   ·exact Nat.zero_le _
theorem strip_le {m : Md} {b : Nat} (h2 : ∀ s ∈ m.secs, s.pl.own.length ≤ b) : ∀ s ∈ m.strip.secs, s.pl.own.length ≤ b := fun s hs => by
 rcases m.strip_mem hs with rfl | h
 ·exact Nat.zero_le _
 ·exact h2 s h
theorem chk_few {m : Md} (h : m.chk = 0) : m.segs.length ≤ 16 ∧ m.secs.length ≤ 64 := by
 have := (Md.chk_iff.1 h).1
 unfold Md.large at this
 simp only [Bool.or_eq_false_iff, decide_eq_false_iff_not] at this
 omega
set_option linter.unusedVariables false
structure Rg where
 addr : Nat
 size : Nat
 flags : Nat
 bytes : List UInt8
def rgC (r : Rg) (s : Value) : Array Value := #[.int .u64 (r.addr : Nat), .int .u64 (r.size : Nat), .int .u32 (r.flags : Nat), s]
def rgK : RK Rg := ⟨4, rgC, fun r => r.bytes⟩
def imC (e : Nat) (s : Value) : Array Value := #[.int .u64 (e : Nat), s]
def sgRg (s : Sg) : Rg := ⟨s.vaddr, s.memsz, s.flags, s.pl.own⟩
def sgImg (l : List Sg) : List Rg := (l.filter (fun s => s.typ == 1)).map sgRg
def Md.img (m : Md) : List Rg := sgImg m.segs
theorem sgImg_succ {l : List Sg} {k : Nat} (h : k < l.length) : sgImg (l.take (k + 1)) = sgImg (l.take k) ++ if l[k].typ = 1 then [sgRg l[k]] else [] := by
 unfold sgImg
 rw [List.take_succ_eq_append_getElem h, List.filter_append, List.map_append]
 congr 1
 by_cases ht : l[k].typ = 1
 ·simp [ht]
 ·simp [ht]
theorem sgImg_le {l : List Sg} {k : Nat} : (sgImg (l.take k)).length ≤ k := by
 unfold sgImg
 rw [List.length_map]
 exact Nat.le_trans (List.length_filter_le _ _) (List.length_take_le _ _)
section
variable (l : List UInt8)
end
end Go.Proofs.Ytfbimboemahhhaa
