/-
  Several texts in one: The contract of model; The contract of model; The contract of math/bits; The contract of model; The contract of model.
-/
import Derived.Test.YtfbimboemahhhaaGreatDoorTfG7
import Derived.Test.YtfbimboemahhhaaGreatDoorRows
import Derived.Test.YtfbimboemahhhaaGreatDoorTfG3
import Derived.Test.YtfbimboemahhhaaGreatDoorTfG2
import Derived.Laws.Bits64b
import Derived.Laws.Bits128
import Derived.WalkKit
import Derived.Lib.Hide
import Derived.Test.YtfbimboemahhhaaGreatDoorTfG1
namespace Go.Proofs.YtfbimboemahhhaaGreatDoor
open Go.Lib (hid)
open Go.RowKit
theorem may_own {m : Md} {p : Pl} (h : p.inn = -1) : m.may p = p.ownMay := by unfold Md.may; rw [if_pos h]
theorem may_in {m : Md} {p : Pl} (h : p.inn ≠ -1) : m.may p = (isSegN m.segs.length p.inn && decide ((m.seg p.inn).typ = 1) && p.inMay (m.seg p.inn).pl.own.length) := by unfold Md.may; rw [if_neg h]
theorem mdC_cells (m : Md) (s t : Value) : ∃ x0 x1 x2 x3 x4 x5 x6 x7 x9 x10 : Value, mdC m s t = #[x0, x1, x2, x3, x4, x5, x6, x7, s, x9, x10] := ⟨_, _, _, _, _, _, _, _, _, _, rfl⟩
theorem isSegN_true {n : Nat} {i : Int} (h : isSegN n i = true) : ∃ k : Nat, i = (k : Int) ∧ k < n := by
 unfold isSegN at h
 simp at h
 exact ⟨i.toNat, by omega, by omega⟩
theorem Md.seg_nat (m : Md) (k : Nat) (h : k < m.segs.length) : m.seg (k : Int) = m.segs[k] := by
 unfold Md.seg
 simp [List.getD_eq_getElem?_getD, h]
set_option maxHeartbeats 1000000 in
theorem mMay_any (m : Md) (A1 A2 : Option Addr) (n1 c1 n2 c2 : Nat) (p : Pl) (A : Option Addr) (n c : Nat) (w : World) (g1 : ZR sgK w w.heap.size A1 n1 c1 m.segs) (g : RB w w.heap.size A n c p.own) :
  Calls Tryz.prog 148 #[.agg (mdC m (.slice A1 n1 c1) (.slice A2 n2 c2)), .agg (plC p (.slice A n c))] w fun e w' => e = .returned (.bool (m.may p)) ∧ Grow w w' := by
 have hn : n = p.own.length := g.len
 have hnm : n ≤ maxLen := Nat.le_trans g.cap g.max
 have hnm' := hnm
 unfold maxLen at hnm'
 have z : IntKind.u64.wrap (n : Int) = (n : Int) := by rw [IntKind.wrap_u64]; omega
 by_cases h0 : p.inn = -1
 ·rw [may_own h0]
  have E := hid (show p.ownMay = (decide (p.off = 0) && decide (p.size = n)) by rw [hn]; rfl)
  unfold plC mdC
  rw [h0]
  generalize p.ownMay = R at E ⊢
  generalize p.off = a at E ⊢
  generalize p.size = b at E ⊢
  clear hn hnm hnm' h0 g
  by_cases ha : a = 0
  ·subst ha
   go_enter Tryz.func148, Tryz.ntmps148
   go_wp2
   go_ret
   exact ⟨ret_bool (by rw [E.out, Bool.eq_iff_iff]; simp; try omega), (Grow.of_alloc _ _).trans (Grow.of_alloc _ _)⟩
  ·have e0 : ((a : Int) == 0) = false := by simp [ha]
   have E2 := hid (show (decide (a = 0) && decide (b = n)) = false by simp [ha])
   clear ha
   go_enter Tryz.func148, Tryz.ntmps148
   go_wp2
   go_ret
   exact ⟨ret_bool (by rw [E.out, E2.out]), (Grow.of_alloc _ _).trans (Grow.of_alloc _ _)⟩
 ·have hl := g1.len
  rw [may_in h0, ← hl]
  have hI := mIsSeg_any m A1 A2 n1 c1 n2 c2 p.inn
  obtain ⟨x0, x1, x2, x3, x4, x5, x6, x7, x9, x10, hC⟩ := mdC_cells m (.slice A1 n1 c1) (.slice A2 n2 c2)
  rw [hC] at hI ⊢
  clear hC
  cases hs : isSegN n1 p.inn with
  | false =>
   rw [hs] at hI
   have HI := hid hI
   have Hi : (p.inn == -1) = false := by simpa using h0
   clear hI hs h0 hl hn hnm hnm' g g1
   simp only [Bool.false_and]
   unfold plC
   generalize p.inn = i at HI Hi ⊢
   go_enter Tryz.func148, Tryz.ntmps148
   go_wp2_with fail
   generalize hW : World.alloc _ _ = W0
   obtain ⟨b1, b2, hg0⟩ := blk2 hW
   clear hW
   have HG0 := hid hg0
   obtain ⟨y0, y1, y2, y3⟩ := b2.c4
   obtain ⟨v0, v1, v2, v3, v4, v5, v6, v7, v8, v9, v10⟩ := b1.c11
   clear b1 b2 hg0
   go_wp2_with fail
   clear y0 y1 y2 y3 v0 v1 v2 v3 v4 v5 v6 v7 v8 v9 v10
   refine (HI.out _).mono ?_
   rintro e w1 ⟨rfl, hg1⟩
   have HG1 : Hid (Grow w w1) := HG0.out.trans hg1
   clear hg1
   go_wp2
   go_ret
   exact ⟨rfl, HG1.out⟩
  | true =>
   obtain ⟨k, hk, hkl⟩ := isSegN_true hs
   rw [hl] at hkl
   rw [hs] at hI
   rw [hk] at hI
   rw [hk, m.seg_nat k hkl]
   obtain ⟨b, off, rfl, hb⟩ := g1.pos (by rw [g1.len]; omega)
   obtain ⟨Ak, nk, ck, -, hcell, gk⟩ := g1.at hkl
   have t0 : w.cell? ⟨b, off + k * 10, none⟩ = some (.int .u32 (m.segs[k].typ : Nat)) := hcell 0 _ rfl
   have t9 : w.cell? ⟨b, off + k * 10 + 9, none⟩ = some (.slice Ak nk ck) := hcell 9 _ rfl
   have hnk : m.segs[k].pl.own.length = nk := gk.len.symm
   have hnkm : nk ≤ maxLen := Nat.le_trans gk.cap gk.max
   have HWi := hid (fun w => mIsWithin_any p (.slice A n c) Ak nk ck w hnkm)
   have E := hid (show p.inMay nk = (decide (n = 0) && decide (0 < p.size) && p.within nk) by rw [hn]; rfl)
   have hkn : k < n1 := by rw [g1.len]; exact hkl
   have hb1 : b < w.heap.size := hb
   have T0 := hid t0
   have T9 := hid t9
   have HBb := hid hb1
   have hn1m := g1.cap
   have hn1m' := g1.max
   unfold maxLen at hn1m'
   rw [hnk]
   have HI := hid hI
   unfold plC at HWi ⊢
   rw [hk] at HWi ⊢
   rw [Bool.true_and]
   have e0 : ((k : Int) == -1) = false := by simp
   generalize p.within nk = V at E HWi
   generalize p.inMay nk = R at E ⊢
   generalize p.off = po at HWi ⊢
   generalize p.size = ps at E HWi ⊢
   generalize (m.segs[k]).typ = ty at T0 ⊢
   clear hI hs t0 t9 hcell gk hnk hnkm hn hk h0 g1 g hb hb1 hnm hl
   go_enter Tryz.func148, Tryz.ntmps148
   go_wp2_with fail
   generalize hW : World.alloc _ _ = W0
   obtain ⟨b1, b2, hg0⟩ := blk2 hW
   clear hW
   have HB1 := hid b1
   have HB20 := hid b2
   have HG0 := hid hg0
   obtain ⟨y0, y1, y2, y3⟩ := b2.c4
   obtain ⟨v0, v1, v2, v3, v4, v5, v6, v7, v8, v9, v10⟩ := b1.c11
   clear b1 b2 hg0
   go_wp2_with fail
   clear y0 y1 y2 y3 v0 v1 v2 v3 v4 v5 v6 v7 v8 v9 v10
   refine (HI.out _).mono ?_
   rintro e w1 ⟨rfl, hg1⟩
   have HG1 : Hid (Grow w w1) := HG0.out.trans hg1
   have HB2 := hid (HB20.out.grow hg1)
   have y8 : w1.cell? ⟨w.heap.size, 8, none⟩ = some (.slice (some ⟨b, off, none⟩) n1 c1) := (HB1.out.grow hg1).at 8
   obtain ⟨y0, y1, y2, y3⟩ := HB2.out.c4
   have t0 : w1.cell? ⟨b, off + k * 10, none⟩ = some (.int .u32 (ty : Int)) := (Below.cell HG1.out HBb.out).trans T0.out
   have HY8 := hid (HB1.out.grow hg1)
   clear hg1 HG0 HB20 HB1
   by_cases ht : ty = 1
   ·have e1 : ((ty : Int) != 1) = false := by simp [ht]
    have E1 := hid (show decide (ty = 1) = true by simp [ht])
    clear ht
    go_wp2_with fail
    clear y0 y1 y2 y3 y8 t0 e1
    refine wp_region_chain [(0, true), (1, true), (2, true), (3, true), (4, true), (5, true), (6, true), (7, true), (8, true), (9, true), (10, true), (11, true), (12, true), (13, true), (14, true), (15, true), (16, true), (17, true), (18, true), (19, false), (20, true), (21, true)] (by kernel_rfl) (by kernel_rfl) (by kernel_rfl) ?_
    have q0 : ∀ W, Grow w1.drew W → W.cell? ⟨w.heap.size + 1, 0, none⟩ = some (.int .i64 (k : Int)) := fun W hW => (HB2.out.grow ((Grow.of_drew _).trans hW)).at 0
    have q1 : ∀ W, Grow w1.drew W → W.cell? ⟨w.heap.size + 1, 1, none⟩ = some (.int .u64 (po : Nat)) := fun W hW => (HB2.out.grow ((Grow.of_drew _).trans hW)).at 1
    have q2 : ∀ W, Grow w1.drew W → W.cell? ⟨w.heap.size + 1, 2, none⟩ = some (.int .u64 (ps : Nat)) := fun W hW => (HB2.out.grow ((Grow.of_drew _).trans hW)).at 2
    have q3 : ∀ W, Grow w1.drew W → W.cell? ⟨w.heap.size + 1, 3, none⟩ = some (.slice A n c) := fun W hW => (HB2.out.grow ((Grow.of_drew _).trans hW)).at 3
    have q8 : ∀ W, Grow w1.drew W → W.cell? ⟨w.heap.size, 8, none⟩ = some (.slice (some ⟨b, off, none⟩) n1 c1) := fun W hW => (HY8.out.grow ((Grow.of_drew _).trans hW)).at 8
    have t9 : ∀ W, Grow w1.drew W → W.cell? ⟨b, off + k * 10 + 9, none⟩ = some (.slice Ak nk ck) := fun W hW => (Below.cell (HG1.out.trans ((Grow.of_drew _).trans hW)) HBb.out).trans T9.out
    have HD : Hid (Grow w w1.drew) := HG1.out.trans (Grow.of_drew _)
    generalize w1.drew = w2 at HD q0 q1 q2 q3 q8 t9 ⊢
    by_cases hn0 : n = 0
    ·subst hn0
     by_cases hp0 : 0 < ps
     ·have e2 : decide (0 < ps) = true := decide_eq_true hp0
      have E2 := hid (show R = V by rw [E.out]; simp [hp0])
      clear hp0
      repeat ((first | (refine chain_take rfl (by rfl) ?_ (fun W hG => ?_) ?_; rotate_left; (go_simp; rfl)) | refine chain_skip rfl (by rfl) ?_); simp only [Act.put, List.setIfInBounds_toArray, List.set_cons_zero, List.set_cons_succ])
      refine chain_only rfl (by rfl) (fun K hK => ?_)
      go_simp
      refine (HWi.out _).mono ?_
      rintro e w3 ⟨rfl, hg3⟩
      refine hK _ _ hg3 ?_
      have HF : Hid (Grow w w3) := HD.out.trans hg3
      clear hK K hg3 q0 q1 q2 q3 q8 t9
      repeat ((first | (refine chain_take rfl (by rfl) ?_ (fun W hG => ?_) ?_; rotate_left; (go_simp; rfl)) | refine chain_skip rfl (by rfl) ?_); simp only [Act.put, List.setIfInBounds_toArray, List.set_cons_zero, List.set_cons_succ])
      refine chain_done ?_
      go_wp2
      go_ret
      exact ⟨ret_bool (by rw [E1.out, Bool.true_and, E2.out]), HF.out⟩
     ·have e2 : decide (0 < ps) = false := decide_eq_false hp0
      have E2 := hid (show R = false by rw [E.out]; simp [hp0])
      clear hp0
      repeat ((first | (refine chain_take rfl (by rfl) ?_ (fun W hG => ?_) ?_; rotate_left; (go_simp; rfl)) | refine chain_skip rfl (by rfl) ?_); simp only [Act.put, List.setIfInBounds_toArray, List.set_cons_zero, List.set_cons_succ])
      refine chain_none rfl (by rfl) ?_
      simp only [Act.put, List.setIfInBounds_toArray, List.set_cons_zero, List.set_cons_succ]
      repeat ((first | (refine chain_take rfl (by rfl) ?_ (fun W hG => ?_) ?_; rotate_left; (go_simp; rfl)) | refine chain_skip rfl (by rfl) ?_); simp only [Act.put, List.setIfInBounds_toArray, List.set_cons_zero, List.set_cons_succ])
      refine chain_done ?_
      go_wp2
      go_ret
      exact ⟨ret_bool (by rw [E1.out, Bool.true_and, E2.out]), HD.out⟩
    ·have e2 : ((n : Int) == 0) = false := by simp; omega
     have E2 := hid (show R = false by rw [E.out]; simp [hn0])
     clear hn0
     repeat ((first | (refine chain_take rfl (by rfl) ?_ (fun W hG => ?_) ?_; rotate_left; (go_simp; rfl)) | refine chain_skip rfl (by rfl) ?_); simp only [Act.put, List.setIfInBounds_toArray, List.set_cons_zero, List.set_cons_succ])
     refine chain_none rfl (by rfl) ?_
     simp only [Act.put, List.setIfInBounds_toArray, List.set_cons_zero, List.set_cons_succ]
     repeat ((first | (refine chain_take rfl (by rfl) ?_ (fun W hG => ?_) ?_; rotate_left; (go_simp; rfl)) | refine chain_skip rfl (by rfl) ?_); simp only [Act.put, List.setIfInBounds_toArray, List.set_cons_zero, List.set_cons_succ])
     refine chain_done ?_
     go_wp2
     go_ret
     exact ⟨ret_bool (by rw [E1.out, Bool.true_and, E2.out]), HD.out⟩
   ·have e1 : ((ty : Int) != 1) = true := by simp; omega
    have E1 := hid (show decide (ty = 1) = false by simp [ht])
    clear ht
    go_wp2
    go_ret
    exact ⟨ret_bool (by rw [E1.out, Bool.false_and]), HG1.out⟩
theorem sgC_cells (s : Sg) (S : Value) : ∃ x0 x1 x3 x5 x6 x7 x8 : Value, sgC s S = #[x0, x1, .int .u64 (s.vaddr : Nat), x3, .int .u64 (s.memsz : Nat), x5, x6, x7, x8, S] := ⟨_, _, _, _, _, _, _, rfl⟩
set_option maxHeartbeats 400000 in
theorem mWraps_any (s : Sg) (ok : s.Ok) (S : Value) (wide big : Bool) (w : World) : Calls Tryz.prog 157 #[.agg (sgC s S), .agg #[.bool wide, .bool big]] w fun e w' => e = .returned (.bool (s.wraps wide)) ∧ Grow w w' := by
 have hv := ok.vaddr
 have hz := ok.memsz
 have HL := hid (fun w => mLast_any wide big w)
 have hl : lastA wide ≤ 18446744073709551615 := by cases wide <;> decide
 obtain ⟨x0, x1, x3, x5, x6, x7, x8, hC⟩ := sgC_cells s S
 rw [hC]
 have E : Hid (s.wraps wide = (decide (0 < s.memsz) && !decide (s.vaddr + (s.memsz - 1) ≤ lastA wide))) := hid rfl
 clear hC ok
 generalize s.wraps wide = R at E ⊢
 generalize lastA wide = la at HL E hl
 generalize s.vaddr = v at E hv ⊢
 generalize s.memsz = z at E hz ⊢
 go_enter Tryz.func157, Tryz.ntmps157
 go_wp2_with fail
 refine wp_region_chain [(0, true), (1, true), (2, true), (3, true), (4, true), (5, true), (6, true), (7, true), (8, true), (9, true), (10, false), (11, false), (12, true), (13, true), (14, true)] (by kernel_rfl) (by kernel_rfl) (by kernel_rfl) ?_
 generalize hW : World.alloc _ _ = W0
 obtain ⟨b1, b2, hg0⟩ := blk2 hW
 clear hW
 have HG0 := hid hg0
 have q2 : ∀ W, Grow W0.drew W → W.cell? ⟨w.heap.size, 2, none⟩ = some (.int .u64 (v : Nat)) := fun W hW => (b1.grow ((Grow.of_drew _).trans hW)).at 2
 have q4 : ∀ W, Grow W0.drew W → W.cell? ⟨w.heap.size, 4, none⟩ = some (.int .u64 (z : Nat)) := fun W hW => (b1.grow ((Grow.of_drew _).trans hW)).at 4
 have r0 : ∀ W, Grow W0.drew W → W.cell? ⟨w.heap.size + 1, 0, none⟩ = some (.bool wide) := fun W hW => (b2.grow ((Grow.of_drew _).trans hW)).at 0
 have r1 : ∀ W, Grow W0.drew W → W.cell? ⟨w.heap.size + 1, 1, none⟩ = some (.bool big) := fun W hW => (b2.grow ((Grow.of_drew _).trans hW)).at 1
 have HD : Hid (Grow w W0.drew) := HG0.out.trans (Grow.of_drew _)
 clear b1 b2 hg0 HG0
 generalize W0.drew = w2 at HD q2 q4 r0 r1 ⊢
 by_cases h0 : 0 < z
 ·have e2 : decide (0 < z) = true := decide_eq_true h0
  have z1 : IntKind.u64.wrap ((z : Int) - 1) = (z : Int) - 1 := by rw [IntKind.wrap_u64]; omega
  have E2 := hid (show R = !wthn (v : Int) ((z : Int) - 1) (la : Int) by
   rw [E.out, e2, Bool.true_and]
   congr 1
   unfold wthn
   rw [Bool.eq_iff_iff, decide_eq_true_iff, decide_eq_true_iff]
   omega)
  have k1 : (0 : Int) ≤ (z : Int) - 1 := by omega
  have K1 := hid k1
  clear k1 h0
  repeat ((first | (refine chain_take rfl (by rfl) ?_ (fun W hG => ?_) ?_; rotate_left; (go_simp; rfl)) | refine chain_skip rfl (by rfl) ?_); simp only [Act.put, List.setIfInBounds_toArray, List.set_cons_zero, List.set_cons_succ])
  refine chain_only rfl (by rfl) (fun K hK => ?_)
  go_simp
  refine (HL.out _).mono ?_
  rintro e w3 ⟨rfl, hg3⟩
  refine hK _ _ hg3 ?_
  have HF : Hid (Grow w w3) := HD.out.trans hg3
  clear hK K hg3 q2 q4 r0 r1
  refine chain_only rfl (by rfl) (fun K hK => ?_)
  go_simp
  refine (within_any _ _ _ _ (by omega) K1.out (by omega)).mono ?_
  rintro e w4 ⟨rfl, rfl⟩
  refine hK _ _ (Grow.refl _) ?_
  clear hK K
  generalize wthn (v : Int) ((z : Int) - 1) (la : Int) = V at E2 ⊢
  repeat ((first | (refine chain_take rfl (by rfl) ?_ (fun W hG => ?_) ?_; rotate_left; (go_simp; rfl)) | refine chain_skip rfl (by rfl) ?_); simp only [Act.put, List.setIfInBounds_toArray, List.set_cons_zero, List.set_cons_succ])
  refine chain_done ?_
  go_wp2
  go_ret
  exact ⟨ret_bool (by rw [E2.out]), HF.out⟩
 ·have e2 : decide (0 < z) = false := decide_eq_false h0
  have E2 := hid (show R = false by rw [E.out, e2]; rfl)
  clear h0
  repeat ((first | (refine chain_take rfl (by rfl) ?_ (fun W hG => ?_) ?_; rotate_left; (go_simp; rfl)) | refine chain_skip rfl (by rfl) ?_); simp only [Act.put, List.setIfInBounds_toArray, List.set_cons_zero, List.set_cons_succ])
  refine chain_none rfl (by rfl) ?_
  simp only [Act.put, List.setIfInBounds_toArray, List.set_cons_zero, List.set_cons_succ]
  refine chain_none rfl (by rfl) ?_
  simp only [Act.put, List.setIfInBounds_toArray, List.set_cons_zero, List.set_cons_succ]
  repeat ((first | (refine chain_take rfl (by rfl) ?_ (fun W hG => ?_) ?_; rotate_left; (go_simp; rfl)) | refine chain_skip rfl (by rfl) ?_); simp only [Act.put, List.setIfInBounds_toArray, List.set_cons_zero, List.set_cons_succ])
  refine chain_done ?_
  go_wp2
  go_ret
  exact ⟨ret_bool E2.out.symm, HD.out⟩
theorem ones_any (x : Nat) (w : World) (hx : x < 18446744073709551616) : Calls Tryz.prog 156 #[.int .u64 x] w fun e w' => e = .returned (.int .i64 (ones x : Nat)) ∧ w = w' := by
 obtain ⟨a, ha⟩ : ∃ a, ((x / 2) &&& 6148914691236517205) + (x &&& 6148914691236517205) = a := ⟨_, rfl⟩
 obtain ⟨b, hb⟩ : ∃ b, ((a / 4) &&& 3689348814741910323) + (a &&& 3689348814741910323) = b := ⟨_, rfl⟩
 obtain ⟨c, hc⟩ : ∃ c, (b / 16 + b) &&& 1085102592571150095 = c := ⟨_, rfl⟩
 obtain ⟨d, e, f, hd, he, hf, hm, lc, ld, le, lf, lb, la⟩ := ones_steps x a b c ha hb hc
 have key : ∀ (u m : Nat) (U M : Int), U = (u : Int) → M = (m : Int) → u < 18446744073709551616 → m < 18446744073709551616 → bits BinOp.and IntKind.u64 U M = ((u &&& m : Nat) : Int) := fun u m U M hU hM h1 h2 => by rw [hU, hM]; exact bits_and_u64_nat u m h1 h2
 have q1 := key (x / 2) 6148914691236517205 ((x : Int) / 2) 6148914691236517205 (by omega) rfl (by omega) (by omega)
 have q2 := key x 6148914691236517205 (x : Int) 6148914691236517205 rfl rfl hx (by omega)
 have q3 := key (a / 4) 3689348814741910323 ((a : Int) / 4) 3689348814741910323 (by omega) rfl (by omega) (by omega)
 have q4 := key a 3689348814741910323 (a : Int) 3689348814741910323 rfl rfl (by omega) (by omega)
 have q5 := key (b / 16 + b) 1085102592571150095 ((b : Int) / 16 + (b : Int)) 1085102592571150095 (by omega) rfl (by omega) (by omega)
 have r1 : IntKind.u64.wrap ((((x / 2) &&& 6148914691236517205 : Nat) : Int) + ((x &&& 6148914691236517205 : Nat) : Int)) = (a : Int) := by rw [IntKind.wrap_u64]; omega
 have r2 : IntKind.u64.wrap ((((a / 4) &&& 3689348814741910323 : Nat) : Int) + ((a &&& 3689348814741910323 : Nat) : Int)) = (b : Int) := by rw [IntKind.wrap_u64]; omega
 rw [hc] at q5
 generalize (x / 2) &&& 6148914691236517205 = u1 at q1 r1
 generalize x &&& 6148914691236517205 = u2 at q2 r1
 generalize (a / 4) &&& 3689348814741910323 = u3 at q3 r2
 generalize a &&& 3689348814741910323 = u4 at q4 r2
 have r3 : IntKind.u64.wrap ((b : Int) / 16 + (b : Int)) = (b : Int) / 16 + (b : Int) := by rw [IntKind.wrap_u64]; omega
 have r4 : IntKind.u64.wrap ((c : Int) + (c : Int) / 256) = (d : Int) := by rw [IntKind.wrap_u64]; omega
 have r5 : IntKind.u64.wrap ((d : Int) + (d : Int) / 65536) = (e : Int) := by rw [IntKind.wrap_u64]; omega
 have r6 : IntKind.u64.wrap ((e : Int) + (e : Int) / 4294967296) = (f : Int) := by rw [IntKind.wrap_u64]; omega
 have r7 : wrap64 (f : Int) = (f : Int) := by unfold wrap64; omega
 have q6 : bits BinOp.and IntKind.i64 (f : Int) 127 = ((f % 128 : Nat) : Int) := by rw [i64_and127]; omega
 have HM := hid hm
 have Q1 := hid q1
 have Q2 := hid q2
 have Q3 := hid q3
 have Q4 := hid q4
 have Q5 := hid q5
 have Q6 := hid q6
 have R1 := hid r1
 have R2 := hid r2
 have R3 := hid r3
 have R4 := hid r4
 have R5 := hid r5
 have R6 := hid r6
 have R7 := hid r7
 clear key ha hb hc hd he hf hm lc ld le lf lb la hx q1 q2 q3 q4 q5 q6 r1 r2 r3 r4 r5 r6 r7
 go_enter Tryz.func156, Tryz.ntmps156
 go_wp2
 go_ret
 refine ⟨ret_int ?_, rfl⟩
 simp only [Q1.out, Q2.out, R1.out, Q3.out, Q4.out, R2.out, R3.out, Q5.out, R4.out, R5.out, R6.out, R7.out, Q6.out, HM.out]
theorem e_ret {a b : Nat} {w w' : World} (h : b = a) (v : Value) (hv : v = eC a) (hg : Grow w w') : Ending.returned v = .returned (eC b) ∧ Grow w w' := ⟨by rw [h, hv], hg⟩
set_option maxHeartbeats 2000000 in
theorem mSeg_any (m : Md) (A1 A2 : Option Addr) (n1 c1 n2 c2 : Nat) (s : Sg) (ok : s.Ok) (A : Option Addr) (n c : Nat) (w : World) (g1 : ZR sgK w w.heap.size A1 n1 c1 m.segs) (g : RB w w.heap.size A n c s.pl.own) :
  Calls Tryz.prog 146 #[.agg (mdC m (.slice A1 n1 c1) (.slice A2 n2 c2)), .agg (sgC s (.slice A n c))] w fun e w' => e = .returned (eC (m.segC s)) ∧ Grow w w' := by
 have HO := hid (fun w => ones_any s.align w ok.align)
 have HM := hid (fun w' (hg : Grow w w') => mMay_any m A1 A2 n1 c1 n2 c2 s.pl A n c w' (g1.grow hg) (g.grow hg))
 have HW := hid (fun w => mWraps_any s ok (.slice A n c) m.wide m.big w)
 have HL := hid (ones_le s.align)
 have E := hid (show m.segC s = if 1 < ones s.align then 6 else if m.may s.pl = false then 1 else if s.typ ≠ 1 then 0 else if s.pl.inn ≠ -1 then 1 else if s.memsz < s.pl.size then 5 else if s.wraps m.wide = true then 12 else 0 from rfl)
 unfold mdC at HM ⊢
 unfold sgC at HW ⊢
 unfold plC at HM
 clear g1 g ok
 generalize m.segC s = C at E ⊢
 generalize ones s.align = on at HO HL E
 generalize m.may s.pl = my at HM E
 generalize s.wraps m.wide = wr at HW E
 generalize m.wide = x0 at HM HW ⊢
 generalize m.big = x1 at HM HW ⊢
 generalize m.osabi = x2 at HM ⊢
 generalize m.abi = x3 at HM ⊢
 generalize m.typ = x4 at HM ⊢
 generalize m.mach = x5 at HM ⊢
 generalize m.flags = x6 at HM ⊢
 generalize m.entry = x7 at HM ⊢
 generalize m.str = x10 at HM ⊢
 generalize s.pl.inn = pi at HM HW E ⊢
 generalize s.pl.off = po at HM HW ⊢
 generalize s.pl.size = ps at HM HW E ⊢
 generalize s.typ = ty at HW E ⊢
 generalize s.flags = z1 at HW ⊢
 generalize s.vaddr = z2 at HW ⊢
 generalize s.paddr = z3 at HW ⊢
 generalize s.memsz = z4 at HW E ⊢
 generalize s.align = z5 at HO HW ⊢
 go_enter Tryz.func146, Tryz.ntmps146
 go_wp2_with fail
 generalize hW : World.alloc _ _ = W0
 obtain ⟨b1, b2, hg0⟩ := blk2 hW
 clear hW
 have HB1 := hid b1
 have HB2 := hid b2
 have HG0 := hid hg0
 obtain ⟨y0, y1, y2, y3, y4, y5, y6, y7, y8, y9⟩ := b2.c10
 clear b1 b2 hg0
 go_wp2_with fail
 clear y0 y1 y2 y3 y4 y5 y6 y7 y8 y9
 refine (HO.out _).mono ?_
 rintro e w' ⟨rfl, rfl⟩
 by_cases h1 : 1 < on
 ·have E2 := hid (show C = 6 by rw [E.out, if_pos h1])
  have d : decide (1 < on) = true := decide_eq_true h1
  have d' : decide ((1 : Int) < (on : Int)) = true := decide_eq_true (by omega)
  clear h1
  go_wp2
  go_ret
  exact e_ret E2.out _ rfl HG0.out
 rw [if_neg h1] at E
 have d : decide (1 < on) = false := decide_eq_false h1
 have d' : decide ((1 : Int) < (on : Int)) = false := decide_eq_false (by omega)
 clear h1
 obtain ⟨y0, y1, y2, y3, y4, y5, y6, y7, y8, y9⟩ := HB2.out.c10
 obtain ⟨v0, v1, v2, v3, v4, v5, v6, v7, v8, v9, v10⟩ := HB1.out.c11
 go_wp2_with fail
 clear y0 y1 y2 y3 y4 y5 y6 y7 y8 y9 v0 v1 v2 v3 v4 v5 v6 v7 v8 v9 v10 d d'
 refine (HM.out _ HG0.out).mono ?_
 rintro e w1 ⟨rfl, hg1⟩
 have HB3 := hid (HB1.out.grow hg1)
 have HB4 := hid (HB2.out.grow hg1)
 have HG1 : Hid (Grow w w1) := HG0.out.trans hg1
 clear hg1 HB1 HB2 HG0 HM
 cases my with
 | false =>
  have E2 := hid (show C = 1 by rw [E.out, if_pos rfl])
  go_wp2
  go_ret
  exact e_ret E2.out _ rfl HG1.out
 | true =>
 rw [if_neg (by decide)] at E
 obtain ⟨y0, y1, y2, y3, y4, y5, y6, y7, y8, y9⟩ := HB4.out.c10
 by_cases h2 : ty ≠ 1
 ·have E2 := hid (show C = 0 by rw [E.out, if_pos h2])
  have d : ((ty : Int) != 1) = true := by simp; omega
  clear h2
  go_wp2
  go_ret
  exact e_ret E2.out _ rfl HG1.out
 rw [if_neg h2] at E
 have d : ((ty : Int) != 1) = false := by simp; omega
 by_cases h3 : pi ≠ -1
 ·have E2 := hid (show C = 1 by rw [E.out, if_pos h3])
  have d3 : (pi != -1) = true := by simpa using h3
  clear h2 h3
  go_wp2
  go_ret
  exact e_ret E2.out _ rfl HG1.out
 rw [if_neg h3] at E
 have d3 : (pi != -1) = false := by simpa using h3
 by_cases h4 : z4 < ps
 ·have E2 := hid (show C = 5 by rw [E.out, if_pos h4])
  have d4 : decide (z4 < ps) = true := decide_eq_true h4
  clear h2 h3 h4
  go_wp2
  go_ret
  exact e_ret E2.out _ rfl HG1.out
 rw [if_neg h4] at E
 have d4 : decide (z4 < ps) = false := decide_eq_false h4
 obtain ⟨v0, v1, v2, v3, v4, v5, v6, v7, v8, v9, v10⟩ := HB3.out.c11
 clear h2 h3 h4
 go_wp2_with fail
 clear y0 y1 y2 y3 y4 y5 y6 y7 y8 y9 v0 v1 v2 v3 v4 v5 v6 v7 v8 v9 v10 d d3 d4
 refine (HW.out _).mono ?_
 rintro e w2 ⟨rfl, hg2⟩
 have HG2 : Hid (Grow w w2) := HG1.out.trans hg2
 clear hg2
 cases wr with
 | false =>
  have E2 := hid (show C = 0 by rw [E.out, if_neg (by decide)])
  go_wp2
  go_ret
  exact e_ret E2.out _ rfl HG2.out
 | true =>
  have E2 := hid (show C = 12 by rw [E.out, if_pos rfl])
  go_wp2
  go_ret
  exact e_ret E2.out _ rfl HG2.out
theorem loads_le (l : List Sg) : (loads l).length ≤ l.length := by
 induction l with
 | nil => simp [loads]
 | cons a r ih =>
  have : loads (a :: r) = loadOf a ++ loads r := by simp [loads]
  rw [this, List.length_append, List.length_cons]
  have : (loadOf a).length ≤ 1 := by unfold loadOf; split <;> simp
  omega
theorem loads_lt {l : List Sg} (ok : ∀ s ∈ l, s.Ok) : ∀ x ∈ loads l, x.1 < 18446744073709551616 ∧ x.2 < 18446744073709551616 := fun x hx => by
 obtain ⟨s, hs, _, rfl⟩ := mem_loads hx
 exact ⟨(ok s hs).vaddr, (ok s hs).memsz⟩
set_option maxRecDepth 100000 in
set_option maxHeartbeats 2000000 in
theorem mSegs_any (m : Md) (ok : m.Ok) (A1 A2 : Option Addr) (n1 c1 n2 c2 : Nat) (w : World) (g1 : ZR sgK w w.heap.size A1 n1 c1 m.segs) (hn : n1 ≤ 16) :
  Calls Tryz.prog 116 #[.agg (mdC m (.slice A1 n1 c1) (.slice A2 n2 c2))] w fun e w' => e = .returned (eC m.segsC) ∧ Grow w w' := by
 have HS := hid (fun (s : Sg) (ok : s.Ok) (A : Option Addr) (n c : Nat) (w' : World) (hg : Grow w w') (g : RB w' w'.heap.size A n c s.pl.own) => mSeg_any m A1 A2 n1 c1 n2 c2 s ok A n c w' (g1.grow hg) g)
 obtain ⟨x0, x1, x2, x3, x4, x5, x6, x7, x9, x10, hC⟩ := mdC_cells m (.slice A1 n1 c1) (.slice A2 n2 c2)
 rw [hC] at HS ⊢
 have hcm := g1.max
 have hcc := g1.cap
 have HL := hid g1.len
 have HZ := hid g1
 have HOk := hid ok.segs
 have E : Hid (m.segsC = if fstC m.segC m.segs = 0 then (if rises (loads m.segs) then 0 else 7) else fstC m.segC m.segs) := hid rfl
 generalize m.segsC = C at E ⊢
 generalize m.segs = L at HL HZ HOk E
 clear hC g1 ok
 unfold maxLen at hcm
 go_enter Tryz.func116, Tryz.ntmps116
 go_wp2_with fail
 generalize hW : World.alloc _ _ = W0
 obtain ⟨b1, hg0⟩ := blk1 hW
 clear hW
 have HB1 := hid b1
 have HG0 := hid hg0
 have y8 := b1.at 8
 clear b1 hg0
 go_wp2_with fail
 clear y8
 go_loopw [3, 10] (fun x i wr => ∃ (k : Nat) (A : Option Addr) (c : Nat), k ≤ n1 ∧ i = .int .i64 k ∧ x = .slice A (loads (L.take k)).length c ∧ ZO wr W0.heap.size 258 2 A (loads (L.take k)).length c ((loads (L.take k)).map spC) ∧
  (∀ s ∈ L.take k, m.segC s = 0) ∧ Grow W0 wr) (fun _ i _ => n1 - (intOf i).toNat)
 case atStart => exact ⟨0, none, 0, by omega, rfl, rfl, ZO.nil, fun s h => absurd h (by simp), Grow.refl _⟩
 case round =>
  obtain ⟨k, A, c, hk, rfl, rfl, ho, hz, hg⟩ := hrel
  have HO := hid ho
  have HZ0 := hid hz
  have HG := hid hg
  have HB2 := hid (HB1.out.grow hg)
  have hlt := HB2.out.lt
  clear ho hz hg
  by_cases hlt : k < n1
  ·have hkl : k < L.length := by rw [← HL.out]; exact hlt
   obtain ⟨b, off, rfl, hb⟩ := HZ.out.pos (by omega)
   obtain ⟨Ak, nk, ck, -, hcell, gk⟩ := HZ.out.at hkl
   have hcell' : ∀ i v, (sgC L[k] (.slice Ak nk ck))[i]? = some v → wr.cell? ⟨b, off + k * 10 + i, none⟩ = some v := fun i v hv => (Below.cell (HG0.out.trans HG.out) hb).trans (hcell i v hv)
   have HS1 := hid (fun w' (hg : Grow wr w') => HS.out L[k] (HOk.out _ (List.getElem_mem _)) Ak nk ck w' (HG0.out.trans (HG.out.trans hg)) ((gk.belowAt (HG0.out.trans (HG.out.trans hg)) (Nat.le_refl _)).more (HG0.out.trans (HG.out.trans hg)).size))
   have HE1 := hid (loads_snoc L k hkl)
   have HE2 := hid (takeS L k hkl)
   have HE3 := hid (fun h => fstC_at (f := m.segC) hkl HZ0.out h)
   unfold loadOf at HE1
   unfold sgC at hcell' HS1
   generalize L[k] = s at hcell' HS1 HE1 HE2 HE3
   have t0 : wr.cell? ⟨b, off + k * 10, none⟩ = _ := hcell' 0 _ rfl
   have t1 := hcell' 1 _ rfl
   have t2 := hcell' 2 _ rfl
   have t3 := hcell' 3 _ rfl
   have t4 := hcell' 4 _ rfl
   have t5 := hcell' 5 _ rfl
   have t6 := hcell' 6 _ rfl
   have t7 := hcell' 7 _ rfl
   have t8 := hcell' 8 _ rfl
   have t9 := hcell' 9 _ rfl
   clear hcell hcell' gk
   generalize s.typ = ty at t0 HS1 HE1
   generalize s.vaddr = va at t2 HS1 HE1
   generalize s.memsz = ms at t4 HS1 HE1
   obtain ⟨v0, v1, v2, v3, v4, v5, v6, v7, v8, v9, v10⟩ := HB2.out.c11
   have hne : ¬ (w.heap.size = wr.heap.size) := by omega
   go_wp2_with fail
   generalize hW : World.alloc _ _ = W1
   obtain ⟨b5, hg5⟩ := blk1 hW
   clear hW t0 t1 t2 t3 t4 t5 t6 t7 t8 t9 v0 v1 v2 v3 v4 v5 v6 v7 v8 v9 v10 hne
   refine (HS1.out W1 hg5).mono ?_
   rintro e w2 ⟨rfl, hg2⟩
   have HO2 := hid (HO.out.keep (hg5.trans hg2))
   have HB5 := hid (b5.grow hg2)
   have HG2 : Hid (Grow W0 w2) := HG.out.trans (hg5.trans hg2)
   have HS2 := hid (HG2.out.size)
   clear b5 hg5 hg2 HS1 HO HG HB2
   obtain ⟨q, hq⟩ : ∃ q, m.segC s = q := ⟨_, rfl⟩
   rw [hq] at HE3 ⊢
   have HQ := hid hq
   clear hq
   by_cases hc : q = 0
   ·subst hc
    rw [eC_zero]
    have HZ1 : Hid (∀ s ∈ L.take (k + 1), m.segC s = 0) := hid fun a ha => by
     rw [HE2.out] at ha
     rcases List.mem_append.1 ha with h | h
     ·exact HZ0.out a h
     ·obtain rfl : a = s := by simpa using h
      exact HQ.out
    clear HE2 HE3
    obtain ⟨y0, y1, y2, y3, y4, y5, y6, y7, y8, y9⟩ := HB5.out.c10
    clear y1 y3 y5 y6 y7 y8 y9
    by_cases ht : ty = 1
    ·have d : ((ty : Int) == 1) = true := by simp [ht]
     have HE : Hid (loads (L.take (k + 1)) = loads (L.take k) ++ [(va, ms)]) := hid (by rw [HE1.out, if_pos ht])
     have HLen : Hid ((loads (L.take (k + 1))).length = (loads (L.take k)).length + 1) := hid (by rw [HE.out]; simp)
     have HLe : Hid ((loads (L.take k)).length ≤ 16) := hid (by have := loads_le (L.take k); rw [List.length_take] at this; omega)
     have HBR := hid (Blk.new w2 258 #[.int .u64 (va : Nat), .int .u64 (ms : Nat)])
     have hga := Grow.of_alloc w2 (.cells #[.int .u64 (va : Nat), .int .u64 (ms : Nat)] 258)
     have HO3 := hid (HO2.out.keep hga)
     have HG3 : Hid (Grow W0 (w2.alloc (.cells #[.int .u64 (va : Nat), .int .u64 (ms : Nat)] 258))) := HG2.out.trans hga
     have HS3 := hid HG3.out.size
     have HOne : Hid ((#[.int .u64 (va : Nat), .int .u64 (ms : Nat)] : Array Value).all (·.oneCell') = true) := hid (by simp [Value.oneCell'])
     clear ht HE1 hga HO2 HG2
     go_wp2_with (at_builtin; refine wpList_appendZ (w2.alloc (.cells #[.int .u64 (va : Nat), .int .u64 (ms : Nat)] 258)) rfl (.tmp 23) (.tmp 29) 255 rfl W0.heap.size 258 (.agg #[.int .u64 0, .int .u64 0]) 2 16 Tryz.underlying255 (by kernel_rfl) rfl (by omega) A _ c _ rfl HO3.out w2.heap.size _ #[.int .u64 (va : Nat), .int .u64 (ms : Nat)] rfl HBR.out rfl HOne.out (by have := HLe.out; unfold maxLen; omega) (by have := HLe.out; omega) HS3.out ?_; intro A5 c5 w6 ho5 hg5 hn5; refine Hid.out ?_)
     have hb5 : Below W0.heap.size (w2.alloc (.cells #[.int .u64 (va : Nat), .int .u64 (ms : Nat)] 258)) w6 := (Below.refl _ _).grown hg5 HS3.out (fun j hj => HO3.out.ge hj)
     have HG6 : Hid (Grow W0 w6) := HG3.out.trans' hb5
     have HO6 : Hid (ZO w6 W0.heap.size 258 2 A5 ((loads (L.take k)).length + 1) c5 ((loads (L.take (k + 1))).map spC)) := by
      rw [HE.out, List.map_append]
      exact ho5
     clear ho5 hg5 hn5 hb5 HBR HO3 HG3 HS3 y0 y2 y4 d
     refine hid ?_
     go_wp2
     go_roundw
     case rel => exact ⟨k + 1, A5, c5, by omega, by go_num, by rw [HLen.out], by rw [HLen.out]; exact HO6.out, HZ1.out, HG6.out⟩
     case measure => simp [intOf]; omega
    ·have d : ((ty : Int) == 1) = false := by simp; omega
     have HE : Hid (loads (L.take (k + 1)) = loads (L.take k)) := hid (by rw [HE1.out, if_neg ht, List.append_nil])
     clear ht HE1 y2 y4
     go_wp2
     go_roundw
     case rel => exact ⟨k + 1, A, c, by omega, by go_num, by rw [HE.out], by rw [HE.out]; exact HO2.out, HZ1.out, HG2.out⟩
     case measure => simp [intOf]; omega
   ·have E2 := hid (show C = q by rw [E.out, HE3.out hc, if_neg hc])
    have HC := hid hc
    rw [eC_some hc]
    clear hc
    go_wp2
    go_ret
    exact e_ret E2.out _ (eC_some HC.out).symm (HG0.out.trans HG2.out)
  ·have hkn : k = n1 := by omega
   have HT : Hid (L.take k = L) := hid (by rw [hkn, HL.out, List.take_length])
   have HF : Hid (fstC m.segC L = 0) := hid (fstC_zero.2 (by have := HZ0.out; rwa [HT.out] at this))
   have ho := HO.out
   have HLt := hid (loads_lt HOk.out)
   rw [HT.out] at ho ⊢
   have HR := hid (rising_any A _ c _ wr ho.zs HLt.out)
   have E2 := hid (show C = if rises (loads L) then 0 else 7 by rw [E.out, if_pos HF.out])
   generalize rises (loads L) = R at HR E2
   generalize loads L = LL at HR ⊢
   clear ho hkn
   go_wp2_with fail
   refine HR.out.mono ?_
   rintro e w2 ⟨rfl, hg2⟩
   have HG2 : Hid (Grow w w2) := HG0.out.trans (HG.out.trans hg2)
   clear hg2
   cases R with
   | false =>
    go_wp2
    go_ret
    exact e_ret (a := 7) (by rw [E2.out]; rfl) _ rfl HG2.out
   | true =>
    go_wp2
    go_ret
    exact e_ret (a := 0) (by rw [E2.out]; rfl) _ rfl HG2.out
end Go.Proofs.YtfbimboemahhhaaGreatDoor
