/-
  The contract of model.mayBe: whether a place may be.
-/
import Derived.Test.YthebemikhjglbaaMdA
namespace Go.Proofs.Ythebemikhjglbaa
open Go.RowKit

theorem may_own {m : Md} {p : Pl} (h : p.inn = -1) : m.may p = p.ownMay := by unfold Md.may; rw [if_pos h]
theorem may_in {m : Md} {p : Pl} (h : p.inn ≠ -1) : m.may p = (isSegN m.segs.length p.inn && decide ((m.seg p.inn).typ = 1) && p.inMay (m.seg p.inn).pl.own.length) := by unfold Md.may; rw [if_neg h]
/-- The cells of a model, as letters. -/
theorem mdC_cells (m : Md) (s t : Value) : ∃ x0 x1 x2 x3 x4 x5 x6 x7 x9 x10 : Value, mdC m s t = #[x0, x1, x2, x3, x4, x5, x6, x7, s, x9, x10] := ⟨_, _, _, _, _, _, _, _, _, _, rfl⟩
theorem isSegN_true {n : Nat} {i : Int} (h : isSegN n i = true) : ∃ k : Nat, i = (k : Int) ∧ k < n := by
  unfold isSegN at h
  simp at h
  exact ⟨i.toNat, by omega, by omega⟩
theorem Md.seg_nat (m : Md) (k : Nat) (h : k < m.segs.length) : m.seg (k : Int) = m.segs[k] := by
  unfold Md.seg
  simp [List.getD_eq_getElem?_getD, h]

set_option maxHeartbeats 1000000 in
theorem mMay_any (m : Md) (A1 A2 : Option Addr) (n1 c1 n2 c2 : Nat) (p : Pl) (A : Option Addr) (n c : Nat) (w : World) (g1 : ZR sgK w w.heap.size A1 n1 c1 m.segs) (g : RB w w.heap.size A n c p.own) :
    Calls Try.prog 41 #[.agg (mdC m (.slice A1 n1 c1) (.slice A2 n2 c2)), .agg (plC p (.slice A n c))] w fun e w' => e = .returned (.bool (m.may p)) ∧ Grow w w' := by
  have hn : n = p.own.length := g.len
  have hnm : n ≤ maxLen := Nat.le_trans g.cap g.max
  have hnm' := hnm
  unfold maxLen at hnm'
  have z : IntKind.u64.wrap (n : Int) = (n : Int) := by rw [IntKind.wrap_u64]; omega
  by_cases h0 : p.inn = -1
  · rw [may_own h0]
    have E := Lib.hid (show p.ownMay = (decide (p.off = 0) && decide (p.size = n)) by rw [hn]; rfl)
    unfold plC mdC
    rw [h0]
    generalize p.ownMay = R at E ⊢
    generalize p.off = a at E ⊢
    generalize p.size = b at E ⊢
    clear hn hnm hnm' h0 g
    by_cases ha : a = 0
    · subst ha
      go_enter Try.func41, Try.ntmps41
      go_wp2
      go_ret
      exact ⟨ret_bool (by rw [E.out, Bool.eq_iff_iff]; simp; try omega), (Grow.of_alloc _ _).trans (Grow.of_alloc _ _)⟩
    · have e0 : ((a : Int) == 0) = false := by simp [ha]
      have E2 := Lib.hid (show (decide (a = 0) && decide (b = n)) = false by simp [ha])
      clear ha
      go_enter Try.func41, Try.ntmps41
      go_wp2
      go_ret
      exact ⟨ret_bool (by rw [E.out, E2.out]), (Grow.of_alloc _ _).trans (Grow.of_alloc _ _)⟩
  · have hl := g1.len
    rw [may_in h0, ← hl]
    have hI := mIsSeg_any m A1 A2 n1 c1 n2 c2 p.inn
    obtain ⟨x0, x1, x2, x3, x4, x5, x6, x7, x9, x10, hC⟩ := mdC_cells m (.slice A1 n1 c1) (.slice A2 n2 c2)
    rw [hC] at hI ⊢
    clear hC
    cases hs : isSegN n1 p.inn with
    | false =>
      rw [hs] at hI
      have HI := Lib.hid hI
      have Hi : (p.inn == -1) = false := by simpa using h0
      clear hI hs h0 hl hn hnm hnm' g g1
      simp only [Bool.false_and]
      unfold plC
      generalize p.inn = i at HI Hi ⊢
      go_enter Try.func41, Try.ntmps41
      go_wp2_with fail
      generalize hW : World.alloc _ _ = W0
      obtain ⟨b1, b2, hg0⟩ := blk2 hW
      clear hW
      have HG0 := Lib.hid hg0
      obtain ⟨y0, y1, y2, y3⟩ := b2.c4
      obtain ⟨v0, v1, v2, v3, v4, v5, v6, v7, v8, v9, v10⟩ := b1.c11
      clear b1 b2 hg0
      go_wp2_with fail
      clear y0 y1 y2 y3 v0 v1 v2 v3 v4 v5 v6 v7 v8 v9 v10
      refine (HI.out _).mono ?_
      rintro e w1 ⟨rfl, hg1⟩
      have HG1 : Hid (Grow w w1) := HG0.out.trans hg1
      clear hg1
      go_wp2
      go_ret
      exact ⟨rfl, HG1.out⟩
    | true =>
      obtain ⟨k, hk, hkl⟩ := isSegN_true hs
      rw [hl] at hkl
      rw [hs] at hI
      rw [hk] at hI
      rw [hk, m.seg_nat k hkl]
      obtain ⟨b, off, rfl, hb⟩ := g1.pos (by rw [g1.len]; omega)
      obtain ⟨Ak, nk, ck, -, hcell, gk⟩ := g1.at hkl
      have t0 : w.cell? ⟨b, off + k * 10, none⟩ = some (.int .u32 (m.segs[k].typ : Nat)) := hcell 0 _ rfl
      have t9 : w.cell? ⟨b, off + k * 10 + 9, none⟩ = some (.slice Ak nk ck) := hcell 9 _ rfl
      have hnk : m.segs[k].pl.own.length = nk := gk.len.symm
      have hnkm : nk ≤ maxLen := Nat.le_trans gk.cap gk.max
      have HWi := Lib.hid (fun w => mIsWithin_any p (.slice A n c) Ak nk ck w hnkm)
      have E := Lib.hid (show p.inMay nk = (decide (n = 0) && decide (0 < p.size) && p.within nk) by rw [hn]; rfl)
      have hkn : k < n1 := by rw [g1.len]; exact hkl
      have hb1 : b < w.heap.size := hb
      have T0 := Lib.hid t0
      have T9 := Lib.hid t9
      have HBb := Lib.hid hb1
      have hn1m := g1.cap
      have hn1m' := g1.max
      unfold maxLen at hn1m'
      rw [hnk]
      have HI := Lib.hid hI
      unfold plC at HWi ⊢
      rw [hk] at HWi ⊢
      rw [Bool.true_and]
      have e0 : ((k : Int) == -1) = false := by simp
      generalize p.within nk = V at E HWi
      generalize p.inMay nk = R at E ⊢
      generalize p.off = po at HWi ⊢
      generalize p.size = ps at E HWi ⊢
      generalize (m.segs[k]).typ = ty at T0 ⊢
      clear hI hs t0 t9 hcell gk hnk hnkm hn hk h0 g1 g hb hb1 hnm hl
      go_enter Try.func41, Try.ntmps41
      go_wp2_with fail
      generalize hW : World.alloc _ _ = W0
      obtain ⟨b1, b2, hg0⟩ := blk2 hW
      clear hW
      have HB1 := Lib.hid b1
      have HB20 := Lib.hid b2
      have HG0 := Lib.hid hg0
      obtain ⟨y0, y1, y2, y3⟩ := b2.c4
      obtain ⟨v0, v1, v2, v3, v4, v5, v6, v7, v8, v9, v10⟩ := b1.c11
      clear b1 b2 hg0
      go_wp2_with fail
      clear y0 y1 y2 y3 v0 v1 v2 v3 v4 v5 v6 v7 v8 v9 v10
      refine (HI.out _).mono ?_
      rintro e w1 ⟨rfl, hg1⟩
      have HG1 : Hid (Grow w w1) := HG0.out.trans hg1
      have HB2 := Lib.hid (HB20.out.grow hg1)
      have y8 : w1.cell? ⟨w.heap.size, 8, none⟩ = some (.slice (some ⟨b, off, none⟩) n1 c1) := (HB1.out.grow hg1).at 8
      obtain ⟨y0, y1, y2, y3⟩ := HB2.out.c4
      have t0 : w1.cell? ⟨b, off + k * 10, none⟩ = some (.int .u32 (ty : Int)) := (Below.cell HG1.out HBb.out).trans T0.out
      have HY8 := Lib.hid (HB1.out.grow hg1)
      clear hg1 HG0 HB20 HB1
      by_cases ht : ty = 1
      · have e1 : ((ty : Int) != 1) = false := by simp [ht]
        have E1 := Lib.hid (show decide (ty = 1) = true by simp [ht])
        clear ht
        go_wp2_with fail
        clear y0 y1 y2 y3 y8 t0 e1
        refine wp_region_chain [(0, true), (1, true), (2, true), (3, true), (4, true), (5, true), (6, true), (7, true), (8, true), (9, true), (10, true), (11, true), (12, true), (13, true), (14, true), (15, true), (16, true), (17, true), (18, true), (19, false), (20, true), (21, true)] (by kernel_rfl) (by kernel_rfl) (by kernel_rfl) ?_
        have q0 : ∀ W, Grow w1.drew W → W.cell? ⟨w.heap.size + 1, 0, none⟩ = some (.int .i64 (k : Int)) := fun W hW => (HB2.out.grow ((Grow.of_drew _).trans hW)).at 0
        have q1 : ∀ W, Grow w1.drew W → W.cell? ⟨w.heap.size + 1, 1, none⟩ = some (.int .u64 (po : Nat)) := fun W hW => (HB2.out.grow ((Grow.of_drew _).trans hW)).at 1
        have q2 : ∀ W, Grow w1.drew W → W.cell? ⟨w.heap.size + 1, 2, none⟩ = some (.int .u64 (ps : Nat)) := fun W hW => (HB2.out.grow ((Grow.of_drew _).trans hW)).at 2
        have q3 : ∀ W, Grow w1.drew W → W.cell? ⟨w.heap.size + 1, 3, none⟩ = some (.slice A n c) := fun W hW => (HB2.out.grow ((Grow.of_drew _).trans hW)).at 3
        have q8 : ∀ W, Grow w1.drew W → W.cell? ⟨w.heap.size, 8, none⟩ = some (.slice (some ⟨b, off, none⟩) n1 c1) := fun W hW => (HY8.out.grow ((Grow.of_drew _).trans hW)).at 8
        have t9 : ∀ W, Grow w1.drew W → W.cell? ⟨b, off + k * 10 + 9, none⟩ = some (.slice Ak nk ck) := fun W hW => (Below.cell (HG1.out.trans ((Grow.of_drew _).trans hW)) HBb.out).trans T9.out
        have HD : Hid (Grow w w1.drew) := HG1.out.trans (Grow.of_drew _)
        generalize w1.drew = w2 at HD q0 q1 q2 q3 q8 t9 ⊢
        by_cases hn0 : n = 0
        · subst hn0
          by_cases hp0 : 0 < ps
          · have e2 : decide (0 < ps) = true := decide_eq_true hp0
            have E2 := Lib.hid (show R = V by rw [E.out]; simp [hp0])
            clear hp0
            repeat (first | (refine chain_take rfl (by rfl) ?_ (fun W hG => ?_) ?_; rotate_left; (go_simp; rfl); simp only [Act.put, List.setIfInBounds_toArray, List.set_cons_zero, List.set_cons_succ]) | (refine chain_skip rfl (by rfl) ?_; simp only [Act.put, List.setIfInBounds_toArray, List.set_cons_zero, List.set_cons_succ]))
            refine chain_only rfl (by rfl) (fun K hK => ?_)
            go_simp
            refine (HWi.out _).mono ?_
            rintro e w3 ⟨rfl, hg3⟩
            refine hK _ _ hg3 ?_
            have HF : Hid (Grow w w3) := HD.out.trans hg3
            clear hK K hg3 q0 q1 q2 q3 q8 t9
            repeat (first | (refine chain_take rfl (by rfl) ?_ (fun W hG => ?_) ?_; rotate_left; (go_simp; rfl); simp only [Act.put, List.setIfInBounds_toArray, List.set_cons_zero, List.set_cons_succ]) | (refine chain_skip rfl (by rfl) ?_; simp only [Act.put, List.setIfInBounds_toArray, List.set_cons_zero, List.set_cons_succ]))
            refine chain_done ?_
            go_wp2
            go_ret
            exact ⟨ret_bool (by rw [E1.out, Bool.true_and, E2.out]), HF.out⟩
          · have e2 : decide (0 < ps) = false := decide_eq_false hp0
            have E2 := Lib.hid (show R = false by rw [E.out]; simp [hp0])
            clear hp0
            repeat (first | (refine chain_take rfl (by rfl) ?_ (fun W hG => ?_) ?_; rotate_left; (go_simp; rfl); simp only [Act.put, List.setIfInBounds_toArray, List.set_cons_zero, List.set_cons_succ]) | (refine chain_skip rfl (by rfl) ?_; simp only [Act.put, List.setIfInBounds_toArray, List.set_cons_zero, List.set_cons_succ]))
            refine chain_none rfl (by rfl) ?_
            simp only [Act.put, List.setIfInBounds_toArray, List.set_cons_zero, List.set_cons_succ]
            repeat (first | (refine chain_take rfl (by rfl) ?_ (fun W hG => ?_) ?_; rotate_left; (go_simp; rfl); simp only [Act.put, List.setIfInBounds_toArray, List.set_cons_zero, List.set_cons_succ]) | (refine chain_skip rfl (by rfl) ?_; simp only [Act.put, List.setIfInBounds_toArray, List.set_cons_zero, List.set_cons_succ]))
            refine chain_done ?_
            go_wp2
            go_ret
            exact ⟨ret_bool (by rw [E1.out, Bool.true_and, E2.out]), HD.out⟩
        · have e2 : ((n : Int) == 0) = false := by simp; omega
          have E2 := Lib.hid (show R = false by rw [E.out]; simp [hn0])
          clear hn0
          repeat (first | (refine chain_take rfl (by rfl) ?_ (fun W hG => ?_) ?_; rotate_left; (go_simp; rfl); simp only [Act.put, List.setIfInBounds_toArray, List.set_cons_zero, List.set_cons_succ]) | (refine chain_skip rfl (by rfl) ?_; simp only [Act.put, List.setIfInBounds_toArray, List.set_cons_zero, List.set_cons_succ]))
          refine chain_none rfl (by rfl) ?_
          simp only [Act.put, List.setIfInBounds_toArray, List.set_cons_zero, List.set_cons_succ]
          repeat (first | (refine chain_take rfl (by rfl) ?_ (fun W hG => ?_) ?_; rotate_left; (go_simp; rfl); simp only [Act.put, List.setIfInBounds_toArray, List.set_cons_zero, List.set_cons_succ]) | (refine chain_skip rfl (by rfl) ?_; simp only [Act.put, List.setIfInBounds_toArray, List.set_cons_zero, List.set_cons_succ]))
          refine chain_done ?_
          go_wp2
          go_ret
          exact ⟨ret_bool (by rw [E1.out, Bool.true_and, E2.out]), HD.out⟩
      · have e1 : ((ty : Int) != 1) = true := by simp; omega
        have E1 := Lib.hid (show decide (ty = 1) = false by simp [ht])
        clear ht
        go_wp2
        go_ret
        exact ⟨ret_bool (by rw [E1.out, Bool.false_and]), HG1.out⟩
end Go.Proofs.Ythebemikhjglbaa
