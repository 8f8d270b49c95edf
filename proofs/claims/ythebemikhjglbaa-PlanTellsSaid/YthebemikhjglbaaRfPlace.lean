/-
  The contract of the document's own Place: whether a place may be.
-/
import Derived.Test.YthebemikhjglbaaMdMay
import Derived.Test.YthebemikhjglbaaRefWithin
namespace Go.Proofs.Ythebemikhjglbaa
open Go.RowKit

set_option maxHeartbeats 2000000 in
theorem rPlace_any (m : Md) (A1 A2 : Option Addr) (n1 c1 n2 c2 : Nat) (p : Pl) (A : Option Addr) (n c : Nat) (w : World) (g1 : ZR sgK w w.heap.size A1 n1 c1 m.segs) (g : RB w w.heap.size A n c p.own) :
    Calls Try.prog 33 #[.agg (mdC m (.slice A1 n1 c1) (.slice A2 n2 c2)), .agg (plC p (.slice A n c))] w fun e w' => e = .returned (.bool (m.may p)) ∧ Grow w w' := by
  have hn : n = p.own.length := g.len
  have hnm : n ≤ maxLen := Nat.le_trans g.cap g.max
  unfold maxLen at hnm
  have z : IntKind.u64.wrap (n : Int) = (n : Int) := by rw [IntKind.wrap_u64]; omega
  by_cases h0 : p.inn = -1
  · rw [may_own h0]
    have E := Lib.hid (show p.ownMay = (decide (p.off = 0) && decide (p.size = n)) by rw [hn]; rfl)
    unfold plC mdC
    rw [h0]
    generalize p.ownMay = R at E ⊢
    generalize p.off = a at E ⊢
    generalize p.size = b at E ⊢
    clear hn hnm h0 g
    by_cases ha : a = 0
    · subst ha
      go_enter Try.func33, Try.ntmps33
      go_wp2
      go_ret
      exact ⟨ret_bool (by rw [E.out, Bool.eq_iff_iff]; simp; try omega), (Grow.of_alloc _ _).trans (Grow.of_alloc _ _)⟩
    · have e0 : ((a : Int) == 0) = false := by simp [ha]
      have E2 := Lib.hid (show (decide (a = 0) && decide (b = n)) = false by simp [ha])
      clear ha
      go_enter Try.func33, Try.ntmps33
      go_wp2
      go_ret
      exact ⟨ret_bool (by rw [E.out, E2.out]), (Grow.of_alloc _ _).trans (Grow.of_alloc _ _)⟩
  · have hl := g1.len
    rw [may_in h0, ← hl]
    obtain ⟨x0, x1, x2, x3, x4, x5, x6, x7, x9, x10, hC⟩ := mdC_cells m (.slice A1 n1 c1) (.slice A2 n2 c2)
    rw [hC]
    clear hC
    have Hi : (p.inn == -1) = false := by simpa using h0
    cases hs : isSegN n1 p.inn with
    | false =>
      have HQ : Hid (p.inn < 0 ∨ (n1 : Int) ≤ p.inn) := by
        refine Lib.hid ?_
        unfold isSegN at hs
        simp at hs
        omega
      clear hs h0 hl hn hnm g g1
      simp only [Bool.false_and]
      unfold plC
      generalize p.inn = i at Hi HQ ⊢
      by_cases hneg : i < 0
      · have d1 : decide (i < 0) = true := decide_eq_true hneg
        clear hneg
        go_enter Try.func33, Try.ntmps33
        go_wp2
        go_ret
        exact ⟨rfl, (Grow.of_alloc _ _).trans (Grow.of_alloc _ _)⟩
      · have d1 : decide (i < 0) = false := decide_eq_false hneg
        have d2 : decide ((n1 : Int) ≤ i) = true := decide_eq_true (by have := HQ.out; omega)
        clear hneg
        go_enter Try.func33, Try.ntmps33
        go_wp2
        go_ret
        exact ⟨rfl, (Grow.of_alloc _ _).trans (Grow.of_alloc _ _)⟩
    | true =>
      obtain ⟨k, hk, hkl⟩ := isSegN_true hs
      rw [hl] at hkl
      rw [hk, m.seg_nat k hkl]
      obtain ⟨b, off, rfl, hb⟩ := g1.pos (by rw [g1.len]; omega)
      obtain ⟨Ak, nk, ck, -, hcell, gk⟩ := g1.at hkl
      have hcell' : ∀ i v, (sgC m.segs[k] (.slice Ak nk ck))[i]? = some v → w.cell? ⟨b, off + k * 10 + i, none⟩ = some v := hcell
      have hnk : m.segs[k].pl.own.length = nk := gk.len.symm
      have hnkm : nk ≤ maxLen := Nat.le_trans gk.cap gk.max
      unfold maxLen at hnkm
      have hkn : k < n1 := by rw [g1.len]; exact hkl
      have hn1m := g1.cap
      have hn1m' := g1.max
      unfold maxLen at hn1m'
      have HWi := Lib.hid (fun w => refWithin_any (p.off : Int) (p.size : Int) (nk : Int) w (by omega) (by omega) (by omega))
      have E := Lib.hid (show p.inMay nk = (decide (n = 0) && decide (0 < p.size) && wthn (p.off : Int) (p.size : Int) (nk : Int)) by
        rw [hn]
        unfold Pl.inMay Pl.within wthn
        congr 1
        rw [Bool.eq_iff_iff, decide_eq_true_iff, decide_eq_true_iff]
        omega)
      rw [hnk]
      have e0 : ((k : Int) == -1) = false := by simp
      have z2 : IntKind.u64.wrap (nk : Int) = (nk : Int) := by rw [IntKind.wrap_u64]; omega
      have d1 : decide ((k : Int) < 0) = false := decide_eq_false (by omega)
      have d2 : decide ((n1 : Int) ≤ (k : Int)) = false := decide_eq_false (by omega)
      rw [Bool.true_and]
      unfold plC
      unfold sgC at hcell'
      rw [hk]
      generalize m.segs[k] = s at hcell' ⊢
      have t0 : w.cell? ⟨b, off + k * 10, none⟩ = _ := hcell' 0 _ rfl
      have t1 := hcell' 1 _ rfl
      have t2 := hcell' 2 _ rfl
      have t3 := hcell' 3 _ rfl
      have t4 := hcell' 4 _ rfl
      have t5 := hcell' 5 _ rfl
      have t6 := hcell' 6 _ rfl
      have t7 := hcell' 7 _ rfl
      have t8 := hcell' 8 _ rfl
      have t9 := hcell' 9 _ rfl
      generalize wthn (p.off : Int) (p.size : Int) (nk : Int) = V at E HWi
      generalize p.inMay nk = R at E ⊢
      generalize p.off = po at HWi ⊢
      generalize p.size = ps at E HWi ⊢
      generalize s.typ = ty at t0 ⊢
      clear hcell hcell' gk hnk hs hk hkl h0 g1 g hl hn hnm Hi
      have d2' : decide (n1 ≤ k) = false := decide_eq_false (by omega)
      have hal : Grow w ((w.alloc (.cells #[x0, x1, x2, x3, x4, x5, x6, x7, .slice (some ⟨b, off, none⟩) n1 c1, x9, x10] 32)).alloc (.cells #[.int .i64 (k : Int), .int .u64 (po : Nat), .int .u64 (ps : Nat), .slice A n c] 52)) := (blk2 rfl).2.2
      have hc2 : ∀ i v, w.cell? ⟨b, i, none⟩ = some v → ((w.alloc (.cells #[x0, x1, x2, x3, x4, x5, x6, x7, .slice (some ⟨b, off, none⟩) n1 c1, x9, x10] 32)).alloc (.cells #[.int .i64 (k : Int), .int .u64 (po : Nat), .int .u64 (ps : Nat), .slice A n c] 52)).cell? ⟨b, i, none⟩ = some v := fun i v h => (Below.cell hal hb).trans h
      replace t0 := hc2 _ _ t0
      replace t1 := hc2 _ _ t1
      replace t2 := hc2 _ _ t2
      replace t3 := hc2 _ _ t3
      replace t4 := hc2 _ _ t4
      replace t5 := hc2 _ _ t5
      replace t6 := hc2 _ _ t6
      replace t7 := hc2 _ _ t7
      replace t8 := hc2 _ _ t8
      replace t9 := hc2 _ _ t9
      clear hb hal hc2
      go_enter Try.func33, Try.ntmps33
      go_wp2_with fail
      clear t0 t1 t2 t3 t4 t5 t6 t7 t8 t9
      generalize hW : World.alloc _ _ = W1
      obtain ⟨b1, b2, b3, hg1⟩ := blk3 hW
      clear hW
      have HG1 : Hid (Grow w W1) := hg1
      have y1 := b2.at 1
      have y2 := b2.at 2
      have y3 := b2.at 3
      have v0 := b3.at 0
      have v9 := b3.at 9
      clear hg1 b1 b2 b3
      refine (HWi.out _).mono ?_
      rintro e w1 ⟨rfl, rfl⟩
      by_cases ht : ty = 1
      · have e1 : ((ty : Int) == 1) = true := by simp [ht]
        have E1 := Lib.hid (show decide (ty = 1) = true by simp [ht])
        clear ht
        by_cases hn0 : n = 0
        · have e3 : ((n : Int) == 0) = true := by simp [hn0]
          by_cases hp0 : 0 < ps
          · have e4 : decide ((1 : Int) ≤ (ps : Int)) = true := decide_eq_true (by omega)
            have e4' : decide (1 ≤ ps) = true := decide_eq_true (by omega)
            have E2 := Lib.hid (show R = V by rw [E.out]; simp [hp0, hn0])
            clear hn0 hp0
            go_wp2
            go_ret
            exact ⟨ret_bool (by rw [E1.out, Bool.true_and, E2.out]), HG1.out⟩
          · have e4 : decide ((1 : Int) ≤ (ps : Int)) = false := decide_eq_false (by omega)
            have e4' : decide (1 ≤ ps) = false := decide_eq_false (by omega)
            have E2 := Lib.hid (show R = false by rw [E.out]; simp [hp0])
            clear hn0 hp0
            go_wp2
            go_ret
            exact ⟨ret_bool (by rw [E1.out, Bool.true_and, E2.out]), HG1.out⟩
        · have e3 : ((n : Int) == 0) = false := by simp; omega
          have E2 := Lib.hid (show R = false by rw [E.out]; simp [hn0])
          clear hn0
          go_wp2
          go_ret
          exact ⟨ret_bool (by rw [E1.out, Bool.true_and, E2.out]), HG1.out⟩
      · have e1 : ((ty : Int) == 1) = false := by simp; omega
        have E1 := Lib.hid (show decide (ty = 1) = false by simp [ht])
        clear ht
        go_wp2
        go_ret
        exact ⟨ret_bool (by rw [E1.out, Bool.false_and]), HG1.out⟩
end Go.Proofs.Ythebemikhjglbaa
