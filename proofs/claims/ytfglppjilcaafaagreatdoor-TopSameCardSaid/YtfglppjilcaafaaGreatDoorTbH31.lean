/-
  Several texts in one: The contract of the document's own Place; The contracts of the document's own power and next; The contract of the document's own segment; The contract of the document's own Name (layer 7).
-/
import Derived.Test.YtfglppjilcaafaaGreatDoorTbH8
import Derived.Test.YtfglppjilcaafaaGreatDoorTbH30
import Derived.Test.YtfglppjilcaafaaGreatDoorTbH4
import Derived.Test.YtfglppjilcaafaaGreatDoorTbH2
import Derived.WalkKit
import Derived.Test.YtfglppjilcaafaaGreatDoorTbH9
namespace Go.Proofs.YtfglppjilcaafaaGreatDoor
open Go.Lib (hid)
open Go.RowKit
set_option maxHeartbeats 2000000 in
theorem rPlace_any (m : Md) (A1 A2 : Option Addr) (n1 c1 n2 c2 : Nat) (p : Pl) (A : Option Addr) (n c : Nat) (w : World) (g1 : ZR sgK w w.heap.size A1 n1 c1 m.segs) (g : RB w w.heap.size A n c p.own) :
  Calls Tryz.prog 51 #[.agg (mdC m (.slice A1 n1 c1) (.slice A2 n2 c2)), .agg (plC p (.slice A n c))] w fun e w' => e = .returned (.bool (m.may p)) ∧ Grow w w' := by
 have hn : n = p.own.length := g.len
 have hnm : n ≤ maxLen := Nat.le_trans g.cap g.max
 unfold maxLen at hnm
 have z : IntKind.u64.wrap (n : Int) = (n : Int) := by rw [IntKind.wrap_u64]; omega
 by_cases h0 : p.inn = -1
 ·rw [may_own h0]
  have E := hid (show p.ownMay = (decide (p.off = 0) && decide (p.size = n)) by rw [hn]; rfl)
  unfold plC mdC
  rw [h0]
  generalize p.ownMay = R at E ⊢
  generalize p.off = a at E ⊢
  generalize p.size = b at E ⊢
  clear hn hnm h0 g
  by_cases ha : a = 0
  ·subst ha
   go_enter Tryz.func51, Tryz.ntmps51
   go_wp2
   go_ret
   exact ⟨ret_bool (by rw [E.out, Bool.eq_iff_iff]; simp; try omega), (Grow.of_alloc _ _).trans (Grow.of_alloc _ _)⟩
  ·have e0 : ((a : Int) == 0) = false := by simp [ha]
   have E2 := hid (show (decide (a = 0) && decide (b = n)) = false by simp [ha])
   clear ha
   go_enter Tryz.func51, Tryz.ntmps51
   go_wp2
   go_ret
   exact ⟨ret_bool (by rw [E.out, E2.out]), (Grow.of_alloc _ _).trans (Grow.of_alloc _ _)⟩
 ·have hl := g1.len
  rw [may_in h0, ← hl]
  obtain ⟨x0, x1, x2, x3, x4, x5, x6, x7, x9, x10, hC⟩ := mdC_cells m (.slice A1 n1 c1) (.slice A2 n2 c2)
  rw [hC]
  clear hC
  have Hi : (p.inn == -1) = false := by simpa using h0
  cases hs : isSegN n1 p.inn with
  | false =>
   have HQ : Hid (p.inn < 0 ∨ (n1 : Int) ≤ p.inn) := by
    refine hid ?_
    unfold isSegN at hs
    simp at hs
    omega
   clear hs h0 hl hn hnm g g1
   simp only [Bool.false_and]
   unfold plC
   generalize p.inn = i at Hi HQ ⊢
   by_cases hneg : i < 0
   ·have d1 : decide (i < 0) = true := decide_eq_true hneg
    clear hneg
    go_enter Tryz.func51, Tryz.ntmps51
    go_wp2
    go_ret
    exact ⟨rfl, (Grow.of_alloc _ _).trans (Grow.of_alloc _ _)⟩
   ·have d1 : decide (i < 0) = false := decide_eq_false hneg
    have d2 : decide ((n1 : Int) ≤ i) = true := decide_eq_true (by have := HQ.out; omega)
    clear hneg
    go_enter Tryz.func51, Tryz.ntmps51
    go_wp2
    go_ret
    exact ⟨rfl, (Grow.of_alloc _ _).trans (Grow.of_alloc _ _)⟩
  | true =>
   obtain ⟨k, hk, hkl⟩ := isSegN_true hs
   rw [hl] at hkl
   rw [hk, m.seg_nat k hkl]
   obtain ⟨b, off, rfl, hb⟩ := g1.pos (by rw [g1.len]; omega)
   obtain ⟨Ak, nk, ck, -, hcell, gk⟩ := g1.at hkl
   have hcell' : ∀ i v, (sgC m.segs[k] (.slice Ak nk ck))[i]? = some v → w.cell? ⟨b, off + k * 10 + i, none⟩ = some v := hcell
   have hnk : m.segs[k].pl.own.length = nk := gk.len.symm
   have hnkm : nk ≤ maxLen := Nat.le_trans gk.cap gk.max
   unfold maxLen at hnkm
   have hkn : k < n1 := by rw [g1.len]; exact hkl
   have hn1m := g1.cap
   have hn1m' := g1.max
   unfold maxLen at hn1m'
   have HWi := hid (fun w => refWithin_any (p.off : Int) (p.size : Int) (nk : Int) w (by omega) (by omega) (by omega))
   have E := hid (show p.inMay nk = (decide (n = 0) && decide (0 < p.size) && wthn (p.off : Int) (p.size : Int) (nk : Int)) by
    rw [hn]
    unfold Pl.inMay Pl.within wthn
    congr 1
    rw [Bool.eq_iff_iff, decide_eq_true_iff, decide_eq_true_iff]
    omega)
   rw [hnk]
   have e0 : ((k : Int) == -1) = false := by simp
   have z2 : IntKind.u64.wrap (nk : Int) = (nk : Int) := by rw [IntKind.wrap_u64]; omega
   have d1 : decide ((k : Int) < 0) = false := decide_eq_false (by omega)
   have d2 : decide ((n1 : Int) ≤ (k : Int)) = false := decide_eq_false (by omega)
   rw [Bool.true_and]
   unfold plC
   unfold sgC at hcell'
   rw [hk]
   generalize m.segs[k] = s at hcell' ⊢
   have t0 : w.cell? ⟨b, off + k * 10, none⟩ = _ := hcell' 0 _ rfl
   have t1 := hcell' 1 _ rfl
   have t2 := hcell' 2 _ rfl
   have t3 := hcell' 3 _ rfl
   have t4 := hcell' 4 _ rfl
   have t5 := hcell' 5 _ rfl
   have t6 := hcell' 6 _ rfl
   have t7 := hcell' 7 _ rfl
   have t8 := hcell' 8 _ rfl
   have t9 := hcell' 9 _ rfl
   generalize wthn (p.off : Int) (p.size : Int) (nk : Int) = V at E HWi
   generalize p.inMay nk = R at E ⊢
   generalize p.off = po at HWi ⊢
   generalize p.size = ps at E HWi ⊢
   generalize s.typ = ty at t0 ⊢
   clear hcell hcell' gk hnk hs hk hkl h0 g1 g hl hn hnm Hi
   have d2' : decide (n1 ≤ k) = false := decide_eq_false (by omega)
   have hal : Grow w ((w.alloc (.cells #[x0, x1, x2, x3, x4, x5, x6, x7, .slice (some ⟨b, off, none⟩) n1 c1, x9, x10] 32)).alloc (.cells #[.int .i64 (k : Int), .int .u64 (po : Nat), .int .u64 (ps : Nat), .slice A n c] 68)) := (blk2 rfl).2.2
   have hc2 : ∀ i v, w.cell? ⟨b, i, none⟩ = some v → ((w.alloc (.cells #[x0, x1, x2, x3, x4, x5, x6, x7, .slice (some ⟨b, off, none⟩) n1 c1, x9, x10] 32)).alloc (.cells #[.int .i64 (k : Int), .int .u64 (po : Nat), .int .u64 (ps : Nat), .slice A n c] 68)).cell? ⟨b, i, none⟩ = some v := fun i v h => (Below.cell hal hb).trans h
   replace t0 := hc2 _ _ t0
   replace t1 := hc2 _ _ t1
   replace t2 := hc2 _ _ t2
   replace t3 := hc2 _ _ t3
   replace t4 := hc2 _ _ t4
   replace t5 := hc2 _ _ t5
   replace t6 := hc2 _ _ t6
   replace t7 := hc2 _ _ t7
   replace t8 := hc2 _ _ t8
   replace t9 := hc2 _ _ t9
   clear hb hal hc2
   go_enter Tryz.func51, Tryz.ntmps51
   go_wp2_with fail
   clear t0 t1 t2 t3 t4 t5 t6 t7 t8 t9
   generalize hW : World.alloc _ _ = W1
   obtain ⟨b1, b2, b3, hg1⟩ := blk3 hW
   clear hW
   have HG1 : Hid (Grow w W1) := hg1
   have y1 := b2.at 1
   have y2 := b2.at 2
   have y3 := b2.at 3
   have v0 := b3.at 0
   have v9 := b3.at 9
   clear hg1 b1 b2 b3
   refine (HWi.out _).mono ?_
   rintro e w1 ⟨rfl, rfl⟩
   by_cases ht : ty = 1
   ·have e1 : ((ty : Int) == 1) = true := by simp [ht]
    have E1 := hid (show decide (ty = 1) = true by simp [ht])
    clear ht
    by_cases hn0 : n = 0
    ·have e3 : ((n : Int) == 0) = true := by simp [hn0]
     by_cases hp0 : 0 < ps
     ·have e4 : decide ((1 : Int) ≤ (ps : Int)) = true := decide_eq_true (by omega)
      have e4' : decide (1 ≤ ps) = true := decide_eq_true (by omega)
      have E2 := hid (show R = V by rw [E.out]; simp [hp0, hn0])
      clear hn0 hp0
      go_wp2
      go_ret
      exact ⟨ret_bool (by rw [E1.out, Bool.true_and, E2.out]), HG1.out⟩
     ·have e4 : decide ((1 : Int) ≤ (ps : Int)) = false := decide_eq_false (by omega)
      have e4' : decide (1 ≤ ps) = false := decide_eq_false (by omega)
      have E2 := hid (show R = false by rw [E.out]; simp [hp0])
      clear hn0 hp0
      go_wp2
      go_ret
      exact ⟨ret_bool (by rw [E1.out, Bool.true_and, E2.out]), HG1.out⟩
    ·have e3 : ((n : Int) == 0) = false := by simp; omega
     have E2 := hid (show R = false by rw [E.out]; simp [hn0])
     clear hn0
     go_wp2
     go_ret
     exact ⟨ret_bool (by rw [E1.out, Bool.true_and, E2.out]), HG1.out⟩
   ·have e1 : ((ty : Int) == 1) = false := by simp; omega
    have E1 := hid (show decide (ty = 1) = false by simp [ht])
    clear ht
    go_wp2
    go_ret
    exact ⟨ret_bool (by rw [E1.out, Bool.false_and]), HG1.out⟩
theorem ones_half {x : Nat} (h : x % 2 = 0) (hx : x < 18446744073709551616) : ones (x / 2) = ones x := by
 have e1 := onesF_add 1 63 x
 have e2 : ones x = onesF 1 x + onesF 63 (x / 2) := e1
 have e3 := onesF_add 63 1 (x / 2)
 have e4 : ones (x / 2) = onesF 63 (x / 2) + onesF 1 (x / 2 / 2 ^ 63) := e3
 rw [Nat.div_div_eq_div_mul] at e4
 have e5 : x / (2 * 2 ^ 63) = 0 := by
  rw [show (2 : Nat) * 2 ^ 63 = 18446744073709551616 by decide]
  omega
 rw [e5, onesF_zero] at e4
 have e6 : onesF 1 x = 0 := by simp [onesF, h]
 omega
theorem ones_end {x : Nat} (hx : x < 18446744073709551616) (h : ¬ (1 < x ∧ x % 2 = 0)) : (ones x ≤ 1 ↔ x ≤ 1) := by
 constructor
 ·intro h1
  rcases Nat.lt_or_ge 1 x with h2 | h2
  ·exact absurd ⟨h2, ones_even hx h1 h2⟩ h
  ·exact h2
 ·intro h1
  rw [ones_one x hx]
  rcases Nat.lt_or_ge 0 x with h2 | h2
  ·exact .inr ⟨0, by omega⟩
  ·exact .inl (by omega)
set_option maxHeartbeats 400000 in
theorem rPower_any (v : Nat) (w : World) (hv : v < 18446744073709551616) :
  Calls Tryz.prog 101 #[.int .u64 (v : Int)] w fun e w' => e = .returned (.bool (decide (ones v ≤ 1))) ∧ w = w' := by
 go_enter Tryz.func101, Tryz.ntmps101
 go_wp2_with fail
 go_loop [0] (fun i => ∃ x : Nat, i = .int .u64 (x : Int) ∧ x < 18446744073709551616 ∧ Hid (ones x = ones v)) (fun i => (intOf i).toNat)
 case atStart => exact ⟨v, rfl, hv, hid rfl⟩
 case round =>
  obtain ⟨x, rfl, hx, HX⟩ := hrel
  by_cases h1 : 1 < x
  ·have d1 : decide ((1 : Int) < (x : Int)) = true := decide_eq_true (by omega)
   have d1' : decide (1 < x) = true := decide_eq_true h1
   by_cases h2 : x % 2 = 0
   ·have HH : Hid (ones (x / 2) = ones v) := hid ((ones_half h2 hx).trans HX.out)
    have d2 : (Int.tmod (x : Int) 2 == 0) = true := by
     rw [show Int.tmod (x : Int) 2 = ((x % 2 : Nat) : Int) from rfl, h2]; rfl
    have d3 : Int.tdiv (x : Int) 2 = ((x / 2 : Nat) : Int) := rfl
    have d4 : ((x : Int) % 2 == 0) = true := by simp; omega
    have d5 : (x : Int) / 2 = ((x / 2 : Nat) : Int) := rfl
    have HQ := hid (show x / 2 < x ∧ x / 2 < 18446744073709551616 by omega)
    generalize x / 2 = y at d3 d5 HH HQ
    clear h2
    go_wp2
    go_round
    case rel => exact ⟨y, by go_num, HQ.out.2, HH⟩
    case measure => have := HQ.out.1; simp [intOf]; omega
   ·have E := hid (show decide (ones v ≤ 1) = decide (x ≤ 1) by rw [← HX.out]; exact decide_eq_decide.2 (ones_end hx (by omega)))
    have d2 : (Int.tmod (x : Int) 2 == 0) = false := by
     rw [show Int.tmod (x : Int) 2 = ((x % 2 : Nat) : Int) from rfl]
     simp
     omega
    have d4 : ((x : Int) % 2 == 0) = false := by simp; omega
    have d5 : decide ((x : Int) ≤ 1) = false := decide_eq_false (by omega)
    have d6 : decide (x ≤ 1) = false := decide_eq_false (by omega)
    rw [d6] at E
    clear h1 h2 hx
    go_wp2
    go_ret
    exact ⟨ret_bool E.out.symm, rfl⟩
  ·have E := hid (show decide (ones v ≤ 1) = decide (x ≤ 1) by rw [← HX.out]; exact decide_eq_decide.2 (ones_end hx (by omega)))
   have d1 : decide ((1 : Int) < (x : Int)) = false := decide_eq_false (by omega)
   have d1' : decide (1 < x) = false := decide_eq_false h1
   have d5 : decide ((x : Int) ≤ 1) = true := decide_eq_true (by omega)
   have d6 : decide (x ≤ 1) = true := decide_eq_true (by omega)
   rw [d6] at E
   clear h1 hx
   go_wp2
   go_ret
   exact ⟨ret_bool E.out.symm, rfl⟩
def NextR (at_ v a : Nat) (r : Nat) : Prop := (nxt at_ v a ≤ 65536 → r = nxt at_ v a) ∧ (65536 < nxt at_ v a → 65536 < r) ∧ r ≤ 9223372036854775808
theorem max_pow {a : Nat} (ha : a < 18446744073709551616) (h1 : ones a ≤ 1) (h : 1 < a) : max a 1 = a ∧ a ≤ 9223372036854775808 := by
 obtain ⟨k, hk, hM⟩ := pow_of ha h1
 refine ⟨by omega, ?_⟩
 have := Nat.pow_le_pow_right (show 0 < 2 by decide) (show k ≤ 63 by omega)
 rw [← hM] at this
 rw [show (2 : Nat) ^ 63 = 9223372036854775808 by decide] at this
 omega
set_option maxHeartbeats 400000 in
theorem rNext_any (at_ v a : Nat) (w : World) (hat : at_ < 18446744073709551616) (ha : a < 18446744073709551616) (h1 : ones a ≤ 1) :
  Calls Tryz.prog 22 #[.int .u64 (at_ : Int), .int .u64 (v : Int), .int .u64 (a : Int)] w fun e w' => (∃ r : Nat, e = .returned (.int .u64 (r : Int)) ∧ NextR at_ v a r) ∧ w = w' := by
 have hge := nxt_ge at_ v a
 by_cases c1 : 65536 < at_
 ·have E : Hid (NextR at_ v a 100000) := hid ⟨by omega, by omega, by omega⟩
  clear hge h1
  go_enter Tryz.func22, Tryz.ntmps22
  go_wp2
  go_ret
  exact ⟨⟨100000, rfl, E.out⟩, rfl⟩
 have d1 : decide (65536 < at_) = false := decide_eq_false c1
 have d1' : decide ((65536 : Int) < (at_ : Int)) = false := decide_eq_false (by omega)
 by_cases c2 : a ≤ 1
 ·have E : Hid (NextR at_ v a at_) := hid (by
   rw [NextR, nxt_one _ _ _ c2]
   exact ⟨fun _ => rfl, by omega, by omega⟩)
  have d2 : decide (a ≤ 1) = true := decide_eq_true c2
  clear hge h1 c1
  go_enter Tryz.func22, Tryz.ntmps22
  go_wp2
  go_ret
  exact ⟨⟨at_, rfl, E.out⟩, rfl⟩
 have d2 : decide (a ≤ 1) = false := decide_eq_false c2
 have d2' : decide ((a : Int) ≤ 1) = false := decide_eq_false (by omega)
 obtain ⟨m1, m2⟩ := max_pow ha h1 (by omega)
 have hmod := nxt_mod (v := v) (show at_ ≤ 65537 by omega) ha h1
 have hlt := nxt_lt at_ v a
 have hfst := fun x => nxt_first (v := v) (x := x) (show at_ ≤ 65537 by omega) ha h1
 rw [m1] at hmod hlt
 simp only [m1] at hfst
 have hwl : v % a < a := Nat.mod_lt _ (by omega)
 have t1 : Int.tmod (v : Int) (a : Int) = ((v % a : Nat) : Int) := rfl
 have t2 : (v : Int) % (a : Int) = ((v % a : Nat) : Int) := rfl
 have hz : ((a : Int) == 0) = false := by simp; omega
 have hz' : ¬ ((a : Int) = 0) := by omega
 have hzn : ¬ (a = 0) := by omega
 have hnm : (v % a) % a = v % a := Nat.mod_mod _ _
 obtain ⟨W, hW⟩ : ∃ W, v % a = W := ⟨_, rfl⟩
 rw [hW] at hmod hwl t1 t2 hnm
 simp only [hW] at hfst
 clear hW
 by_cases c3 : 65536 < a
 ·have d3 : decide (65536 < a) = true := decide_eq_true c3
  have d3' : decide ((65536 : Int) < (a : Int)) = true := decide_eq_true (by omega)
  by_cases c4 : W < at_
  ·have E : Hid (NextR at_ v a 100000) := by
    refine hid ⟨fun h => ?_, by omega, by omega⟩
    exfalso
    rw [Nat.mod_eq_of_lt (by omega)] at hmod
    omega
   have d4 : decide (W < at_) = true := decide_eq_true c4
   have d4' : decide ((W : Int) < (at_ : Int)) = true := decide_eq_true (by omega)
   clear hge h1 c1 c2 c3 c4 m1 m2 hmod hlt hfst hwl hnm
   go_enter Tryz.func22, Tryz.ntmps22
   go_wp2
   go_ret
   exact ⟨⟨100000, rfl, E.out⟩, rfl⟩
  ·have E : Hid (NextR at_ v a W) := by
    have h3 := hfst W (by omega) hnm
    have h4 : nxt at_ v a = W := by
     rcases Nat.lt_or_ge (nxt at_ v a) W with h5 | h5
     ·rw [Nat.mod_eq_of_lt (by omega)] at hmod
      exact hmod
     ·omega
    exact hid ⟨fun _ => h4.symm, by omega, by omega⟩
   have d4 : decide (W < at_) = false := decide_eq_false c4
   have d4' : decide ((W : Int) < (at_ : Int)) = false := decide_eq_false (by omega)
   clear hge h1 c1 c2 c3 c4 m1 m2 hmod hlt hfst hwl hnm
   go_enter Tryz.func22, Tryz.ntmps22
   go_wp2
   go_ret
   exact ⟨⟨W, rfl, E.out⟩, rfl⟩
 ·have d3 : decide (65536 < a) = false := decide_eq_false c3
  have d3' : decide ((65536 : Int) < (a : Int)) = false := decide_eq_false (by omega)
  have HN : Hid (NextR at_ v a (nxt at_ v a)) := hid ⟨fun _ => rfl, fun h => h, by omega⟩
  have HM := hid hmod
  have HF := hid hfst
  have HB : Hid (nxt at_ v a < 200000) := hid (by omega)
  have HA := hid hge
  clear h1 c1 c2 c3 m1 m2 hmod hlt hfst hwl hnm hge
  go_enter Tryz.func22, Tryz.ntmps22
  go_wp2_with fail
  clear t1 t2
  go_loop [0] (fun i => ∃ x : Nat, i = .int .u64 (x : Int) ∧ at_ ≤ x ∧ x ≤ nxt at_ v a) (fun i => nxt at_ v a - (intOf i).toNat)
  case atStart => exact ⟨at_, rfl, Nat.le_refl _, HA.out⟩
  case round =>
   obtain ⟨x, rfl, hx1, hx2⟩ := hrel
   have t1 : Int.tmod (x : Int) (a : Int) = ((x % a : Nat) : Int) := rfl
   have t2 : (x : Int) % (a : Int) = ((x % a : Nat) : Int) := rfl
   have hxb := hid (show x < 200000 from Nat.lt_of_le_of_lt hx2 HB.out)
   obtain ⟨R, hR⟩ : ∃ R, x % a = R := ⟨_, rfl⟩
   rw [hR] at t1 t2
   by_cases hw : R = W
   ·have HE : Hid (x = nxt at_ v a) := hid (Nat.le_antisymm hx2 (HF.out x hx1 (by rw [hR, hw])))
    have d5 : ((R : Int) != (W : Int)) = false := by simp [hw]
    clear hw hR hx1 hx2
    go_wp2
    go_ret
    exact ⟨⟨x, rfl, by rw [HE.out]; exact HN.out⟩, rfl⟩
   ·have HL : Hid (x < nxt at_ v a) := by
     refine hid (Nat.lt_of_le_of_ne hx2 fun e => hw ?_)
     have := HM.out
     rw [← e, hR] at this
     exact this
    have d5 : ((R : Int) != (W : Int)) = true := by simp; omega
    have d6 : IntKind.u64.wrap ((x : Int) + 1) = (x : Int) + 1 := by have := hxb.out; rw [IntKind.wrap_u64]; omega
    clear hw hR hx2
    go_wp2
    go_round
    case rel => exact ⟨x + 1, by go_num, by omega, HL.out⟩
    case measure => have := HL.out; simp [intOf]; omega
theorem r_ret {a b : Nat} {w w' : World} (h : b = a) (v : Int) (hv : v = (a : Int)) (hg : Grow w w') : Ending.returned (.int .i64 v) = .returned (.int .i64 (b : Int)) ∧ Grow w w' := ⟨by rw [h, hv], hg⟩
set_option maxHeartbeats 2000000 in
theorem rSeg_any (m : Md) (A1 A2 : Option Addr) (n1 c1 n2 c2 : Nat) (s : Sg) (ok : s.Ok) (A : Option Addr) (n c : Nat) (w : World) (g1 : ZR sgK w w.heap.size A1 n1 c1 m.segs) (g : RB w w.heap.size A n c s.pl.own)
  (hf : m.wide = false → s.vaddr < 4294967296 ∧ s.memsz < 4294967296) :
  Calls Tryz.prog 49 #[.agg (mdC m (.slice A1 n1 c1) (.slice A2 n2 c2)), .agg (sgC s (.slice A n c))] w fun e w' => e = .returned (.int .i64 (m.segC s : Nat)) ∧ Grow w w' := by
 have HO := hid (fun w => rPower_any s.align w ok.align)
 have HM := hid (fun w' (hg : Grow w w') => rPlace_any m A1 A2 n1 c1 n2 c2 s.pl A n c w' (g1.grow hg) (g.grow hg))
 have E := hid (show m.segC s = if 1 < ones s.align then 6 else if m.may s.pl = false then 1 else if s.typ ≠ 1 then 0 else if s.pl.inn ≠ -1 then 1 else if s.memsz < s.pl.size then 5 else if s.wraps m.wide = true then 12 else 0 from rfl)
 have EW := hid (show s.wraps m.wide = (decide (0 < s.memsz) && !decide (s.vaddr + (s.memsz - 1) ≤ lastA m.wide)) from rfl)
 have HV := hid ok.vaddr
 have HZ := hid ok.memsz
 have HF := hid hf
 unfold mdC at HM ⊢
 unfold plC at HM
 unfold sgC
 clear g1 g ok hf
 generalize m.segC s = C at E ⊢
 generalize ones s.align = on at HO E
 generalize m.may s.pl = my at HM E
 generalize s.wraps m.wide = wr at EW E
 generalize m.wide = x0 at HM EW HF ⊢
 generalize m.big = x1 at HM ⊢
 generalize m.osabi = x2 at HM ⊢
 generalize m.abi = x3 at HM ⊢
 generalize m.typ = x4 at HM ⊢
 generalize m.mach = x5 at HM ⊢
 generalize m.flags = x6 at HM ⊢
 generalize m.entry = x7 at HM ⊢
 generalize m.str = x10 at HM ⊢
 generalize s.pl.inn = pi at HM E ⊢
 generalize s.pl.off = po at HM ⊢
 generalize s.pl.size = ps at HM E ⊢
 generalize s.typ = ty at E ⊢
 generalize s.flags = z1
 generalize s.vaddr = z2 at EW HV HF ⊢
 generalize s.paddr = z3
 generalize s.memsz = z4 at E EW HZ HF ⊢
 generalize s.align = z5 at HO ⊢
 go_enter Tryz.func49, Tryz.ntmps49
 go_wp2_with fail
 generalize hW : World.alloc _ _ = W0
 obtain ⟨b1, b2, hg0⟩ := blk2 hW
 clear hW
 have HB1 := hid b1
 have HB2 := hid b2
 have HG0 := hid hg0
 clear b1 b2 hg0
 refine (HO.out _).mono ?_
 rintro e w' ⟨rfl, rfl⟩
 by_cases h1 : 1 < on
 ·have E2 := hid (show C = 6 by rw [E.out, if_pos h1])
  have d : decide (on ≤ 1) = false := decide_eq_false (by omega)
  rw [d]
  clear h1 d
  go_wp2
  go_ret
  exact r_ret E2.out _ rfl HG0.out
 rw [if_neg h1] at E
 have d : decide (on ≤ 1) = true := decide_eq_true (by omega)
 rw [d]
 clear h1 d
 obtain ⟨y0, y1, y2, y3, y4, y5, y6, y7, y8, y9⟩ := HB2.out.c10
 obtain ⟨v0, v1, v2, v3, v4, v5, v6, v7, v8, v9, v10⟩ := HB1.out.c11
 go_wp2_with fail
 clear y0 y1 y2 y3 y4 y5 y6 y7 y8 y9 v0 v1 v2 v3 v4 v5 v6 v7 v8 v9 v10
 refine (HM.out _ HG0.out).mono ?_
 rintro e w1 ⟨rfl, hg1⟩
 have HB3 := hid (HB1.out.grow hg1)
 have HB4 := hid (HB2.out.grow hg1)
 have HG1 : Hid (Grow w w1) := HG0.out.trans hg1
 clear hg1 HB1 HB2 HG0 HM
 cases my with
 | false =>
  have E2 := hid (show C = 1 by rw [E.out, if_pos rfl])
  go_wp2
  go_ret
  exact r_ret E2.out _ rfl HG1.out
 | true =>
 rw [if_neg (by decide)] at E
 obtain ⟨y0, y1, y2, y3, y4, y5, y6, y7, y8, y9⟩ := HB4.out.c10
 have v0 := HB3.out.at 0
 by_cases h2 : ty ≠ 1
 ·have E2 := hid (show C = 0 by rw [E.out, if_pos h2])
  have d : ((ty : Int) != 1) = true := by simp; omega
  have d' : ((ty : Int) == 1) = false := by simp; omega
  clear h2
  go_wp2
  go_ret
  exact r_ret E2.out _ rfl HG1.out
 rw [if_neg h2] at E
 have d : ((ty : Int) != 1) = false := by simp; omega
 have d' : ((ty : Int) == 1) = true := by simp; omega
 by_cases h3 : pi ≠ -1
 ·have E2 := hid (show C = 1 by rw [E.out, if_pos h3])
  have d3 : (pi != -1) = true := by simpa using h3
  clear h2 h3
  go_wp2
  go_ret
  exact r_ret E2.out _ rfl HG1.out
 rw [if_neg h3] at E
 have d3 : (pi != -1) = false := by simpa using h3
 by_cases h4 : z4 < ps
 ·have E2 := hid (show C = 5 by rw [E.out, if_pos h4])
  have d4 : decide (z4 < ps) = true := decide_eq_true h4
  have d4' : decide ((z4 : Int) < (ps : Int)) = true := decide_eq_true (by omega)
  clear h2 h3 h4
  go_wp2
  go_ret
  exact r_ret E2.out _ rfl HG1.out
 rw [if_neg h4] at E
 have d4 : decide (z4 < ps) = false := decide_eq_false h4
 have d4' : decide ((z4 : Int) < (ps : Int)) = false := decide_eq_false (by omega)
 clear h2 h3 h4
 cases x0 with
 | true =>
  by_cases h5 : z2 = 0
  ·have E2 : Hid (C = 0) := hid (by
    have hw : wr = false := by
     rw [EW.out]
     have := HZ.out
     simp [lastA, byWide]
     omega
    rw [E.out, hw]
    rfl)
   have d5 : ((z2 : Int) != 0) = false := by simp; omega
   clear h5
   go_wp2
   go_ret
   exact r_ret E2.out _ rfl HG1.out
  ·have d5 : ((z2 : Int) != 0) = true := by simp; omega
   obtain ⟨q, hq⟩ : ∃ q : Nat, q = 18446744073709551616 - z2 := ⟨_, rfl⟩
   have i1 : IntKind.u64.wrap (18446744073709551615 - (z2 : Int)) = 18446744073709551615 - (z2 : Int) := by have := HV.out; rw [IntKind.wrap_u64]; omega
   have i2 : IntKind.u64.wrap (18446744073709551615 - (z2 : Int) + 1) = (q : Int) := by have := HV.out; rw [IntKind.wrap_u64]; omega
   by_cases h6 : q < z4
   ·have d6 : decide ((q : Int) < (z4 : Int)) = true := decide_eq_true (by omega)
    have d6' : decide (q < z4) = true := decide_eq_true h6
    have E2 : Hid (C = 12) := hid (by
     have hw : wr = true := by
      rw [EW.out]
      simp [lastA, byWide]
      omega
     rw [E.out, hw]
     rfl)
    clear h5 h6 hq
    go_wp2
    go_ret
    exact r_ret E2.out _ rfl HG1.out
   ·have d6 : decide ((q : Int) < (z4 : Int)) = false := decide_eq_false (by omega)
    have d6' : decide (q < z4) = false := decide_eq_false h6
    have E2 : Hid (C = 0) := hid (by
     have hw : wr = false := by
      rw [EW.out]
      have := HV.out
      simp [lastA, byWide]
      omega
     rw [E.out, hw]
     rfl)
    clear h5 h6 hq
    go_wp2
    go_ret
    exact r_ret E2.out _ rfl HG1.out
 | false =>
  have i1 : IntKind.u64.wrap ((z2 : Int) + (z4 : Int)) = ((z2 + z4 : Nat) : Int) := by have := HF.out rfl; rw [IntKind.wrap_u64]; omega
  obtain ⟨q, hq⟩ : ∃ q : Nat, z2 + z4 = q := ⟨_, rfl⟩
  rw [hq] at i1
  by_cases h6 : 4294967296 < q
  ·have d6 : decide ((4294967296 : Int) < (q : Int)) = true := decide_eq_true (by omega)
   have d6' : decide (4294967296 < q) = true := decide_eq_true h6
   have E2 : Hid (C = 12) := hid (by
    have hw : wr = true := by
     have := HF.out rfl
     rw [EW.out]
     simp [lastA, byWide]
     omega
    rw [E.out, hw]
    rfl)
   clear h6 hq
   go_wp2
   go_ret
   exact r_ret E2.out _ rfl HG1.out
  ·have d6 : decide ((4294967296 : Int) < (q : Int)) = false := decide_eq_false (by omega)
   have d6' : decide (4294967296 < q) = false := decide_eq_false h6
   have E2 : Hid (C = 0) := hid (by
    have hw : wr = false := by
     rw [EW.out]
     simp [lastA, byWide]
     omega
    rw [E.out, hw]
    rfl)
   clear h6 hq
   go_wp2
   go_ret
   exact r_ret E2.out _ rfl HG1.out
theorem RB.piece {w : World} {B b off n c p m : Nat} {l : List UInt8} (h : RB w B (some ⟨b, off, none⟩) n c l) (hp : p + m ≤ n) : RB w B (some ⟨b, off + p, none⟩) m (c - p) ((l.drop p).take m) := by
 by_cases h0 : 0 < m
 ·exact h.sub hp h0
 ·have : m = 0 := by omega
  subst this
  have := h.max
  exact ⟨by simp, by omega, by omega, fun h => absurd h (by omega)⟩
theorem nameAt_hit {l : Bs} {off k : Nat} (hk : off ≤ k) (h0 : ∀ j, off ≤ j → j < k → l[j]? ≠ some 0) (h : l[k]? = some 0) : nameAt l off = some ((l.drop off).take (k - off)) := by
 refine cut0_at (fun j hj => ?_) ?_
 ·rw [List.getElem?_drop]; exact h0 _ (by omega) (by omega)
 ·rw [List.getElem?_drop, show off + (k - off) = k by omega]; exact h
theorem nameAt_miss {l : Bs} {off : Nat} (h0 : ∀ j, off ≤ j → j < l.length → l[j]? ≠ some 0) : nameAt l off = none := by
 refine cut0_none.2 fun b hb e => ?_
 subst e
 obtain ⟨j, hj⟩ := List.getElem?_of_mem hb
 rw [List.getElem?_drop] at hj
 exact h0 (off + j) (by omega) (List.getElem?_eq_some_iff.1 hj).1 hj
set_option maxHeartbeats 400000 in
theorem rName_any (A : Option Addr) (n c : Nat) (l : Bs) (off : Nat) (w : World) (h : RB w w.heap.size A n c l) (hof : off < 18446744073709551616) :
  Calls Tryz.prog 104 #[.slice A n c, .int .u64 off] w (GotN l off w) := by
 have HS := hid h
 have HL := hid h.len
 have hc := h.cap
 have hm := h.max
 unfold maxLen at hm
 clear h
 by_cases hfar : n ≤ off
 ·have E := hid (nameAt_far (l := l) (off := off) (by rw [← HL.out]; exact hfar))
  go_enter Tryz.func104, Tryz.ntmps104
  go_wp2
  go_ret2
  exact gotN_none E.out
 ·obtain ⟨b, o, rfl, hb, hcell⟩ := HS.out.pos (by omega)
  have HC := hid hcell
  clear hcell hb
  go_enter Tryz.func104, Tryz.ntmps104
  go_wp2
  go_loop [6] (fun i => ∃ k : Nat, off ≤ k ∧ k ≤ n ∧ i = .int .i64 k ∧ Hid (∀ j, off ≤ j → j < k → l[j]? ≠ some 0)) (fun i => n - (intOf i).toNat)
  case atStart => exact ⟨off, Nat.le_refl _, by omega, rfl, hid fun j h1 h2 => absurd h2 (by omega)⟩
  case round =>
   obtain ⟨k, hok, hk, rfl, HK⟩ := hrel
   by_cases hlt : k < n
   ·have hkl : k < l.length := by rw [← HL.out]; exact hlt
    have q := HC.out k hkl
    have HG := hid (List.getElem?_eq_getElem hkl)
    generalize l[k] = u at q HG
    by_cases hu : u = 0
    ·subst hu
     have hp := HS.out.piece (p := off) (m := k - off) (by omega)
     have hcv := hp.conv (Nat.le_refl _) w (Grow.refl _)
     have E := hid (nameAt_hit hok HK.out HG.out)
     have i2 : ¬ c = off := by omega
     have i3 : off ≤ k := by omega
     have i4 : k ≤ c := by omega
     rw [show (0 : UInt8).toNat = 0 from rfl] at q
     clear hkl HK HG hp
     go_wp2
     go_ret2
     exact gotN_some E.out
    ·have hz : ((u.toNat : Int) == 0) = false := by
      rw [beq_eq_false_iff_ne]
      intro e
      exact hu (by rw [← UInt8.toNat_inj]; simpa using e)
     have HU := hid hu
     clear hkl hu
     go_wp2
     go_round
     case rel =>
      refine ⟨k + 1, by omega, by omega, by go_num, hid fun j h1 h2 => ?_⟩
      by_cases e : j < k
      ·exact HK.out j h1 e
      ·have : j = k := by omega
       subst this
       rw [HG.out]
       intro e2
       injection e2 with e2
       exact HU.out e2
     case measure => simp [intOf]; omega
   ·have E := hid (nameAt_miss (l := l) (off := off) fun j h1 h2 => HK.out j h1 (by rw [← HL.out] at h2; omega))
    go_wp2
    go_ret2
    exact gotN_none E.out
end Go.Proofs.YtfglppjilcaafaaGreatDoor
