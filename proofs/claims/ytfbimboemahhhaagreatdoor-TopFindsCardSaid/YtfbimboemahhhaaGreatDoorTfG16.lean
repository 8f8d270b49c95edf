/-
  Several texts in one: The contracts of cmp; The contracts of slices; The contract of slices; The contract of slices; The contract of slices.
-/
import Derived.Test.YtfbimboemahhhaaGreatDoorRows
import Derived.Test.YtfbimboemahhhaaGreatDoorTfG15
import Derived.Test.YtfbimboemahhhaaGreatDoorTfG2
import Derived.WalkKit
import Derived.BigQuiet
import Derived.Deep.QuietTactic
import Derived.Lib.Hide
import Derived.Shelf.RegionOpenPlain
import Derived.Deep.OwnRows
namespace Go.Proofs.YtfbimboemahhhaaGreatDoor
open Go.Lib (hid)
open Go.RowKit
def ivlB (k : IntKind) (f : Nat → Nat) (i : Nat) : Value := .int k (f i : Int)
def cmp3 (a b : Nat) : Int := if a < b then -1 else if b < a then 1 else 0
theorem cmp3_lt {a b : Nat} : cmp3 a b < 0 ↔ a < b := by
 unfold cmp3
 by_cases h : a < b
 ·rw [if_pos h]; omega
 ·rw [if_neg h]; split <;> omega
theorem isNaN_any (x : Nat) (w : World) : Calls Tryz.prog 65 #[.int .u64 (x : Int)] w fun e w' => e = .returned (.bool false) ∧ w = w' := by
 have hx : ((x : Int) != (x : Int)) = false := by simp
 go_enter Tryz.func65, Tryz.ntmps65
 go_wp2
 go_ret
 exact ⟨rfl, rfl⟩
theorem compare_any (x y : Nat) (w : World) : Calls Tryz.prog 23 #[.int .u64 (x : Int), .int .u64 (y : Int)] w fun e w' => e = .returned (.int .i64 (cmp3 x y)) ∧ w = w' := by
 rcases Nat.lt_trichotomy x y with h | h | h
 ·have E := hid (show cmp3 x y = -1 by unfold cmp3; rw [if_pos h])
  go_enter Tryz.func23, Tryz.ntmps23
  go_wp2_with (go_at_call 65; refine (isNaN_any _ _).mono ?_; rintro e w' ⟨rfl, rfl⟩)
  go_ret
  exact ⟨by rw [E.out]; rfl, rfl⟩
 ·subst h
  have E := hid (show cmp3 x x = 0 by unfold cmp3; rw [if_neg (by omega), if_neg (by omega)])
  go_enter Tryz.func23, Tryz.ntmps23
  go_wp2_with (go_at_call 65; refine (isNaN_any _ _).mono ?_; rintro e w' ⟨rfl, rfl⟩)
  go_ret
  exact ⟨by rw [E.out]; rfl, rfl⟩
 ·have E := hid (show cmp3 x y = 1 by unfold cmp3; rw [if_neg (by omega), if_pos h])
  have h1 : ¬ (x : Int) < (y : Int) := by omega
  go_enter Tryz.func23, Tryz.ntmps23
  go_wp2_with (go_at_call 65; refine (isNaN_any _ _).mono ?_; rintro e w' ⟨rfl, rfl⟩)
  go_ret
  exact ⟨by rw [E.out]; rfl, rfl⟩
theorem less_any (x y : Nat) (w : World) : Calls Tryz.prog 68 #[.int .u64 (x : Int), .int .u64 (y : Int)] w fun e w' => e = .returned (.bool (decide (x < y))) ∧ w = w' := by
 by_cases h : x < y
 ·have E := hid (show decide (x < y) = true from decide_eq_true h)
  go_enter Tryz.func68, Tryz.ntmps68
  go_wp2_with (go_at_call 65; refine (isNaN_any _ _).mono ?_; rintro e w' ⟨rfl, rfl⟩)
  go_ret
  exact ⟨by rw [E.out]; rfl, rfl⟩
 ·have E := hid (show decide (x < y) = false from decide_eq_false h)
  have h1 : decide ((x : Int) < (y : Int)) = false := decide_eq_false (by omega)
  go_enter Tryz.func68, Tryz.ntmps68
  go_wp2_with (go_at_call 65; refine (isNaN_any _ _).mono ?_; rintro e w' ⟨rfl, rfl⟩)
  go_ret
  exact ⟨by rw [E.out]; rfl, rfl⟩
def cmpF (gb : Nat) : Value := .func (.func 22) #[] #[.pointer (some ⟨gb, 0, none⟩)]
def CmpAt (gb N : Nat) (key : Nat → Nat) (W : World) : Prop := ∀ x y : Nat, x < N → y < N → ∀ m : Nat,
 Calls Tryz.prog 22 #[.int .i64 (x : Int), .int .i64 (y : Int), .pointer (some ⟨gb, 0, none⟩)] (W.drewN m) fun e w' => e = .returned (.int .i64 (cmp3 (key x) (key y))) ∧ ∃ q, w' = (W.drewN m).drewN q
theorem cmp_any (gb gi N c : Nat) (key : Nat → Nat) (x y : Nat) (w : World) (hb : w.cell? ⟨gb, 0, none⟩ = some (.slice (some ⟨gi, 0, none⟩) N c)) (hr : w.rowIs gi 37 N (ivlB .u64 key)) (hx : x < N) (hy : y < N) :
  Calls Tryz.prog 22 #[.int .i64 (x : Int), .int .i64 (y : Int), .pointer (some ⟨gb, 0, none⟩)] w fun e w' => e = .returned (.int .i64 (cmp3 (key x) (key y))) ∧ ∃ q, w' = w.drewN q := by
 have q1 : w.cell? ⟨gi, x, none⟩ = some (.int .u64 (key x : Int)) := hr.cell hx
 have q2 : w.cell? ⟨gi, y, none⟩ = some (.int .u64 (key y : Int)) := hr.cell hy
 clear hr
 generalize key x = a at q1 ⊢
 generalize key y = b at q2 ⊢
 go_enter Tryz.func22, Tryz.ntmps22
 go_wp2_with fail
 go_quiet ((go_at_call 23; exact Calls.quiet_of_same ((compare_any a b _).mono fun _ _ hh => ⟨hh.1, hh.2.symm⟩)))
 go_wp2
 go_ret
 exact ⟨rfl, _, rfl⟩
theorem CmpAt.of {gb gi g N c : Nat} {key : Nat → Nat} {w : World} (hb : w.cell? ⟨gb, 0, none⟩ = some (.slice (some ⟨gi, 0, none⟩) N c)) (hr : w.rowIs gi 37 N (ivlB .u64 key)) (h1 : gb ≠ g) (h2 : gi ≠ g) (hl : gb < w.heap.size) :
  ∀ W, w.grownBy W (some g) → CmpAt gb N key W := fun W hg x y hx hy m => by
 refine cmp_any gb gi N c key x y (W.drewN m) ?_ ?_ hx hy
 ·have e : W.heap[gb]? = w.heap[gb]? := hg.block gb hl (by simp; exact h1)
  have : W.cell? ⟨gb, 0, none⟩ = w.cell? ⟨gb, 0, none⟩ := by simp only [World.cell?, e]
  exact this.trans hb
 ·have : W.rowIs gi 37 N (ivlB .u64 key) := hr.of_block (hg.block gi hr.lt (by simp; exact h2))
  exact this
theorem grown_transB {w a b : World} {row : Option Nat} (h : w.grownBy a row) (k : a.grownBy b row) : w.grownBy b row :=
 ⟨k.os.trans h.os, k.tape.trans h.tape, k.output.trans h.output, Nat.le_trans h.size k.size, fun i hi hne => (k.block i (Nat.lt_of_lt_of_le hi h.size) hne).trans (h.block i hi hne)⟩
theorem grown_reflB (w : World) (row : Option Nat) : w.grownBy w row := ⟨rfl, rfl, rfl, Nat.le_refl _, fun _ _ _ => rfl⟩
theorem grown_drewN (w : World) (row : Option Nat) (m : Nat) : w.grownBy (w.drewN m) row := ⟨rfl, rfl, rfl, Nat.le_refl _, fun _ _ _ => rfl⟩
theorem grown_drewB (w : World) (row : Option Nat) : w.grownBy w.drew row := ⟨rfl, rfl, rfl, Nat.le_refl _, fun _ _ _ => rfl⟩
def RowB (w : World) (g n : Nat) (f : Nat → Nat) : Prop := w.rowIs g 3 n (ivlB .i64 f)
theorem RowB.xch {w : World} {g n : Nat} {f : Nat → Nat} (h : RowB w g n f) (i j : Nat) : RowB ((w.setCell ⟨g, i, none⟩ (.int .i64 (f j : Int))).setCell ⟨g, j, none⟩ (.int .i64 (f i : Int))) g n (xch i j f) :=
 ((h.set i _).set j _).congr fun x _ => by
   simp only [ivlB, Go.Proofs.YtfbimboemahhhaaGreatDoor.xch]
   split
   ·rfl
   ·split <;> rfl
theorem RowB.grown (w : World) (g i j : Nat) (u v : Value) : w.grownBy ((w.setCell ⟨g, i, none⟩ u).setCell ⟨g, j, none⟩ v) (some g) := grown_transB (grown_setB w _ _) (grown_setB _ _ _)
theorem RowB.facts {w : World} {g n : Nat} {f : Nat → Nat} (h : RowB w g n f) {i j : Nat} (hi : i < n) (hj : j < n) :
  w.cell? ⟨g, i, none⟩ = some (.int .i64 (f i : Int)) ∧ w.cell? ⟨g, j, none⟩ = some (.int .i64 (f j : Int)) ∧ w.frozen? ⟨g, i, none⟩ = false ∧ w.frozen? ⟨g, j, none⟩ = false ∧ ∀ v, ∃ u, (w.setCell ⟨g, i, none⟩ v).cell? ⟨g, j, none⟩ = some u :=
 ⟨h.cell hi, h.cell hj, h.frozen i, h.frozen j, fun v => ⟨_, (World.rowIs.set h i v).cell hj⟩⟩
set_option maxHeartbeats 4000000 in
theorem swapRange_any (g n c a b m : Nat) (cb : Value) (f : Nat → Nat) (w : World) (hr : RowB w g n f) (hab : a + m ≤ b) (hb : b + m ≤ n) (hn : n ≤ c) (hc : c ≤ maxLen) :
  Calls Tryz.prog 154 #[.slice (some ⟨g, 0, none⟩) n c, .int .i64 a, .int .i64 b, .int .i64 m, cb] w fun e w' => e = .returned (.tuple #[]) ∧ RowB w' g n (swp a b m f) ∧ w.grownBy w' (some g) := by
 unfold maxLen at hc
 have HR := hid hr
 have mixed : Tryz.prog.follows .mixedOrders = true := by kernel_rfl
 clear hr
 go_enter Tryz.func154, Tryz.ntmps154
 go_wp2
 go_loopw [10] (fun i wr => ∃ k : Nat, k ≤ m ∧ i = .int .i64 k ∧ RowB wr g n (swp a b k f) ∧ w.grownBy wr (some g)) (fun i _ => m - (intOf i).toNat)
 case atStart => exact ⟨0, Nat.zero_le _, rfl, by rw [swp_zero]; exact HR.out, grown_reflB _ _⟩
 case round =>
  obtain ⟨k, hk, rfl, hrow, hgr⟩ := hrel
  have HG := hid hgr
  clear hgr HR
  by_cases hlt : k < m
  ·obtain ⟨i, hi⟩ : ∃ i, i = a + k := ⟨_, rfl⟩
   obtain ⟨j, hj⟩ : ∃ j, j = b + k := ⟨_, rfl⟩
   obtain ⟨c1, c2, f1, f2, h3⟩ := hrow.facts (i := i) (j := j) (by omega) (by omega)
   have HX := hid (hrow.xch i j)
   have HY := hid (RowB.grown wr g i j (.int .i64 ((swp a b k f) j : Int)) (.int .i64 ((swp a b k f) i : Int)))
   have HF : Hid (xch i j (swp a b k f) = swp a b (k + 1) f) := hid (by rw [hi, hj]; exact swp_succ a b k f (by omega))
   rw [HF.out] at HX
   generalize swp a b k f = F at c1 c2 h3 HX HY
   obtain ⟨u, c3⟩ := h3 (.int .i64 (F j : Int))
   clear h3 hrow HF
   generalize F i = x at c1 HX HY
   generalize F j = y at c2 c3 HX HY
   have i1 : ((a : Int) + (k : Int)).toNat = i := by omega
   have i2 : (0 : Int) ≤ (a : Int) + (k : Int) := by omega
   have i3 : (a : Int) + (k : Int) < (n : Int) := by omega
   have i4 : IntKind.i64.wrap ((a : Int) + (k : Int)) = (a : Int) + (k : Int) := by rw [IntKind.wrap_i64]; omega
   have j1 : ((b : Int) + (k : Int)).toNat = j := by omega
   have j2 : (0 : Int) ≤ (b : Int) + (k : Int) := by omega
   have j3 : (b : Int) + (k : Int) < (n : Int) := by omega
   have j4 : IntKind.i64.wrap ((b : Int) + (k : Int)) = (b : Int) + (k : Int) := by rw [IntKind.wrap_i64]; omega
   clear hi hj
   go_wp2_with fail
   go_big_region_o
   clear c1 c2 c3 f1 f2 i1 i2 i3 i4 j1 j2 j3 j4
   go_wp2
   go_roundw
   case rel => exact ⟨k + 1, by omega, by go_num, HX.out, grown_transB HG.out (grown_transB HY.out (grown_drewB _ _))⟩
   case measure => simp [intOf]; omega
  ·have e : k = m := by omega
   subst e
   have HX := hid hrow
   clear hrow
   go_wp2
   go_end0
   exact ⟨rfl, HX.out, HG.out⟩
set_option maxHeartbeats 1000000 in
theorem rotate_any (g n c a m b : Nat) (cb : Value) (f : Nat → Nat) (w : World) (hr : RowB w g n f) (ham : a < m) (hmb : m < b) (hb : b ≤ n) (hn : n ≤ c) (hc : c ≤ maxLen) :
  Calls Tryz.prog 141 #[.slice (some ⟨g, 0, none⟩) n c, .int .i64 a, .int .i64 m, .int .i64 b, cb] w fun e w' => e = .returned (.tuple #[]) ∧ RowB w' g n (rot a m b f) ∧ w.grownBy w' (some g) := by
 have hcm := hc
 unfold maxLen at hc
 have HR := hid hr
 have HC := hid hcm
 clear hr hcm
 have s1 : IntKind.i64.wrap ((m : Int) - (a : Int)) = ((m - a : Nat) : Int) := by rw [IntKind.wrap_i64]; omega
 have s2 : IntKind.i64.wrap ((b : Int) - (m : Int)) = ((b - m : Nat) : Int) := by rw [IntKind.wrap_i64]; omega
 obtain ⟨I0, hI0⟩ : ∃ I, I = m - a := ⟨_, rfl⟩
 obtain ⟨J0, hJ0⟩ : ∃ J, J = b - m := ⟨_, rfl⟩
 rw [← hI0] at s1
 rw [← hJ0] at s2
 have HI0 := hid hI0
 have HJ0 := hid hJ0
 clear hI0 hJ0
 go_enter Tryz.func141, Tryz.ntmps141
 go_wp2
 clear s1 s2
 go_loopw [10, 11] (fun i j wr => ∃ (I J : Nat) (F : Nat → Nat), i = .int .i64 I ∧ j = .int .i64 J ∧ 0 < I ∧ 0 < J ∧ a + I ≤ m ∧ m + J ≤ b ∧ RowB wr g n F ∧ Hid (rot (m - I) m (m + J) F = rot a m b f) ∧ w.grownBy wr (some g)) (fun i j _ => (intOf i).toNat + (intOf j).toNat)
 case atStart =>
  have h1 := HI0.out
  have h2 := HJ0.out
  refine ⟨I0, J0, f, rfl, rfl, by omega, by omega, by omega, by omega, HR.out, hid ?_, grown_reflB _ _⟩
  rw [show m - I0 = a by omega, show m + J0 = b by omega]
 case round =>
  obtain ⟨I, J, F, rfl, rfl, hI, hJ, hIa, hJb, hrow, HO, hgr⟩ := hrel
  have HG := hid hgr
  have HW := hid hrow
  clear hgr hrow HR HI0 HJ0
  have s1 : IntKind.i64.wrap ((m : Int) - (I : Int)) = ((m - I : Nat) : Int) := by rw [IntKind.wrap_i64]; omega
  obtain ⟨M, hM⟩ : ∃ M, M = m - I := ⟨_, rfl⟩
  rw [← hM] at s1
  have HM := hid hM
  rcases Nat.lt_trichotomy J I with h | h | h
  ·have s2 : IntKind.i64.wrap ((I : Int) - (J : Int)) = ((I - J : Nat) : Int) := by rw [IntKind.wrap_i64]; omega
   have hne : ((I : Int) != (J : Int)) = true := by simp; omega
   obtain ⟨K, hK⟩ : ∃ K, K = I - J := ⟨_, rfl⟩
   rw [← hK] at s2
   have HK := hid hK
   have q1 : M + J ≤ m := by omega
   have q2 : m + J ≤ n := by omega
   clear hK hM
   go_wp2_with (go_at_call 154; refine (swapRange_any g n c M m J cb F _ HW.out q1 q2 hn HC.out).mono ?_; rintro e w' ⟨rfl, hrow, hgr⟩)
   clear s1 s2 q1 q2
   go_roundw
   case rel =>
    have h1 := HM.out
    have h2 := HK.out
    refine ⟨K, J, _, rfl, rfl, by omega, hJ, by omega, hJb, hrow, hid ?_, grown_transB HG.out hgr⟩
    rw [h2, h1, rot_one m I J F h (by omega)]
    exact HO.out
   case measure => have h2 := HK.out; simp [intOf]; omega
  ·subst h
   have hne : ((J : Int) != (J : Int)) = false := by simp
   have q1 : M + J ≤ m := by omega
   have q2 : m + J ≤ n := by omega
   clear hM
   go_wp2_with (go_at_call 154; refine (swapRange_any g n c M m J cb F _ HW.out q1 q2 hn HC.out).mono ?_; rintro e w' ⟨rfl, hrow, hgr⟩)
   go_end0
   refine ⟨rfl, ?_, grown_transB HG.out hgr⟩
   rw [← HO.out, ← rot_three m J F (by omega), ← HM.out]
   exact hrow
  ·have s2 : IntKind.i64.wrap ((J : Int) - (I : Int)) = ((J - I : Nat) : Int) := by rw [IntKind.wrap_i64]; omega
   have s3 : IntKind.i64.wrap ((m : Int) + (J : Int)) = (m : Int) + (J : Int) := by rw [IntKind.wrap_i64]; omega
   have s4 : IntKind.i64.wrap ((m : Int) + (J : Int) - (I : Int)) = ((m + J - I : Nat) : Int) := by rw [IntKind.wrap_i64]; omega
   have hne : ((I : Int) != (J : Int)) = true := by simp; omega
   obtain ⟨K, hK⟩ : ∃ K, K = J - I := ⟨_, rfl⟩
   rw [← hK] at s2
   have HK := hid hK
   obtain ⟨T, hT⟩ : ∃ T, T = m + J - I := ⟨_, rfl⟩
   rw [← hT] at s4
   have HT := hid hT
   have q1 : M + I ≤ T := by omega
   have q2 : T + I ≤ n := by omega
   clear hK hM hT
   go_wp2_with (go_at_call 154; refine (swapRange_any g n c M T I cb F _ HW.out q1 q2 hn HC.out).mono ?_; rintro e w' ⟨rfl, hrow, hgr⟩)
   clear s1 s2 s3 s4 q1 q2
   go_roundw
   case rel =>
    have h1 := HM.out
    have h2 := HK.out
    have h3 := HT.out
    refine ⟨I, K, _, rfl, rfl, hI, by omega, hIa, by omega, hrow, hid ?_, grown_transB HG.out hgr⟩
    rw [h2, h1, h3, rot_two m I J F h (by omega)]
    exact HO.out
   case measure => have h2 := HK.out; simp [intOf]; omega
set_option maxHeartbeats 4000000 in
theorem insertion_any (g n c a b gb N : Nat) (key f : Nat → Nat) (w : World) (hr : RowB w g n f) (hcmp : ∀ W, w.grownBy W (some g) → CmpAt gb N key W) (hf : ∀ x, x < n → f x < N) (hab : a ≤ b) (hb : b ≤ n) (hn : n ≤ c) (hc : c ≤ maxLen) (hbig : n < 4611686018427387904) :
  Calls Tryz.prog 112 #[.slice (some ⟨g, 0, none⟩) n c, .int .i64 a, .int .i64 b, cmpF gb] w fun e w' =>
   e = .returned (.tuple #[]) ∧ ∃ F, RowB w' g n F ∧ Mix a b f F ∧ Rise key a b F ∧ w.grownBy w' (some g) := by
 have mixed : Tryz.prog.follows .mixedOrders = true := by kernel_rfl
 unfold maxLen at hc
 have HR := hid hr
 have HC := hid hcmp
 have HN := hid hf
 clear hr hcmp hf
 unfold cmpF
 go_enter Tryz.func112, Tryz.ntmps112
 go_wp2
 go_loopw [8] (fun i wr => ∃ (I : Nat) (F : Nat → Nat), i = .int .i64 I ∧ a < I ∧ (I ≤ b ∨ I = a + 1) ∧ RowB wr g n F ∧ Hid (Mix a b f F) ∧ Hid (Rise key a I F) ∧ w.grownBy wr (some g)) (fun i _ => b - (intOf i).toNat)
 case atStart => exact ⟨a + 1, f, by go_num, by omega, .inr rfl, HR.out, hid (Mix.refl _ _ _), hid (Rise.one _ _ _ _ (Nat.le_refl _)), grown_reflB _ _⟩
 case round =>
  obtain ⟨I, F0, rfl, haI, hIb, hrow, HM, HS, hgr⟩ := hrel
  have HW := hid hrow
  have HG := hid hgr
  clear hrow hgr HR
  by_cases hlt : I < b
  ·clear hIb
   go_wp2
   go_loopw [9] (fun j wr2 => ∃ (J : Nat) (F : Nat → Nat), j = .int .i64 J ∧ a ≤ J ∧ J ≤ I ∧ RowB wr2 g n F ∧ Hid (Mix a b f F) ∧ Hid (Near key a I J F) ∧ w.grownBy wr2 (some g)) (fun j _ => (intOf j).toNat)
   case atStart => exact ⟨I, F0, rfl, by omega, Nat.le_refl _, HW.out, HM, hid (near_start HS.out), HG.out⟩
   case round =>
    clear HM HS HW HG
    obtain ⟨J, F, rfl, haJ, hJI, hrow, HM, HS, hgr⟩ := hrel
    have HG := hid hgr
    have HF := hid (HM.out.lt hb HN.out)
    by_cases hja : a < J
    ·obtain ⟨q, rfl⟩ : ∃ q, J = q + 1 := ⟨J - 1, by omega⟩
     obtain ⟨i, hi⟩ : ∃ i, i = q + 1 := ⟨_, rfl⟩
     have HI := hid hi
     have c1 : wr.cell? ⟨g, i, none⟩ = some (.int .i64 (F i : Int)) := hrow.cell (by omega)
     have c2 : wr.cell? ⟨g, q, none⟩ = some (.int .i64 (F q : Int)) := hrow.cell (by omega)
     have HK := hid (HC.out wr hgr (F i) (F q) (HF.out i (by omega)) (HF.out q (by omega)))
     have HW := hid hrow
     have p1 : ((q : Int) + 1).toNat = i := by omega
     have p2 : (0 : Int) ≤ (q : Int) + 1 := by omega
     have p3 : (q : Int) + 1 < (n : Int) := by omega
     have p4 : (q : Int) < (n : Int) := by omega
     have p5 : (a : Int) < (q : Int) + 1 := by omega
     have p6 : IntKind.i64.wrap (q : Int) = (q : Int) := by rw [IntKind.wrap_i64]; omega
     clear hrow hgr hi
     obtain ⟨x, hx⟩ : ∃ x, x = F i := ⟨_, rfl⟩
     obtain ⟨y, hy⟩ : ∃ y, y = F q := ⟨_, rfl⟩
     rw [← hx, ← hy] at HK
     rw [← hx] at c1
     rw [← hy] at c2
     obtain ⟨v, hv⟩ : ∃ v, v = cmp3 (key x) (key y) := ⟨_, rfl⟩
     rw [← hv] at HK
     have HV := hid hv
     have Hx := hid hx
     have Hy := hid hy
     clear hx hy hv
     by_cases hlv : v < 0
     ·have HL := hid hlv
      go_wp2_with fail
      go_quiet ((go_at_call 22; exact Calls.quiet_of (HK.out _)))
      clear c1 c2 HK hlv
      have HG2 := hid (grown_transB HG.out (grown_drewN wr (some g) nq))
      have hrow2 : RowB (wr.drewN nq) g n F := HW.out
      clear HW HG
      generalize wr.drewN nq = w2 at hrow2 HG2
      clear nq
      go_wp2_with fail
      obtain ⟨c1, c2, f1, f2, h3⟩ := hrow2.facts (i := i) (j := q) (by have := HI.out; omega) (by omega)
      have HX := hid (hrow2.xch i q)
      have HY := hid (RowB.grown w2 g i q (.int .i64 (F q : Int)) (.int .i64 (F i : Int)))
      obtain ⟨u, c3⟩ := h3 (.int .i64 (F q : Int))
      rw [← Hx.out] at c1 HX HY
      rw [← Hy.out] at c2 c3 HX HY
      clear h3 hrow2
      go_big_region_o
      clear c1 c2 c3 f1 f2
      have HZ := hid (grown_transB HG2.out (grown_transB HY.out (grown_drewB _ _)))
      go_wp2
      go_roundw
      case rel =>
       have h1 := HI.out
       have h2 := HV.out
       have hk : key (F (q + 1)) < key (F q) := by rw [← h1, ← Hx.out, ← Hy.out]; exact cmp3_lt.1 (by have h3 := HL.out; rw [← h2]; omega)
       refine ⟨q, xch (q + 1) q F, by go_num, by omega, by omega, ?_, hid (HM.out.trans (mix_xch F ⟨by omega, by omega⟩ ⟨by omega, by omega⟩)), hid (near_step HS.out (by omega) hJI hk), HZ.out⟩
       rw [← h1]
       exact HX.out
      case measure => simp [intOf]
     ·have hlv' : decide (v < 0) = false := decide_eq_false hlv
      have HL := hid hlv
      go_wp2_with fail
      go_quiet ((go_at_call 22; exact Calls.quiet_of (HK.out _)))
      go_wp2
      go_roundw
      case rel =>
       refine ⟨I + 1, F, by go_num, by omega, .inl (by omega), HW.out, HM, hid (near_out HS.out hJI (.inr ⟨q, rfl, by omega, ?_⟩)), grown_transB HG.out (grown_drewN _ _ _)⟩
       have h2 := HV.out
       rw [← HI.out, ← Hx.out, ← Hy.out]
       rcases Nat.lt_or_ge (key x) (key y) with h | h
       ·exact absurd (cmp3_lt.2 h) (by have h3 := HL.out; rw [← h2]; omega)
       ·exact h
      case measure => simp [intOf]; omega
    ·have e : J = a := by omega
     subst e
     have hd : decide ((J : Int) > (J : Int)) = false := decide_eq_false (by omega)
     have HW := hid hrow
     clear hrow hgr
     go_wp2_with fail
     go_quiet (fail)
     go_wp2
     go_roundw
     case rel => exact ⟨I + 1, F, by go_num, by omega, .inl (by omega), HW.out, HM, hid (near_out HS.out hJI (.inl (Nat.le_refl _))), grown_transB HG.out (grown_drewN _ _ _)⟩
     case measure => simp [intOf]; omega
  ·go_wp2
   go_end0
   refine ⟨rfl, F0, HW.out, HM.out, fun x y h1 h2 h3 => HS.out x y h1 h2 (by omega), HG.out⟩
def Merged (g n a b : Nat) (key f : Nat → Nat) (w : World) (e : Ending) (w' : World) : Prop :=
 e = .returned (.tuple #[]) ∧ ∃ F, RowB w' g n F ∧ Mix a b f F ∧ Rise key a b F ∧ w.grownBy w' (some g)
theorem half (i j : Nat) (h : i + j < 9223372036854775808) : IntKind.i64.wrap ((i : Int) + (j : Int)) = (i : Int) + (j : Int) ∧ IntKind.u64.wrap ((i : Int) + (j : Int)) = (i : Int) + (j : Int) ∧ IntKind.i64.wrap (((i : Int) + (j : Int)) / 2) = (((i + j) / 2 : Nat) : Int) := by
 refine ⟨by rw [IntKind.wrap_i64]; omega, by rw [IntKind.wrap_u64]; omega, by rw [IntKind.wrap_i64]; omega⟩
set_option maxHeartbeats 4000000 in
set_option maxRecDepth 100000 in
theorem sym_one (g n c a m b gb N : Nat) (key f : Nat → Nat) (w : World) (hr : RowB w g n f) (hcmp : ∀ W, w.grownBy W (some g) → CmpAt gb N key W) (hf : ∀ x, x < n → f x < N) (hm : m = a + 1) (hmb : m < b) (hb : b ≤ n) (hn : n ≤ c) (hc : c ≤ maxLen) (hbig : n < 4611686018427387904) (h2 : Rise key m b f) :
  Calls Tryz.prog 113 #[.slice (some ⟨g, 0, none⟩) n c, .int .i64 a, .int .i64 m, .int .i64 b, cmpF gb] w (Merged g n a b key f w) := by
 have mixed : Tryz.prog.follows .mixedOrders = true := by kernel_rfl
 unfold maxLen at hc
 have HR := hid hr
 have HC := hid hcmp
 have HN := hid hf
 have HS := hid h2
 have HM := hid hm
 have s1 : IntKind.i64.wrap ((m : Int) - (a : Int)) = 1 := by rw [IntKind.wrap_i64]; omega
 have han : a < n := by omega
 clear hr hcmp hf h2 hm
 unfold cmpF
 go_enter Tryz.func113, Tryz.ntmps113
 go_wp2
 clear s1
 go_loopw [10, 11] (fun i j wr => ∃ (I J M : Nat), i = .int .i64 I ∧ j = .int .i64 J ∧ m ≤ I ∧ I ≤ J ∧ J ≤ b ∧ wr = w.drewN M ∧ Hid (∀ x, m ≤ x → x < I → key (f x) ≤ key (f a)) ∧ Hid (∀ x, J ≤ x → x < b → key (f a) ≤ key (f x))) (fun i j _ => (intOf j).toNat - (intOf i).toNat)
 case atStart => exact ⟨m, b, 0, rfl, rfl, Nat.le_refl _, by omega, Nat.le_refl _, rfl, hid fun x h1 h2 => absurd h1 (by omega), hid fun x h1 h2 => absurd h1 (by omega)⟩
 case round =>
  obtain ⟨I, J, M, rfl, rfl, hmI, hIJ, hJb, hw, HL, HU⟩ := hrel
  by_cases hlt : I < J
  ·obtain ⟨h1, h2, h3⟩ := half I J (by omega)
   obtain ⟨H, hH⟩ : ∃ H, H = (I + J) / 2 := ⟨_, rfl⟩
   rw [← hH] at h3
   have hIH : I ≤ H := by omega
   have hHJ : H < J := by omega
   have hHn : (H : Int) < (n : Int) := by omega
   have han' : (a : Int) < (n : Int) := by omega
   have HK := hid (HC.out w (grown_reflB _ _) (f H) (f a) (HN.out H (by omega)) (HN.out a han))
   have c1 : ∀ M, (w.drewN M).cell? ⟨g, H, none⟩ = some (.int .i64 (f H : Int)) := fun M => HR.out.cell (by omega)
   have c2 : ∀ M, (w.drewN M).cell? ⟨g, a, none⟩ = some (.int .i64 (f a : Int)) := fun M => HR.out.cell (by omega)
   obtain ⟨v, hv⟩ : ∃ v, v = cmp3 (key (f H)) (key (f a)) := ⟨_, rfl⟩
   rw [← hv] at HK
   have HV := hid hv
   clear hv hH
   obtain ⟨x, hx⟩ : ∃ x, x = f H := ⟨_, rfl⟩
   obtain ⟨y, hy⟩ : ∃ y, y = f a := ⟨_, rfl⟩
   rw [← hx, ← hy] at HK
   rw [← hx] at c1
   rw [← hy] at c2
   have Hx := hid hx
   have Hy := hid hy
   clear hx hy
   have c1' := c1 M
   have c2' := c2 M
   rw [← hw] at c1' c2'
   have HKw : Hid (∀ m : Nat, Calls Tryz.prog 22 #[.int .i64 (x : Int), .int .i64 (y : Int), .pointer (some ⟨gb, 0, none⟩)] (wr.drewN m) fun e w' => e = .returned (.int .i64 v) ∧ ∃ q, w' = (wr.drewN m).drewN q) := hid fun m => by
    rw [hw, World.drewN_drewN]
    exact HK.out _
   have HW := hid hw
   clear HK c1 c2 hw
   by_cases hlv : v < 0
   ·have HL2 := hid hlv
    go_wp2_with fail
    go_quiet ((go_at_call 22; exact Calls.quiet_of (HKw.out _)))
    go_wp2
    go_roundw
    case rel =>
     refine ⟨H + 1, J, M + nq, by go_num, rfl, by omega, by omega, hJb, by rw [HW.out, World.drewN_drewN], hid fun z h1 h2 => ?_, HU⟩
     have h3 := HL2.out
     have h4 := HV.out
     have h5 : key (f H) < key (f a) := cmp3_lt.1 (by rw [← h4]; omega)
     exact Nat.le_trans (HS.out z H h1 (by omega) (by omega)) (Nat.le_of_lt h5)
    case measure => simp [intOf]; omega
   ·have hlv' : decide (v < 0) = false := decide_eq_false hlv
    have HL2 := hid hlv
    go_wp2_with fail
    go_quiet ((go_at_call 22; exact Calls.quiet_of (HKw.out _)))
    go_wp2
    go_roundw
    case rel =>
     refine ⟨I, H, M + nq, rfl, rfl, hmI, hIH, by omega, by rw [HW.out, World.drewN_drewN], HL, hid fun z h1 h2 => ?_⟩
     have h3 := HL2.out
     have h4 := HV.out
     have h5 : ¬ key (f H) < key (f a) := fun h => by
      have := cmp3_lt.2 h
      rw [← h4] at this
      omega
     exact Nat.le_trans (Nat.le_of_not_lt h5) (HS.out H z (by omega) h1 h2)
    case measure => simp [intOf]; omega
  ·obtain rfl : I = J := by omega
   have HRw : Hid (RowB wr g n f) := hid (by rw [hw]; exact HR.out)
   have HGw : Hid (w.grownBy wr (some g)) := hid (by rw [hw]; exact grown_drewN _ _ _)
   have hd : decide ((I : Int) < (I : Int)) = false := decide_eq_false (by omega)
   have HMo := HM.out
   clear hw hlt HR
   go_wp2
   go_loopw [13] (fun k wr2 => ∃ K : Nat, k = .int .i64 K ∧ a ≤ K ∧ K + 1 ≤ I ∧ RowB wr2 g n (rot a (a + 1) (K + 1) f) ∧ w.grownBy wr2 (some g)) (fun k _ => I - (intOf k).toNat)
   case atStart => exact ⟨a, rfl, Nat.le_refl _, by omega, by rw [rot_left]; exact HRw.out, HGw.out⟩
   case round =>
    clear HRw HGw
    obtain ⟨K, rfl, haK, hKI, hrow, hgr⟩ := hrel
    have HG := hid hgr
    have s1 : IntKind.i64.wrap ((I : Int) - 1) = (I : Int) - 1 := by rw [IntKind.wrap_i64]; omega
    by_cases hlt : K + 1 < I
    ·obtain ⟨i, hi⟩ : ∃ i, i = K + 1 := ⟨_, rfl⟩
     have HI := hid hi
     obtain ⟨c1, c2, f1, f2, h3⟩ := hrow.facts (i := K) (j := i) (by omega) (by omega)
     have HX := hid (hrow.xch K i)
     have HY := hid (RowB.grown wr g K i (.int .i64 ((rot a (a + 1) (K + 1) f) i : Int)) (.int .i64 ((rot a (a + 1) (K + 1) f) K : Int)))
     have HF : Hid (xch K i (rot a (a + 1) (K + 1) f) = rot a (a + 1) (K + 2) f) := hid (by rw [hi]; exact rot_up a K f haK)
     rw [HF.out] at HX
     generalize rot a (a + 1) (K + 1) f = F at c1 c2 h3 HX HY
     obtain ⟨u, c3⟩ := h3 (.int .i64 (F i : Int))
     generalize F K = x at c1 HX HY
     generalize F i = y at c2 c3 HX HY
     have p1 : ((K : Int) + 1).toNat = i := by omega
     have p2 : (0 : Int) ≤ (K : Int) + 1 := by omega
     have p3 : (K : Int) + 1 < (n : Int) := by omega
     have p4 : (K : Int) < (n : Int) := by omega
     have p5 : (K : Int) < (I : Int) - 1 := by omega
     have p6 : IntKind.i64.wrap ((K : Int) + 1) = (K : Int) + 1 := by rw [IntKind.wrap_i64]; omega
     clear h3 hrow hgr hi HF
     go_wp2_with fail
     go_big_region_o
     clear c1 c2 c3 f1 f2
     go_wp2
     go_roundw
     case rel => exact ⟨K + 1, by go_num, by omega, by omega, HX.out, grown_transB HG.out (grown_transB HY.out (grown_drewB _ _))⟩
     case measure => simp [intOf]; omega
    ·have e : K + 1 = I := by omega
     have HX : Hid (RowB wr g n (rot a (a + 1) I f)) := hid (by rw [← e]; exact hrow)
     have hd2 : decide ((K : Int) < (I : Int) - 1) = false := decide_eq_false (by omega)
     clear hrow hgr
     go_wp2
     refine bodyPost_ret (results_none rfl _ _ _) rfl ?_
     have hS : Rise key (a + 1) b f := by have := HS.out; rwa [HMo] at this
     refine ⟨rfl, _, HX.out, (mix_rot f (by omega) (by omega)).mono (Nat.le_refl _) hJb, rise_up (by omega) hJb hS (fun z h1 h2 => HL.out z (by omega) h2) HU.out, HG.out⟩
set_option maxHeartbeats 4000000 in
set_option maxRecDepth 100000 in
theorem sym_two (g n c a m b gb N : Nat) (key f : Nat → Nat) (w : World) (hr : RowB w g n f) (hcmp : ∀ W, w.grownBy W (some g) → CmpAt gb N key W) (hf : ∀ x, x < n → f x < N) (ham : a < m) (hm : m ≠ a + 1) (hbm : b = m + 1) (hb : b ≤ n) (hn : n ≤ c) (hc : c ≤ maxLen) (hbig : n < 4611686018427387904) (h2 : Rise key a m f) :
  Calls Tryz.prog 113 #[.slice (some ⟨g, 0, none⟩) n c, .int .i64 a, .int .i64 m, .int .i64 b, cmpF gb] w (Merged g n a b key f w) := by
 have mixed : Tryz.prog.follows .mixedOrders = true := by kernel_rfl
 unfold maxLen at hc
 have HR := hid hr
 have HC := hid hcmp
 have HN := hid hf
 have HS := hid h2
 have HB := hid hbm
 obtain ⟨D, hD⟩ : ∃ D, D = m - a := ⟨_, rfl⟩
 have s1 : IntKind.i64.wrap ((m : Int) - (a : Int)) = (D : Int) := by rw [IntKind.wrap_i64]; omega
 have s2 : ((D : Int) == 1) = false := by simp; omega
 have s3 : IntKind.i64.wrap ((b : Int) - (m : Int)) = 1 := by rw [IntKind.wrap_i64]; omega
 have hmn : m < n := by omega
 clear hr hcmp hf h2 hm hbm hD
 unfold cmpF
 go_enter Tryz.func113, Tryz.ntmps113
 go_wp2
 clear s1 s2 s3
 go_loopw [14, 15] (fun i j wr => ∃ (I J M : Nat), i = .int .i64 I ∧ j = .int .i64 J ∧ a ≤ I ∧ I ≤ J ∧ J ≤ m ∧ wr = w.drewN M ∧ Hid (∀ x, a ≤ x → x < I → key (f x) ≤ key (f m)) ∧ Hid (∀ x, J ≤ x → x < m → key (f m) ≤ key (f x))) (fun i j _ => (intOf j).toNat - (intOf i).toNat)
 case atStart => exact ⟨a, m, 0, rfl, rfl, Nat.le_refl _, by omega, Nat.le_refl _, rfl, hid fun x h1 h2 => absurd h1 (by omega), hid fun x h1 h2 => absurd h1 (by omega)⟩
 case round =>
  obtain ⟨I, J, M, rfl, rfl, hmI, hIJ, hJb, hw, HL, HU⟩ := hrel
  by_cases hlt : I < J
  ·obtain ⟨h1, h2, h3⟩ := half I J (by omega)
   obtain ⟨H, hH⟩ : ∃ H, H = (I + J) / 2 := ⟨_, rfl⟩
   rw [← hH] at h3
   have hIH : I ≤ H := by omega
   have hHJ : H < J := by omega
   have hHn : (H : Int) < (n : Int) := by omega
   have hmn' : (m : Int) < (n : Int) := by omega
   have HK := hid (HC.out w (grown_reflB _ _) (f m) (f H) (HN.out m hmn) (HN.out H (by omega)))
   have c1 : ∀ M, (w.drewN M).cell? ⟨g, H, none⟩ = some (.int .i64 (f H : Int)) := fun M => HR.out.cell (by omega)
   have c2 : ∀ M, (w.drewN M).cell? ⟨g, m, none⟩ = some (.int .i64 (f m : Int)) := fun M => HR.out.cell (by omega)
   obtain ⟨v, hv⟩ : ∃ v, v = cmp3 (key (f m)) (key (f H)) := ⟨_, rfl⟩
   rw [← hv] at HK
   have HV := hid hv
   clear hv hH
   obtain ⟨x, hx⟩ : ∃ x, x = f H := ⟨_, rfl⟩
   obtain ⟨y, hy⟩ : ∃ y, y = f m := ⟨_, rfl⟩
   rw [← hx, ← hy] at HK
   rw [← hx] at c1
   rw [← hy] at c2
   have Hx := hid hx
   have Hy := hid hy
   clear hx hy
   have c1' := c1 M
   have c2' := c2 M
   rw [← hw] at c1' c2'
   have HKw : Hid (∀ m : Nat, Calls Tryz.prog 22 #[.int .i64 (y : Int), .int .i64 (x : Int), .pointer (some ⟨gb, 0, none⟩)] (wr.drewN m) fun e w' => e = .returned (.int .i64 v) ∧ ∃ q, w' = (wr.drewN m).drewN q) := hid fun m => by
    rw [hw, World.drewN_drewN]
    exact HK.out _
   have HW := hid hw
   clear HK c1 c2 hw
   by_cases hlv : v < 0
   ·have HL2 := hid hlv
    go_wp2_with fail
    go_quiet ((go_at_call 22; exact Calls.quiet_of (HKw.out _)))
    go_wp2
    go_roundw
    case rel =>
     refine ⟨I, H, M + nq, rfl, rfl, hmI, hIH, by omega, by rw [HW.out, World.drewN_drewN], HL, hid fun z h1 h2 => ?_⟩
     have h3 := HL2.out
     have h4 := HV.out
     have h5 : key (f m) < key (f H) := cmp3_lt.1 (by rw [← h4]; omega)
     exact Nat.le_trans (Nat.le_of_lt h5) (HS.out H z (by omega) h1 h2)
    case measure => simp [intOf]; omega
   ·have hlv' : decide (v < 0) = false := decide_eq_false hlv
    have HL2 := hid hlv
    go_wp2_with fail
    go_quiet ((go_at_call 22; exact Calls.quiet_of (HKw.out _)))
    go_wp2
    go_roundw
    case rel =>
     refine ⟨H + 1, J, M + nq, by go_num, rfl, by omega, by omega, hJb, by rw [HW.out, World.drewN_drewN], hid fun z h1 h2 => ?_, HU⟩
     have h3 := HL2.out
     have h4 := HV.out
     have h5 : ¬ key (f m) < key (f H) := fun h => by
      have := cmp3_lt.2 h
      rw [← h4] at this
      omega
     exact Nat.le_trans (HS.out z H h1 (by omega) (by omega)) (Nat.le_of_not_lt h5)
    case measure => simp [intOf]; omega
  ·obtain rfl : I = J := by omega
   have HRw : Hid (RowB wr g n f) := hid (by rw [hw]; exact HR.out)
   have HGw : Hid (w.grownBy wr (some g)) := hid (by rw [hw]; exact grown_drewN _ _ _)
   have hd : decide ((I : Int) < (I : Int)) = false := decide_eq_false (by omega)
   clear hw hlt HR
   go_wp2
   go_loopw [17] (fun k wr2 => ∃ K : Nat, k = .int .i64 K ∧ I ≤ K ∧ K ≤ m ∧ RowB wr2 g n (rot K m (m + 1) f) ∧ w.grownBy wr2 (some g)) (fun k _ => (intOf k).toNat)
   case atStart => exact ⟨m, rfl, hJb, Nat.le_refl _, by rw [rot_right _ _ _ (by omega)]; exact HRw.out, HGw.out⟩
   case round =>
    clear HRw HGw
    obtain ⟨K, rfl, haK, hKI, hrow, hgr⟩ := hrel
    have HG := hid hgr
    by_cases hlt : I < K
    ·obtain ⟨q, rfl⟩ : ∃ q, K = q + 1 := ⟨K - 1, by omega⟩
     obtain ⟨i, hi⟩ : ∃ i, i = q + 1 := ⟨_, rfl⟩
     have HI := hid hi
     obtain ⟨c1, c2, f1, f2, h3⟩ := hrow.facts (i := i) (j := q) (by omega) (by omega)
     have HX := hid (hrow.xch i q)
     have HY := hid (RowB.grown wr g i q (.int .i64 ((rot (q + 1) m (m + 1) f) q : Int)) (.int .i64 ((rot (q + 1) m (m + 1) f) i : Int)))
     have HF : Hid (xch i q (rot (q + 1) m (m + 1) f) = rot q m (m + 1) f) := hid (by rw [hi]; exact rot_down q m f hKI)
     rw [HF.out] at HX
     generalize rot (q + 1) m (m + 1) f = F at c1 c2 h3 HX HY
     obtain ⟨u, c3⟩ := h3 (.int .i64 (F q : Int))
     generalize F i = x at c1 HX HY
     generalize F q = y at c2 c3 HX HY
     have p1 : ((q : Int) + 1).toNat = i := by omega
     have p2 : (0 : Int) ≤ (q : Int) + 1 := by omega
     have p3 : (q : Int) + 1 < (n : Int) := by omega
     have p4 : (q : Int) < (n : Int) := by omega
     have p5 : (I : Int) < (q : Int) + 1 := by omega
     have p6 : IntKind.i64.wrap (q : Int) = (q : Int) := by rw [IntKind.wrap_i64]; omega
     clear h3 hrow hgr hi HF
     go_wp2_with fail
     go_big_region_o
     clear c1 c2 c3 f1 f2
     go_wp2
     go_roundw
     case rel => exact ⟨q, by go_num, by omega, by omega, HX.out, grown_transB HG.out (grown_transB HY.out (grown_drewB _ _))⟩
     case measure => simp [intOf]
    ·have e : K = I := by omega
     subst e
     have HX := hid hrow
     have hd2 : decide ((K : Int) > (K : Int)) = false := decide_eq_false (by omega)
     clear hrow hgr
     go_wp2
     refine bodyPost_ret (results_none rfl _ _ _) rfl ?_
     have hB := HB.out
     subst hB
     exact ⟨rfl, _, HX.out, (mix_rot f (by omega) (by omega)).mono (by omega) (Nat.le_refl _), rise_down (by omega) (by omega) HS.out HL.out HU.out, HG.out⟩
end Go.Proofs.YtfbimboemahhhaaGreatDoor
