/-
  The contracts of slices.swapRangeCmpFunc and slices.rotateCmpFunc at []int: the pieces exchanged, and turned; nothing else is touched.
-/
import Derived.Test.YthdgkhigekogiaaGnCmp
import Derived.Shelf.RegionOpenPlain
import Derived.Deep.OwnRows
namespace Go.Proofs.Ythdgkhigekogiaa
open Go.RowKit

theorem grown_trans {w a b : World} {row : Option Nat} (h : w.grownBy a row) (k : a.grownBy b row) : w.grownBy b row :=
  ⟨k.os.trans h.os, k.tape.trans h.tape, k.output.trans h.output, Nat.le_trans h.size k.size, fun i hi hne => (k.block i (Nat.lt_of_lt_of_le hi h.size) hne).trans (h.block i hi hne)⟩
theorem grown_refl (w : World) (row : Option Nat) : w.grownBy w row := ⟨rfl, rfl, rfl, Nat.le_refl _, fun _ _ _ => rfl⟩
theorem grown_drewN (w : World) (row : Option Nat) (m : Nat) : w.grownBy (w.drewN m) row := ⟨rfl, rfl, rfl, Nat.le_refl _, fun _ _ _ => rfl⟩
theorem grown_drew (w : World) (row : Option Nat) : w.grownBy w.drew row := ⟨rfl, rfl, rfl, Nat.le_refl _, fun _ _ _ => rfl⟩

/-- The row of places that is sorted. -/
def Row (w : World) (g n : Nat) (f : Nat → Nat) : Prop := w.rowIs g 3 n (ivl .i64 f)
theorem Row.drewN {w : World} {g n : Nat} {f : Nat → Nat} (h : Row w g n f) (m : Nat) : Row (w.drewN m) g n f := h
/-- Behind an exchange. -/
theorem Row.xch {w : World} {g n : Nat} {f : Nat → Nat} (h : Row w g n f) (i j : Nat) : Row ((w.setCell ⟨g, i, none⟩ (.int .i64 (f j : Int))).setCell ⟨g, j, none⟩ (.int .i64 (f i : Int))) g n (xch i j f) :=
  ((h.set i _).set j _).congr fun x _ => by
    simp only [ivl, Go.Proofs.Ythdgkhigekogiaa.xch]
    split
    · rfl
    · split <;> rfl
theorem Row.grown (w : World) (g i j : Nat) (u v : Value) : w.grownBy ((w.setCell ⟨g, i, none⟩ u).setCell ⟨g, j, none⟩ v) (some g) := grown_trans (grown_set w _ _) (grown_set _ _ _)

/-- What the exchange's region asks of the world. -/
theorem Row.facts {w : World} {g n : Nat} {f : Nat → Nat} (h : Row w g n f) {i j : Nat} (hi : i < n) (hj : j < n) :
    w.cell? ⟨g, i, none⟩ = some (.int .i64 (f i : Int)) ∧ w.cell? ⟨g, j, none⟩ = some (.int .i64 (f j : Int)) ∧ w.frozen? ⟨g, i, none⟩ = false ∧ w.frozen? ⟨g, j, none⟩ = false ∧ ∀ v, ∃ u, (w.setCell ⟨g, i, none⟩ v).cell? ⟨g, j, none⟩ = some u :=
  ⟨h.cell hi, h.cell hj, h.frozen i, h.frozen j, fun v => ⟨_, (World.rowIs.set h i v).cell hj⟩⟩

set_option maxHeartbeats 4000000 in
theorem swapRange_any (g n c a b m : Nat) (cb : Value) (f : Nat → Nat) (w : World) (hr : Row w g n f) (hab : a + m ≤ b) (hb : b + m ≤ n) (hn : n ≤ c) (hc : c ≤ maxLen) :
    Calls Try.prog 41 #[.slice (some ⟨g, 0, none⟩) n c, .int .i64 a, .int .i64 b, .int .i64 m, cb] w fun e w' => e = .returned (.tuple #[]) ∧ Row w' g n (swp a b m f) ∧ w.grownBy w' (some g) := by
  unfold maxLen at hc
  have HR := Lib.hid hr
  have mixed : Try.prog.follows .mixedOrders = true := by kernel_rfl
  clear hr
  go_enter Try.func41, Try.ntmps41
  go_wp2
  go_loopw [10] (fun i wr => ∃ k : Nat, k ≤ m ∧ i = .int .i64 k ∧ Row wr g n (swp a b k f) ∧ w.grownBy wr (some g)) (fun i _ => m - (intOf i).toNat)
  case atStart => exact ⟨0, Nat.zero_le _, rfl, by rw [swp_zero]; exact HR.out, grown_refl _ _⟩
  case round =>
    obtain ⟨k, hk, rfl, hrow, hgr⟩ := hrel
    have HG := Lib.hid hgr
    clear hgr HR
    by_cases hlt : k < m
    · obtain ⟨i, hi⟩ : ∃ i, i = a + k := ⟨_, rfl⟩
      obtain ⟨j, hj⟩ : ∃ j, j = b + k := ⟨_, rfl⟩
      obtain ⟨c1, c2, f1, f2, h3⟩ := hrow.facts (i := i) (j := j) (by omega) (by omega)
      have HX := Lib.hid (hrow.xch i j)
      have HY := Lib.hid (Row.grown wr g i j (.int .i64 ((swp a b k f) j : Int)) (.int .i64 ((swp a b k f) i : Int)))
      have HF : Hid (xch i j (swp a b k f) = swp a b (k + 1) f) := Lib.hid (by rw [hi, hj]; exact swp_succ a b k f (by omega))
      rw [HF.out] at HX
      generalize swp a b k f = F at c1 c2 h3 HX HY
      obtain ⟨u, c3⟩ := h3 (.int .i64 (F j : Int))
      clear h3 hrow HF
      generalize F i = x at c1 HX HY
      generalize F j = y at c2 c3 HX HY
      have i1 : ((a : Int) + (k : Int)).toNat = i := by omega
      have i2 : (0 : Int) ≤ (a : Int) + (k : Int) := by omega
      have i3 : (a : Int) + (k : Int) < (n : Int) := by omega
      have i4 : IntKind.i64.wrap ((a : Int) + (k : Int)) = (a : Int) + (k : Int) := by rw [IntKind.wrap_i64]; omega
      have j1 : ((b : Int) + (k : Int)).toNat = j := by omega
      have j2 : (0 : Int) ≤ (b : Int) + (k : Int) := by omega
      have j3 : (b : Int) + (k : Int) < (n : Int) := by omega
      have j4 : IntKind.i64.wrap ((b : Int) + (k : Int)) = (b : Int) + (k : Int) := by rw [IntKind.wrap_i64]; omega
      clear hi hj
      go_wp2_with fail
      go_big_region_o
      clear c1 c2 c3 f1 f2 i1 i2 i3 i4 j1 j2 j3 j4
      go_wp2
      go_roundw
      case rel => exact ⟨k + 1, by omega, by go_num, HX.out, grown_trans HG.out (grown_trans HY.out (grown_drew _ _))⟩
      case measure => simp [intOf]; omega
    · have e : k = m := by omega
      subst e
      have HX := Lib.hid hrow
      clear hrow
      go_wp2
      go_end0
      exact ⟨rfl, HX.out, HG.out⟩

set_option maxHeartbeats 1000000 in
theorem rotate_any (g n c a m b : Nat) (cb : Value) (f : Nat → Nat) (w : World) (hr : Row w g n f) (ham : a < m) (hmb : m < b) (hb : b ≤ n) (hn : n ≤ c) (hc : c ≤ maxLen) :
    Calls Try.prog 40 #[.slice (some ⟨g, 0, none⟩) n c, .int .i64 a, .int .i64 m, .int .i64 b, cb] w fun e w' => e = .returned (.tuple #[]) ∧ Row w' g n (rot a m b f) ∧ w.grownBy w' (some g) := by
  have hcm := hc
  unfold maxLen at hc
  have HR := Lib.hid hr
  have HC := Lib.hid hcm
  clear hr hcm
  have s1 : IntKind.i64.wrap ((m : Int) - (a : Int)) = ((m - a : Nat) : Int) := by rw [IntKind.wrap_i64]; omega
  have s2 : IntKind.i64.wrap ((b : Int) - (m : Int)) = ((b - m : Nat) : Int) := by rw [IntKind.wrap_i64]; omega
  obtain ⟨I0, hI0⟩ : ∃ I, I = m - a := ⟨_, rfl⟩
  obtain ⟨J0, hJ0⟩ : ∃ J, J = b - m := ⟨_, rfl⟩
  rw [← hI0] at s1
  rw [← hJ0] at s2
  have HI0 := Lib.hid hI0
  have HJ0 := Lib.hid hJ0
  clear hI0 hJ0
  go_enter Try.func40, Try.ntmps40
  go_wp2
  clear s1 s2
  go_loopw [10, 11] (fun i j wr => ∃ (I J : Nat) (F : Nat → Nat), i = .int .i64 I ∧ j = .int .i64 J ∧ 0 < I ∧ 0 < J ∧ a + I ≤ m ∧ m + J ≤ b ∧ Row wr g n F ∧ Hid (rot (m - I) m (m + J) F = rot a m b f) ∧ w.grownBy wr (some g)) (fun i j _ => (intOf i).toNat + (intOf j).toNat)
  case atStart =>
    have h1 := HI0.out
    have h2 := HJ0.out
    refine ⟨I0, J0, f, rfl, rfl, by omega, by omega, by omega, by omega, HR.out, Lib.hid ?_, grown_refl _ _⟩
    rw [show m - I0 = a by omega, show m + J0 = b by omega]
  case round =>
    obtain ⟨I, J, F, rfl, rfl, hI, hJ, hIa, hJb, hrow, HO, hgr⟩ := hrel
    have HG := Lib.hid hgr
    have HW := Lib.hid hrow
    clear hgr hrow HR HI0 HJ0
    have s1 : IntKind.i64.wrap ((m : Int) - (I : Int)) = ((m - I : Nat) : Int) := by rw [IntKind.wrap_i64]; omega
    obtain ⟨M, hM⟩ : ∃ M, M = m - I := ⟨_, rfl⟩
    rw [← hM] at s1
    have HM := Lib.hid hM
    rcases Nat.lt_trichotomy J I with h | h | h
    · have s2 : IntKind.i64.wrap ((I : Int) - (J : Int)) = ((I - J : Nat) : Int) := by rw [IntKind.wrap_i64]; omega
      have hne : ((I : Int) != (J : Int)) = true := by simp; omega
      obtain ⟨K, hK⟩ : ∃ K, K = I - J := ⟨_, rfl⟩
      rw [← hK] at s2
      have HK := Lib.hid hK
      have q1 : M + J ≤ m := by omega
      have q2 : m + J ≤ n := by omega
      clear hK hM
      go_wp2_with (go_at_call 41; refine (swapRange_any g n c M m J cb F _ HW.out q1 q2 hn HC.out).mono ?_; rintro e w' ⟨rfl, hrow, hgr⟩)
      clear s1 s2 q1 q2
      go_roundw
      case rel =>
        have h1 := HM.out
        have h2 := HK.out
        refine ⟨K, J, _, rfl, rfl, by omega, hJ, by omega, hJb, hrow, Lib.hid ?_, grown_trans HG.out hgr⟩
        rw [h2, h1, rot_one m I J F h (by omega)]
        exact HO.out
      case measure => have h2 := HK.out; simp [intOf]; omega
    · subst h
      have hne : ((J : Int) != (J : Int)) = false := by simp
      have q1 : M + J ≤ m := by omega
      have q2 : m + J ≤ n := by omega
      clear hM
      go_wp2_with (go_at_call 41; refine (swapRange_any g n c M m J cb F _ HW.out q1 q2 hn HC.out).mono ?_; rintro e w' ⟨rfl, hrow, hgr⟩)
      go_end0
      refine ⟨rfl, ?_, grown_trans HG.out hgr⟩
      rw [← HO.out, ← rot_three m J F (by omega), ← HM.out]
      exact hrow
    · have s2 : IntKind.i64.wrap ((J : Int) - (I : Int)) = ((J - I : Nat) : Int) := by rw [IntKind.wrap_i64]; omega
      have s3 : IntKind.i64.wrap ((m : Int) + (J : Int)) = (m : Int) + (J : Int) := by rw [IntKind.wrap_i64]; omega
      have s4 : IntKind.i64.wrap ((m : Int) + (J : Int) - (I : Int)) = ((m + J - I : Nat) : Int) := by rw [IntKind.wrap_i64]; omega
      have hne : ((I : Int) != (J : Int)) = true := by simp; omega
      obtain ⟨K, hK⟩ : ∃ K, K = J - I := ⟨_, rfl⟩
      rw [← hK] at s2
      have HK := Lib.hid hK
      obtain ⟨T, hT⟩ : ∃ T, T = m + J - I := ⟨_, rfl⟩
      rw [← hT] at s4
      have HT := Lib.hid hT
      have q1 : M + I ≤ T := by omega
      have q2 : T + I ≤ n := by omega
      clear hK hM hT
      go_wp2_with (go_at_call 41; refine (swapRange_any g n c M T I cb F _ HW.out q1 q2 hn HC.out).mono ?_; rintro e w' ⟨rfl, hrow, hgr⟩)
      clear s1 s2 s3 s4 q1 q2
      go_roundw
      case rel =>
        have h1 := HM.out
        have h2 := HK.out
        have h3 := HT.out
        refine ⟨I, K, _, rfl, rfl, hI, by omega, hIa, by omega, hrow, Lib.hid ?_, grown_trans HG.out hgr⟩
        rw [h2, h1, h3, rot_two m I J F h (by omega)]
        exact HO.out
      case measure => have h2 := HK.out; simp [intOf]; omega
end Go.Proofs.Ythdgkhigekogiaa
