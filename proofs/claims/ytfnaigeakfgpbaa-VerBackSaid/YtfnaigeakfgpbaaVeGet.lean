/-
  The contracts of what ver reads bytes by: a number at a place, how many parts, the first, the next, whether bytes are there.
-/
import Derived.Test.YtfnaigeakfgpbaaRows
import Derived.Test.YtfnaigeakfgpbaaRet
import Derived.Test.YtfnaigeakfgpbaaVeMath
import Derived.Test.YtfnaigeakfgpbaaConv
import Derived.Test.YtfnaigeakfgpbaaWireGet
import Derived.WalkKit
import Derived.BigQuiet
import Derived.Deep.QuietTactic
import Derived.Lib.Hide
namespace Go.Proofs.Ytfnaigeakfgpbaa
open Go.RowKit

/-- wire.Get where a number stands. -/
theorem wget_at (A : Option Addr) (n c : Nat) (l : List UInt8) (q wd : Nat) (big : Bool) (w : World) (h : RB w w.heap.size A n c l) (hq : q + wd ≤ n) (hw : wd = 2 ∨ wd = 4) :
    Calls Try.prog 48 #[.slice A n c, .int .u64 q, .int .i64 wd, .bool big] w fun e w' => e = .returned (.tuple #[.int .u64 (vG l big q wd : Nat), .bool true]) ∧ Grow w w' := by
  have hn := h.len
  have hg : gotB l q wd = true := by
    rcases hw with rfl | rfl
    all_goals
      simp only [gotB, wthn]
      exact decide_eq_true (by omega)
  have hv : gotV l q wd big = vG l big q wd := by simp only [gotV, hg, if_true, Int.toNat_natCast, vG]
  refine (get_any A n c l _ q wd big w h (by omega)).mono fun e w2 ⟨he, m, hw⟩ => ?_
  rw [hg, hv] at he
  exact ⟨he, by rw [hw]; exact Grow.of_drewN _ _⟩

theorem vget_any (A : Option Addr) (n c : Nat) (l : List UInt8) (q wd : Nat) (big : Bool) (w : World) (h : RB w w.heap.size A n c l) (hq : q + wd ≤ n) (hw : wd = 2 ∨ wd = 4) :
    Calls Try.prog 39 #[.agg #[.slice A n c, .bool big], .int .u64 q, .int .i64 wd] w fun e w' => e = .returned (.int .u64 (vG l big q wd : Nat)) ∧ Grow w w' := by
  have HG := Lib.hid fun w' (hg : Grow w w') => wget_at A n c l q wd big w' ((h.belowAt hg (Nat.le_refl _)).more hg.size) hq hw
  generalize vG l big q wd = v at HG ⊢
  clear hq hw h
  go_enter Try.func39, Try.ntmps39
  go_wp2_with fail
  refine (HG.out _ (Grow.of_alloc _ _)).mono ?_
  rintro e w2 ⟨rfl, hg2⟩
  have HG2 : Hid (Grow w w2) := (Grow.of_alloc _ _).trans hg2
  clear hg2 HG
  go_wp2
  go_ret
  exact ⟨rfl, HG2.out⟩

/-- The shape of a kind, as a value. -/
def shV (K : VK) : Value := .agg #[.int .u64 (K.S : Int), .int .u64 (K.z : Int), .int .u64 (K.cp : Int)]

theorem vcount_any (A : Option Addr) (n c : Nat) (l : List UInt8) (a S z cp : Nat) (big : Bool) (w : World) (h : RB w w.heap.size A n c l) (hq : a + cp + 2 ≤ n) :
    Calls Try.prog 46 #[.agg #[.slice A n c, .bool big], .int .u64 a, .agg #[.int .u64 S, .int .u64 z, .int .u64 cp]] w fun e w' => e = .returned (.int .u64 (vG l big (a + cp) 2 : Nat)) ∧ Grow w w' := by
  have hmx := h.max
  have hcp := h.cap
  unfold maxLen at hmx
  have HG := Lib.hid fun w' (hg : Grow w w') => vget_any A n c l (a + cp) 2 big w' ((h.belowAt hg (Nat.le_refl _)).more hg.size) (by omega) (.inl rfl)
  generalize vG l big (a + cp) 2 = v at HG ⊢
  have z1 : IntKind.u64.wrap ((a : Int) + (cp : Int)) = ((a + cp : Nat) : Int) := by rw [IntKind.wrap_u64]; omega
  clear hq h hmx hcp
  go_enter Try.func46, Try.ntmps46
  go_wp2_with fail
  refine (HG.out _ ((Grow.of_alloc _ _).trans (Grow.of_alloc _ _))).mono ?_
  rintro e w2 ⟨rfl, hg2⟩
  have HG2 : Hid (Grow w w2) := ((Grow.of_alloc _ _).trans (Grow.of_alloc _ _)).trans hg2
  clear hg2 HG
  go_wp2
  go_ret
  exact ⟨rfl, HG2.out⟩

theorem vfirst_any (A : Option Addr) (n c : Nat) (l : List UInt8) (a S z cp : Nat) (big : Bool) (w : World) (h : RB w w.heap.size A n c l) (hS : 8 ≤ S) (hq : a + S ≤ n) :
    Calls Try.prog 47 #[.agg #[.slice A n c, .bool big], .int .u64 a, .agg #[.int .u64 S, .int .u64 z, .int .u64 cp]] w fun e w' => e = .returned (.int .u64 (vG l big (a + (S - 8)) 4 : Nat)) ∧ Grow w w' := by
  have hmx := h.max
  have hcp := h.cap
  unfold maxLen at hmx
  have HG := Lib.hid fun w' (hg : Grow w w') => vget_any A n c l (a + (S - 8)) 4 big w' ((h.belowAt hg (Nat.le_refl _)).more hg.size) (by omega) (.inr rfl)
  generalize vG l big (a + (S - 8)) 4 = v at HG ⊢
  have z1 : IntKind.u64.wrap ((a : Int) + (S : Int)) = ((a + S : Nat) : Int) := by rw [IntKind.wrap_u64]; omega
  have z2 : IntKind.u64.wrap (((a + S : Nat) : Int) - 8) = ((a + (S - 8) : Nat) : Int) := by rw [IntKind.wrap_u64]; omega
  have z3 : IntKind.u64.wrap ((a : Int) + (S : Int) - 8) = ((a + (S - 8) : Nat) : Int) := by rw [IntKind.wrap_u64]; omega
  generalize a + (S - 8) = q at *
  clear hq h hmx hcp hS
  go_enter Try.func47, Try.ntmps47
  go_wp2_with fail
  refine (HG.out _ ((Grow.of_alloc _ _).trans (Grow.of_alloc _ _))).mono ?_
  rintro e w2 ⟨rfl, hg2⟩
  have HG2 : Hid (Grow w w2) := ((Grow.of_alloc _ _).trans (Grow.of_alloc _ _)).trans hg2
  clear hg2 HG
  go_wp2
  go_ret
  exact ⟨rfl, HG2.out⟩

theorem vnext_any (A : Option Addr) (n c : Nat) (l : List UInt8) (a S : Nat) (big : Bool) (w : World) (h : RB w w.heap.size A n c l) (hS : 4 ≤ S) (hq : a + S ≤ n) :
    Calls Try.prog 38 #[.agg #[.slice A n c, .bool big], .int .u64 a, .int .u64 S] w fun e w' => e = .returned (.int .u64 (vG l big (a + (S - 4)) 4 : Nat)) ∧ Grow w w' := by
  have hmx := h.max
  have hcp := h.cap
  unfold maxLen at hmx
  have HG := Lib.hid fun w' (hg : Grow w w') => vget_any A n c l (a + (S - 4)) 4 big w' ((h.belowAt hg (Nat.le_refl _)).more hg.size) (by omega) (.inr rfl)
  generalize vG l big (a + (S - 4)) 4 = v at HG ⊢
  have z1 : IntKind.u64.wrap ((a : Int) + (S : Int)) = ((a + S : Nat) : Int) := by rw [IntKind.wrap_u64]; omega
  have z2 : IntKind.u64.wrap (((a + S : Nat) : Int) - 4) = ((a + (S - 4) : Nat) : Int) := by rw [IntKind.wrap_u64]; omega
  have z3 : IntKind.u64.wrap ((a : Int) + (S : Int) - 4) = ((a + (S - 4) : Nat) : Int) := by rw [IntKind.wrap_u64]; omega
  generalize a + (S - 4) = q at *
  clear hq h hmx hcp hS
  go_enter Try.func38, Try.ntmps38
  go_wp2_with fail
  refine (HG.out _ (Grow.of_alloc _ _)).mono ?_
  rintro e w2 ⟨rfl, hg2⟩
  have HG2 : Hid (Grow w w2) := (Grow.of_alloc _ _).trans hg2
  clear hg2 HG
  go_wp2
  go_ret
  exact ⟨rfl, HG2.out⟩

theorem vhas_any (A : Option Addr) (n c : Nat) (l : List UInt8) (a S : Nat) (big : Bool) (w : World) (h : RB w w.heap.size A n c l) :
    Calls Try.prog 34 #[.agg #[.slice A n c, .bool big], .int .u64 a, .int .u64 S] w fun e w' => e = .returned (.bool (decide (a + S ≤ n))) ∧ Grow w w' := by
  have hmx := h.max
  have hcp := h.cap
  unfold maxLen at hmx
  have HG := Lib.hid fun w' => within_any a S n w' (by omega) (by omega) (by omega)
  have HB : Hid (wthn a S n = decide (a + S ≤ n)) := Lib.hid (by
    unfold wthn
    rw [Bool.eq_iff_iff, decide_eq_true_iff, decide_eq_true_iff]; omega)
  have z1 : IntKind.u64.wrap (n : Int) = (n : Int) := by rw [IntKind.wrap_u64]; omega
  clear h hmx hcp
  generalize wthn a S n = b at HG HB
  generalize decide (a + S ≤ n) = b' at HB ⊢
  go_enter Try.func34, Try.ntmps34
  go_wp2_with fail
  refine (HG.out _).mono ?_
  rintro e w2 ⟨rfl, rfl⟩
  go_wp2
  go_ret
  exact ⟨by rw [HB.out]; rfl, Grow.of_alloc _ _⟩
end Go.Proofs.Ytfnaigeakfgpbaa
