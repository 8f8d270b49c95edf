/-
  The contracts of cmp.isNaN, cmp.Compare and cmp.Less at uint64, and of the function that Order hands to the sort: it compares the buckets of two places.
-/
import Derived.Test.YthdgkhigekogiaaRows
import Derived.Test.YthdgkhigekogiaaGnSort
import Derived.Test.YthdgkhigekogiaaRet
import Derived.Test.YthdgkhigekogiaaAppG
import Derived.WalkKit
import Derived.BigQuiet
import Derived.Deep.QuietTactic
import Derived.Lib.Hide
namespace Go.Proofs.Ythdgkhigekogiaa
open Go.RowKit

/-- A row of numbers, told as a function. -/
def ivl (k : IntKind) (f : Nat → Nat) (i : Nat) : Value := .int k (f i : Int)

def cmp3 (a b : Nat) : Int := if a < b then -1 else if b < a then 1 else 0
theorem cmp3_lt {a b : Nat} : cmp3 a b < 0 ↔ a < b := by
  unfold cmp3
  by_cases h : a < b
  · rw [if_pos h]; omega
  · rw [if_neg h]; split <;> omega

theorem isNaN_any (x : Nat) (w : World) : Calls Try.prog 29 #[.int .u64 (x : Int)] w fun e w' => e = .returned (.bool false) ∧ w = w' := by
  have hx : ((x : Int) != (x : Int)) = false := by simp
  go_enter Try.func29, Try.ntmps29
  go_wp2
  go_ret
  exact ⟨rfl, rfl⟩

theorem compare_any (x y : Nat) (w : World) : Calls Try.prog 15 #[.int .u64 (x : Int), .int .u64 (y : Int)] w fun e w' => e = .returned (.int .i64 (cmp3 x y)) ∧ w = w' := by
  rcases Nat.lt_trichotomy x y with h | h | h
  · have E := Lib.hid (show cmp3 x y = -1 by unfold cmp3; rw [if_pos h])
    go_enter Try.func15, Try.ntmps15
    go_wp2_with (go_at_call 29; refine (isNaN_any _ _).mono ?_; rintro e w' ⟨rfl, rfl⟩)
    go_ret
    exact ⟨by rw [E.out]; rfl, rfl⟩
  · subst h
    have E := Lib.hid (show cmp3 x x = 0 by unfold cmp3; rw [if_neg (by omega), if_neg (by omega)])
    go_enter Try.func15, Try.ntmps15
    go_wp2_with (go_at_call 29; refine (isNaN_any _ _).mono ?_; rintro e w' ⟨rfl, rfl⟩)
    go_ret
    exact ⟨by rw [E.out]; rfl, rfl⟩
  · have E := Lib.hid (show cmp3 x y = 1 by unfold cmp3; rw [if_neg (by omega), if_pos h])
    have h1 : ¬ (x : Int) < (y : Int) := by omega
    go_enter Try.func15, Try.ntmps15
    go_wp2_with (go_at_call 29; refine (isNaN_any _ _).mono ?_; rintro e w' ⟨rfl, rfl⟩)
    go_ret
    exact ⟨by rw [E.out]; rfl, rfl⟩

theorem less_any (x y : Nat) (w : World) : Calls Try.prog 31 #[.int .u64 (x : Int), .int .u64 (y : Int)] w fun e w' => e = .returned (.bool (decide (x < y))) ∧ w = w' := by
  by_cases h : x < y
  · have E := Lib.hid (show decide (x < y) = true from decide_eq_true h)
    go_enter Try.func31, Try.ntmps31
    go_wp2_with (go_at_call 29; refine (isNaN_any _ _).mono ?_; rintro e w' ⟨rfl, rfl⟩)
    go_ret
    exact ⟨by rw [E.out]; rfl, rfl⟩
  · have E := Lib.hid (show decide (x < y) = false from decide_eq_false h)
    have h1 : decide ((x : Int) < (y : Int)) = false := decide_eq_false (by omega)
    go_enter Try.func31, Try.ntmps31
    go_wp2_with (go_at_call 29; refine (isNaN_any _ _).mono ?_; rintro e w' ⟨rfl, rfl⟩)
    go_ret
    exact ⟨by rw [E.out]; rfl, rfl⟩

/-- The function that is handed to the sort. -/
def cmpF (gb : Nat) : Value := .func (.func 14) #[] #[.pointer (some ⟨gb, 0, none⟩)]

/-- It compares the keys of two places. -/
def CmpAt (gb N : Nat) (key : Nat → Nat) (W : World) : Prop := ∀ x y : Nat, x < N → y < N → ∀ m : Nat,
  Calls Try.prog 14 #[.int .i64 (x : Int), .int .i64 (y : Int), .pointer (some ⟨gb, 0, none⟩)] (W.drewN m) fun e w' => e = .returned (.int .i64 (cmp3 (key x) (key y))) ∧ ∃ q, w' = (W.drewN m).drewN q

theorem cmp_any (gb gi N c : Nat) (key : Nat → Nat) (x y : Nat) (w : World) (hb : w.cell? ⟨gb, 0, none⟩ = some (.slice (some ⟨gi, 0, none⟩) N c)) (hr : w.rowIs gi 43 N (ivl .u64 key)) (hx : x < N) (hy : y < N) :
    Calls Try.prog 14 #[.int .i64 (x : Int), .int .i64 (y : Int), .pointer (some ⟨gb, 0, none⟩)] w fun e w' => e = .returned (.int .i64 (cmp3 (key x) (key y))) ∧ ∃ q, w' = w.drewN q := by
  have q1 : w.cell? ⟨gi, x, none⟩ = some (.int .u64 (key x : Int)) := hr.cell hx
  have q2 : w.cell? ⟨gi, y, none⟩ = some (.int .u64 (key y : Int)) := hr.cell hy
  clear hr
  generalize key x = a at q1 ⊢
  generalize key y = b at q2 ⊢
  go_enter Try.func14, Try.ntmps14
  go_wp2_with fail
  go_quiet ((go_at_call 15; exact Calls.quiet_of_same ((compare_any a b _).mono fun _ _ hh => ⟨hh.1, hh.2.symm⟩)))
  go_wp2
  go_ret
  exact ⟨rfl, _, rfl⟩

/-- What is beside the row that is sorted stays, and so it does at each step. -/
theorem CmpAt.of {gb gi g N c : Nat} {key : Nat → Nat} {w : World} (hb : w.cell? ⟨gb, 0, none⟩ = some (.slice (some ⟨gi, 0, none⟩) N c)) (hr : w.rowIs gi 43 N (ivl .u64 key)) (h1 : gb ≠ g) (h2 : gi ≠ g) (hl : gb < w.heap.size) :
    ∀ W, w.grownBy W (some g) → CmpAt gb N key W := fun W hg x y hx hy m => by
  refine cmp_any gb gi N c key x y (W.drewN m) ?_ ?_ hx hy
  · have e : W.heap[gb]? = w.heap[gb]? := hg.block gb hl (by simp; exact h1)
    have : W.cell? ⟨gb, 0, none⟩ = w.cell? ⟨gb, 0, none⟩ := by simp only [World.cell?, e]
    exact this.trans hb
  · have : W.rowIs gi 43 N (ivl .u64 key) := hr.of_block (hg.block gi hr.lt (by simp; exact h2))
    exact this
end Go.Proofs.Ythdgkhigekogiaa
