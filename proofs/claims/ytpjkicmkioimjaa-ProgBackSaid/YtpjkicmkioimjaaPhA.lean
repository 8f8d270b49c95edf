/-
  Plain answers of layer 5, and the contracts of prog.Size, width, order, numbers, header.
-/
import Derived.Test.YtpjkicmkioimjaaRows
import Derived.Test.YtpjkicmkioimjaaRet
import Derived.Test.YtpjkicmkioimjaaForm
import Derived.Test.YtpjkicmkioimjaaWirePut
import Derived.WalkKit
import Derived.Laws.ResultCell
import Derived.Lib.Hide
namespace Go.Proofs.Ytpjkicmkioimjaa
open Go.RowKit

/-- A program header. -/
structure Pg where
  ty : Nat
  fl : Nat
  off : Nat
  va : Nat
  pa : Nat
  fs : Nat
  ms : Nat
  al : Nat
/-- Its fields have the sizes of their types. -/
structure Pg.Ok (p : Pg) : Prop where
  ty : p.ty < 4294967296
  fl : p.fl < 4294967296
  off : p.off < 18446744073709551616
  va : p.va < 18446744073709551616
  pa : p.pa < 18446744073709551616
  fs : p.fs < 18446744073709551616
  ms : p.ms < 18446744073709551616
  al : p.al < 18446744073709551616

def Pg.C (p : Pg) : Array Value := #[.int .u32 (p.ty : Int), .int .u32 (p.fl : Int), .int .u64 (p.off : Int), .int .u64 (p.va : Int), .int .u64 (p.pa : Int), .int .u64 (p.fs : Int), .int .u64 (p.ms : Int), .int .u64 (p.al : Int)]
def Pg.V (p : Pg) : Value := .agg p.C
def pg0 : Pg := ⟨0, 0, 0, 0, 0, 0, 0, 0⟩
/-- Its numbers, as they are named. -/
def Pg.N (p : Pg) : List Nat := [p.ty, p.fl, p.off, p.va, p.pa, p.fs, p.ms, p.al]
/-- How many bytes it has. -/
def pSize (wide : Bool) : Nat := byWide wide 32 56
/-- Which numbers stand behind one another. -/
def pOrd (wide : Bool) : List Nat := if wide then [0, 1, 2, 3, 4, 5, 6, 7] else [0, 2, 3, 4, 5, 6, 1, 7]
/-- How many bytes a number has. -/
def pWid (wide : Bool) (i : Nat) : Nat := if wide && ((i : Int) != 0) && ((i : Int) != 1) then 8 else 4
def pRow (wide : Bool) : List Nat := (pOrd wide).map (pWid wide)
theorem Pg.one (p : Pg) : p.C.all (·.oneCell') = true := by simp [Pg.C, Value.oneCell']
theorem len_pOrd (wide : Bool) : (pOrd wide).length = 8 := by cases wide <;> rfl
theorem len_pRow (wide : Bool) : (pRow wide).length = 8 := by cases wide <;> rfl
theorem sum_pRow (wide : Bool) : sumN (pRow wide) = pSize wide := by cases wide <;> rfl
theorem pOrd_lt (wide : Bool) (k : Nat) (h : k < 8) : (pOrd wide).getD k 0 < 8 := by
  cases wide <;> (match k, h with
    | 0, _ => decide
    | 1, _ => decide
    | 2, _ => decide
    | 3, _ => decide
    | 4, _ => decide
    | 5, _ => decide
    | 6, _ => decide
    | 7, _ => decide)
theorem pWid_wid (wide : Bool) (i : Nat) : wid (pWid wide i : Nat) = true := by
  unfold pWid
  split <;> rfl

theorem pSize_any (wide big : Bool) (w : World) : Calls Try.prog 12 #[.agg #[.bool wide, .bool big]] w fun e w' => e = .returned (.int .i64 (pSize wide : Nat)) ∧ Grow w w' := by
  cases wide
  · go_enter Try.func12, Try.ntmps12
    go_wp2
    go_ret
    exact ⟨rfl, Grow.of_alloc _ _⟩
  · go_enter Try.func12, Try.ntmps12
    go_wp2
    go_ret
    exact ⟨rfl, Grow.of_alloc _ _⟩

theorem pWid_any (wide big : Bool) (i : Nat) (w : World) : Calls Try.prog 15 #[.int .i64 i, .agg #[.bool wide, .bool big]] w fun e w' => e = .returned (.int .i64 (pWid wide i : Nat)) ∧ Grow w w' := by
  unfold pWid
  cases wide
  · go_enter Try.func15, Try.ntmps15
    go_wp2
    go_ret
    exact ⟨rfl, Grow.of_alloc _ _⟩
  · cases h0 : ((i : Int) != 0)
    · go_enter Try.func15, Try.ntmps15
      go_wp2
      go_ret
      exact ⟨rfl, Grow.of_alloc _ _⟩
    · cases h1 : ((i : Int) != 1)
      · go_enter Try.func15, Try.ntmps15
        go_wp2
        go_ret
        exact ⟨rfl, Grow.of_alloc _ _⟩
      · go_enter Try.func15, Try.ntmps15
        go_wp2
        go_ret
        exact ⟨rfl, Grow.of_alloc _ _⟩

theorem pOrd_any (wide big : Bool) (w : World) : Calls Try.prog 14 #[.agg #[.bool wide, .bool big]] w fun e w' => e = .returned (.agg (i64s (pOrd wide))) ∧ Grow w w' := by
  cases wide
  · go_enter Try.func14, Try.ntmps14
    go_wp2_with (refine wpList_store_row rfl 47 (.tmp 2) (.tmp 6) rfl (w.heap.size + 1) (i64s (pOrd false)) rfl rfl _ _ (blk2 rfl).2.1 (by kernel_rfl) rfl (one_i64s _) ?_)
    refine bodyPost_ret (results_cell_row (cs := i64s (pOrd false)) rfl _ _ (w.heap.size + 1) _ (0, 0) _ rfl ((blk2 rfl).2.1.set _) Try.underlying47 rfl (by kernel_rfl)) rfl ?_
    exact ⟨rfl, Grow.set (blk2 rfl).2.2 (Nat.le_succ _) _⟩
  · go_enter Try.func14, Try.ntmps14
    go_wp2_with (refine wpList_store_row rfl 47 (.tmp 2) (.tmp 5) rfl (w.heap.size + 1) (i64s (pOrd true)) rfl rfl _ _ (blk2 rfl).2.1 (by kernel_rfl) rfl (one_i64s _) ?_)
    refine bodyPost_ret (results_cell_row (cs := i64s (pOrd true)) rfl _ _ (w.heap.size + 1) _ (0, 0) _ rfl ((blk2 rfl).2.1.set _) Try.underlying47 rfl (by kernel_rfl)) rfl ?_
    exact ⟨rfl, Grow.set (blk2 rfl).2.2 (Nat.le_succ _) _⟩

theorem pNum_any (p : Pg) (ok : p.Ok) (w : World) : Calls Try.prog 13 #[p.V] w fun e w' => e = .returned (.agg (u64s p.N)) ∧ Grow w w' := by
  obtain ⟨ty, fl, off, va, pa, fs, ms, al⟩ := p
  obtain ⟨k1, k2, k3, k4, k5, k6, k7, k8⟩ := ok
  unfold Pg.V Pg.C
  simp only [] at *
  have z1 : IntKind.u64.wrap (ty : Int) = (ty : Int) := by rw [IntKind.wrap_u64]; omega
  have z2 : IntKind.u64.wrap (fl : Int) = (fl : Int) := by rw [IntKind.wrap_u64]; omega
  clear k1 k2 k3 k4 k5 k6 k7 k8
  go_enter Try.func13, Try.ntmps13
  go_wp2_with (refine wpList_store_row rfl 45 (.tmp 2) (.tmp 21) rfl (w.heap.size + 1) (u64s (Pg.N ⟨ty, fl, off, va, pa, fs, ms, al⟩)) rfl rfl _ _ (blk2 rfl).2.1 (by kernel_rfl) rfl (one_u64s _) ?_)
  refine bodyPost_ret (results_cell_row (cs := u64s (Pg.N ⟨ty, fl, off, va, pa, fs, ms, al⟩)) rfl _ _ (w.heap.size + 1) _ (0, 0) _ rfl ((blk2 rfl).2.1.set _) Try.underlying45 rfl (by kernel_rfl)) rfl ?_
  exact ⟨rfl, Grow.set (blk2 rfl).2.2 (Nat.le_succ _) _⟩

theorem pHdr_any (x0 x1 x2 x3 x4 x5 x6 x7 : Nat) (w : World) (k0 : x0 < 4294967296) (k1 : x1 < 4294967296) :
    Calls Try.prog 21 #[.agg (u64s [x0, x1, x2, x3, x4, x5, x6, x7])] w fun e w' => e = .returned (Pg.V ⟨x0, x1, x2, x3, x4, x5, x6, x7⟩) ∧ Grow w w' := by
  have z0 : IntKind.u32.wrap (x0 : Int) = (x0 : Int) := by rw [IntKind.wrap_u32]; omega
  have z1 : IntKind.u32.wrap (x1 : Int) = (x1 : Int) := by rw [IntKind.wrap_u32]; omega
  clear k0 k1
  unfold u64s
  simp only [List.map_cons, List.map_nil]
  go_enter Try.func21, Try.ntmps21
  go_wp2_with (refine wpList_store_row rfl 25 (.tmp 2) (.tmp 21) rfl (w.heap.size + 1) (Pg.C ⟨x0, x1, x2, x3, x4, x5, x6, x7⟩) rfl rfl _ _ (blk2 rfl).2.1 (by kernel_rfl) rfl (Pg.one _) ?_)
  refine bodyPost_ret (results_cell_row (cs := Pg.C ⟨x0, x1, x2, x3, x4, x5, x6, x7⟩) rfl _ _ (w.heap.size + 1) _ (0, 0) _ rfl ((blk2 rfl).2.1.set _) Try.underlying25 rfl (by kernel_rfl)) rfl ?_
  exact ⟨rfl, Grow.set (blk2 rfl).2.2 (Nat.le_succ _) _⟩
end Go.Proofs.Ytpjkicmkioimjaa
