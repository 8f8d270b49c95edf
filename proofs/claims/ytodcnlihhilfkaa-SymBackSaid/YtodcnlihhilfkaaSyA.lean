/-
  The contracts of sym.whole, order, width, numbers, symbol, and of the document's own symRow.
-/
import Derived.Test.YtodcnlihhilfkaaRows
import Derived.Test.YtodcnlihhilfkaaRet
import Derived.Test.YtodcnlihhilfkaaSyMath
import Derived.Test.YtodcnlihhilfkaaWirePut
import Derived.WalkKit
import Derived.Laws.ResultCell
import Derived.Lib.Hide
namespace Go.Proofs.Ytodcnlihhilfkaa
open Go.RowKit

theorem yWid_wid (wide : Bool) (i : Nat) : wid (yWid wide i : Nat) = true := by
  unfold yWid
  split
  · rfl
  · split
    · rfl
    · split
      · rfl
      · cases wide <;> rfl

theorem ySize_any (wide big : Bool) (w : World) : Calls Try.prog 15 #[.agg #[.bool wide, .bool big]] w fun e w' => e = .returned (.int .i64 (ySize wide : Nat)) ∧ Grow w w' := by
  cases wide
  · go_enter Try.func15, Try.ntmps15
    go_wp2
    go_ret
    exact ⟨rfl, Grow.of_alloc _ _⟩
  · go_enter Try.func15, Try.ntmps15
    go_wp2
    go_ret
    exact ⟨rfl, Grow.of_alloc _ _⟩

theorem yWid_any (wide big : Bool) (i : Nat) (w : World) : Calls Try.prog 18 #[.int .i64 i, .agg #[.bool wide, .bool big]] w fun e w' => e = .returned (.int .i64 (yWid wide i : Nat)) ∧ Grow w w' := by
  unfold yWid
  cases h1 : ((i : Int) == 1)
  · cases h2 : ((i : Int) == 2)
    · cases h3 : ((i : Int) == 3)
      · cases h0 : ((i : Int) == 0)
        · cases wide
          · go_enter Try.func18, Try.ntmps18
            go_wp2
            go_ret
            exact ⟨rfl, Grow.of_alloc _ _⟩
          · go_enter Try.func18, Try.ntmps18
            go_wp2
            go_ret
            exact ⟨rfl, Grow.of_alloc _ _⟩
        · go_enter Try.func18, Try.ntmps18
          go_wp2
          go_ret
          exact ⟨rfl, Grow.of_alloc _ _⟩
      · go_enter Try.func18, Try.ntmps18
        go_wp2
        go_ret
        exact ⟨rfl, Grow.of_alloc _ _⟩
    · go_enter Try.func18, Try.ntmps18
      go_wp2
      go_ret
      exact ⟨rfl, Grow.of_alloc _ _⟩
  · go_enter Try.func18, Try.ntmps18
    go_wp2
    go_ret
    exact ⟨rfl, Grow.of_alloc _ _⟩

theorem yOrd_any (wide big : Bool) (w : World) : Calls Try.prog 17 #[.agg #[.bool wide, .bool big]] w fun e w' => e = .returned (.agg (i64s (yOrd wide))) ∧ Grow w w' := by
  cases wide
  · go_enter Try.func17, Try.ntmps17
    go_wp2_with (refine wpList_store_row rfl 53 (.tmp 2) (.tmp 6) rfl (w.heap.size + 1) (i64s (yOrd false)) rfl rfl _ _ (blk2 rfl).2.1 (by kernel_rfl) rfl (one_i64s _) ?_)
    refine bodyPost_ret (results_cell_row (cs := i64s (yOrd false)) rfl _ _ (w.heap.size + 1) _ (0, 0) _ rfl ((blk2 rfl).2.1.set _) Try.underlying53 rfl (by kernel_rfl)) rfl ?_
    exact ⟨rfl, Grow.set (blk2 rfl).2.2 (Nat.le_succ _) _⟩
  · go_enter Try.func17, Try.ntmps17
    go_wp2_with (refine wpList_store_row rfl 53 (.tmp 2) (.tmp 5) rfl (w.heap.size + 1) (i64s (yOrd true)) rfl rfl _ _ (blk2 rfl).2.1 (by kernel_rfl) rfl (one_i64s _) ?_)
    refine bodyPost_ret (results_cell_row (cs := i64s (yOrd true)) rfl _ _ (w.heap.size + 1) _ (0, 0) _ rfl ((blk2 rfl).2.1.set _) Try.underlying53 rfl (by kernel_rfl)) rfl ?_
    exact ⟨rfl, Grow.set (blk2 rfl).2.2 (Nat.le_succ _) _⟩

theorem yNum_any (p : Sy) (ok : p.Ok) (w : World) : Calls Try.prog 16 #[p.V] w fun e w' => e = .returned (.agg (u64s p.N)) ∧ Grow w w' := by
  obtain ⟨na, inf, oth, shn, val, siz⟩ := p
  obtain ⟨k1, k2, k3, k4, k5, k6⟩ := ok
  unfold Sy.V Sy.C
  simp only [] at *
  have z1 : IntKind.u64.wrap (na : Int) = (na : Int) := by rw [IntKind.wrap_u64]; omega
  have z2 : IntKind.u64.wrap (inf : Int) = (inf : Int) := by rw [IntKind.wrap_u64]; omega
  have z3 : IntKind.u64.wrap (oth : Int) = (oth : Int) := by rw [IntKind.wrap_u64]; omega
  have z4 : IntKind.u64.wrap (shn : Int) = (shn : Int) := by rw [IntKind.wrap_u64]; omega
  clear k1 k2 k3 k4 k5 k6
  go_enter Try.func16, Try.ntmps16
  go_wp2_with (refine wpList_store_row rfl 51 (.tmp 2) (.tmp 19) rfl (w.heap.size + 1) (u64s (Sy.N ⟨na, inf, oth, shn, val, siz⟩)) rfl rfl _ _ (blk2 rfl).2.1 (by kernel_rfl) rfl (one_u64s _) ?_)
  refine bodyPost_ret (results_cell_row (cs := u64s (Sy.N ⟨na, inf, oth, shn, val, siz⟩)) rfl _ _ (w.heap.size + 1) _ (0, 0) _ rfl ((blk2 rfl).2.1.set _) Try.underlying51 rfl (by kernel_rfl)) rfl ?_
  exact ⟨rfl, Grow.set (blk2 rfl).2.2 (Nat.le_succ _) _⟩

theorem ySym_any (x0 x1 x2 x3 x4 x5 : Nat) (w : World) (k0 : x0 < 4294967296) (k1 : x1 < 256) (k2 : x2 < 256) (k3 : x3 < 65536) :
    Calls Try.prog 32 #[.agg (u64s [x0, x1, x2, x3, x4, x5])] w fun e w' => e = .returned (Sy.V ⟨x0, x1, x2, x3, x4, x5⟩) ∧ Grow w w' := by
  have z0 : IntKind.u32.wrap (x0 : Int) = (x0 : Int) := by rw [IntKind.wrap_u32]; omega
  have z1 : IntKind.u8.wrap (x1 : Int) = (x1 : Int) := by rw [IntKind.wrap_u8]; omega
  have z2 : IntKind.u8.wrap (x2 : Int) = (x2 : Int) := by rw [IntKind.wrap_u8]; omega
  have z3 : IntKind.u16.wrap (x3 : Int) = (x3 : Int) := by rw [IntKind.wrap_u16]; omega
  clear k0 k1 k2 k3
  unfold u64s
  simp only [List.map_cons, List.map_nil]
  go_enter Try.func32, Try.ntmps32
  go_wp2_with (refine wpList_store_row rfl 49 (.tmp 2) (.tmp 19) rfl (w.heap.size + 1) (Sy.C ⟨x0, x1, x2, x3, x4, x5⟩) rfl rfl _ _ (blk2 rfl).2.1 (by kernel_rfl) rfl (Sy.one _) ?_)
  refine bodyPost_ret (results_cell_row (cs := Sy.C ⟨x0, x1, x2, x3, x4, x5⟩) rfl _ _ (w.heap.size + 1) _ (0, 0) _ rfl ((blk2 rfl).2.1.set _) Try.underlying49 rfl (by kernel_rfl)) rfl ?_
  exact ⟨rfl, Grow.set (blk2 rfl).2.2 (Nat.le_succ _) _⟩

theorem symRow_any (wide big : Bool) (w : World) : Calls Try.prog 22 #[.agg #[.bool wide, .bool big]] w fun e w' =>
    ∃ g, e = .returned (.slice (some ⟨g, 0, none⟩) 6 6) ∧ Blk w' g 3 (i64s (yRow wide)) ∧ w.heap.size ≤ g ∧ Grow w w' := by
  cases wide
  · go_enter Try.func22, Try.ntmps22
    go_wp2
    go_ret
    exact ⟨w.heap.size + 1, rfl, (blk2 rfl).2.1, Nat.le_succ _, (Grow.of_alloc _ _).trans (Grow.of_alloc _ _)⟩
  · go_enter Try.func22, Try.ntmps22
    go_wp2
    go_ret
    exact ⟨w.heap.size + 1, rfl, (blk2 rfl).2.1, Nat.le_succ _, (Grow.of_alloc _ _).trans (Grow.of_alloc _ _)⟩
end Go.Proofs.Ytodcnlihhilfkaa
