/-
  Plain answers of layer 6, and the contracts of sect.Size, width, numbers, header.
-/
import Derived.Test.YtfahaefpglnlbaaRows
import Derived.Test.YtfahaefpglnlbaaRet
import Derived.Test.YtfahaefpglnlbaaForm
import Derived.Test.YtfahaefpglnlbaaWirePut
import Derived.WalkKit
import Derived.Laws.ResultCell
import Derived.Lib.Hide
namespace Go.Proofs.Ytfahaefpglnlbaa
open Go.RowKit

/-- A section header. -/
structure Sc where
  na : Nat
  ty : Nat
  fl : Nat
  ad : Nat
  off : Nat
  sz : Nat
  li : Nat
  inf : Nat
  al : Nat
  en : Nat
/-- Its fields have the sizes of their types. -/
structure Sc.Ok (p : Sc) : Prop where
  na : p.na < 4294967296
  ty : p.ty < 4294967296
  fl : p.fl < 18446744073709551616
  ad : p.ad < 18446744073709551616
  off : p.off < 18446744073709551616
  sz : p.sz < 18446744073709551616
  li : p.li < 4294967296
  inf : p.inf < 4294967296
  al : p.al < 18446744073709551616
  en : p.en < 18446744073709551616

def Sc.C (p : Sc) : Array Value := #[.int .u32 (p.na : Int), .int .u32 (p.ty : Int), .int .u64 (p.fl : Int), .int .u64 (p.ad : Int), .int .u64 (p.off : Int), .int .u64 (p.sz : Int), .int .u32 (p.li : Int), .int .u32 (p.inf : Int), .int .u64 (p.al : Int), .int .u64 (p.en : Int)]
def Sc.V (p : Sc) : Value := .agg p.C
def sc0 : Sc := ⟨0, 0, 0, 0, 0, 0, 0, 0, 0, 0⟩
/-- Its numbers, in their order. -/
def Sc.N (p : Sc) : List Nat := [p.na, p.ty, p.fl, p.ad, p.off, p.sz, p.li, p.inf, p.al, p.en]
/-- How many bytes it has. -/
def sSize (wide : Bool) : Nat := byWide wide 40 64
/-- How many bytes a number has. -/
def sWid (wide : Bool) (i : Nat) : Nat := if ((i : Int) == 0) || ((i : Int) == 1) || ((i : Int) == 6) || ((i : Int) == 7) then 4 else byWide wide 4 8
def sRow (wide : Bool) : List Nat := [4, 4, byWide wide 4 8, byWide wide 4 8, byWide wide 4 8, byWide wide 4 8, 4, 4, byWide wide 4 8, byWide wide 4 8]
theorem Sc.one (p : Sc) : p.C.all (·.oneCell') = true := by simp [Sc.C, Value.oneCell']
theorem len_sRow (wide : Bool) : (sRow wide).length = 10 := by cases wide <;> rfl
theorem sum_sRow (wide : Bool) : sumN (sRow wide) = sSize wide := by cases wide <;> rfl
theorem sRow_at (wide : Bool) (k : Nat) (h : k < 10) : (sRow wide).getD k 0 = sWid wide k := by
  cases wide <;> (match k, h with
    | 0, _ => rfl
    | 1, _ => rfl
    | 2, _ => rfl
    | 3, _ => rfl
    | 4, _ => rfl
    | 5, _ => rfl
    | 6, _ => rfl
    | 7, _ => rfl
    | 8, _ => rfl
    | 9, _ => rfl)
theorem sWid_wid (wide : Bool) (i : Nat) : wid (sWid wide i : Nat) = true := by
  unfold sWid
  split
  · rfl
  · cases wide <;> rfl

theorem sSize_any (wide big : Bool) (w : World) : Calls Try.prog 12 #[.agg #[.bool wide, .bool big]] w fun e w' => e = .returned (.int .i64 (sSize wide : Nat)) ∧ Grow w w' := by
  cases wide
  · go_enter Try.func12, Try.ntmps12
    go_wp2
    go_ret
    exact ⟨rfl, Grow.of_alloc _ _⟩
  · go_enter Try.func12, Try.ntmps12
    go_wp2
    go_ret
    exact ⟨rfl, Grow.of_alloc _ _⟩

theorem sWid_any (wide big : Bool) (i : Nat) (w : World) : Calls Try.prog 14 #[.int .i64 i, .agg #[.bool wide, .bool big]] w fun e w' => e = .returned (.int .i64 (sWid wide i : Nat)) ∧ Grow w w' := by
  unfold sWid
  cases h0 : ((i : Int) == 0)
  · cases h1 : ((i : Int) == 1)
    · cases h6 : ((i : Int) == 6)
      · cases h7 : ((i : Int) == 7)
        · cases wide
          · go_enter Try.func14, Try.ntmps14
            go_wp2
            go_ret
            exact ⟨rfl, Grow.of_alloc _ _⟩
          · go_enter Try.func14, Try.ntmps14
            go_wp2
            go_ret
            exact ⟨rfl, Grow.of_alloc _ _⟩
        · go_enter Try.func14, Try.ntmps14
          go_wp2
          go_ret
          exact ⟨rfl, Grow.of_alloc _ _⟩
      · go_enter Try.func14, Try.ntmps14
        go_wp2
        go_ret
        exact ⟨rfl, Grow.of_alloc _ _⟩
    · go_enter Try.func14, Try.ntmps14
      go_wp2
      go_ret
      exact ⟨rfl, Grow.of_alloc _ _⟩
  · go_enter Try.func14, Try.ntmps14
    go_wp2
    go_ret
    exact ⟨rfl, Grow.of_alloc _ _⟩

theorem sNum_any (p : Sc) (ok : p.Ok) (w : World) : Calls Try.prog 13 #[p.V] w fun e w' => e = .returned (.agg (u64s p.N)) ∧ Grow w w' := by
  obtain ⟨na, ty, fl, ad, off, sz, li, inf, al, en⟩ := p
  obtain ⟨k1, k2, k3, k4, k5, k6, k7, k8, k9, k10⟩ := ok
  unfold Sc.V Sc.C
  simp only [] at *
  have z1 : IntKind.u64.wrap (na : Int) = (na : Int) := by rw [IntKind.wrap_u64]; omega
  have z2 : IntKind.u64.wrap (ty : Int) = (ty : Int) := by rw [IntKind.wrap_u64]; omega
  have z3 : IntKind.u64.wrap (li : Int) = (li : Int) := by rw [IntKind.wrap_u64]; omega
  have z4 : IntKind.u64.wrap (inf : Int) = (inf : Int) := by rw [IntKind.wrap_u64]; omega
  clear k1 k2 k3 k4 k5 k6 k7 k8 k9 k10
  go_enter Try.func13, Try.ntmps13
  go_wp2_with (refine wpList_store_row rfl 45 (.tmp 2) (.tmp 27) rfl (w.heap.size + 1) (u64s (Sc.N ⟨na, ty, fl, ad, off, sz, li, inf, al, en⟩)) rfl rfl _ _ (blk2 rfl).2.1 (by kernel_rfl) rfl (one_u64s _) ?_)
  refine bodyPost_ret (results_cell_row (cs := u64s (Sc.N ⟨na, ty, fl, ad, off, sz, li, inf, al, en⟩)) rfl _ _ (w.heap.size + 1) _ (0, 0) _ rfl ((blk2 rfl).2.1.set _) Try.underlying45 rfl (by kernel_rfl)) rfl ?_
  exact ⟨rfl, Grow.set (blk2 rfl).2.2 (Nat.le_succ _) _⟩

theorem sHdr_any (x0 x1 x2 x3 x4 x5 x6 x7 x8 x9 : Nat) (w : World) (k0 : x0 < 4294967296) (k1 : x1 < 4294967296) (k6 : x6 < 4294967296) (k7 : x7 < 4294967296) :
    Calls Try.prog 21 #[.agg (u64s [x0, x1, x2, x3, x4, x5, x6, x7, x8, x9])] w fun e w' => e = .returned (Sc.V ⟨x0, x1, x2, x3, x4, x5, x6, x7, x8, x9⟩) ∧ Grow w w' := by
  have z0 : IntKind.u32.wrap (x0 : Int) = (x0 : Int) := by rw [IntKind.wrap_u32]; omega
  have z1 : IntKind.u32.wrap (x1 : Int) = (x1 : Int) := by rw [IntKind.wrap_u32]; omega
  have z6 : IntKind.u32.wrap (x6 : Int) = (x6 : Int) := by rw [IntKind.wrap_u32]; omega
  have z7 : IntKind.u32.wrap (x7 : Int) = (x7 : Int) := by rw [IntKind.wrap_u32]; omega
  clear k0 k1 k6 k7
  unfold u64s
  simp only [List.map_cons, List.map_nil]
  go_enter Try.func21, Try.ntmps21
  go_wp2_with (refine wpList_store_row rfl 25 (.tmp 2) (.tmp 27) rfl (w.heap.size + 1) (Sc.C ⟨x0, x1, x2, x3, x4, x5, x6, x7, x8, x9⟩) rfl rfl _ _ (blk2 rfl).2.1 (by kernel_rfl) rfl (Sc.one _) ?_)
  refine bodyPost_ret (results_cell_row (cs := Sc.C ⟨x0, x1, x2, x3, x4, x5, x6, x7, x8, x9⟩) rfl _ _ (w.heap.size + 1) _ (0, 0) _ rfl ((blk2 rfl).2.1.set _) Try.underlying25 rfl (by kernel_rfl)) rfl ?_
  exact ⟨rfl, Grow.set (blk2 rfl).2.2 (Nat.le_succ _) _⟩
end Go.Proofs.Ytfahaefpglnlbaa
