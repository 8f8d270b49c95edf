/-
  Plain answers of layer 4, and the contracts of head.byClass, Size, sizeIf, widths.
-/
import Derived.Test.YtkohkkgfmkocjaaRows
import Derived.Test.YtkohkkgfmkocjaaRet
import Derived.Test.YtkohkkgfmkocjaaBlk
import Derived.Test.YtkohkkgfmkocjaaRowMath
import Derived.Test.YtkohkkgfmkocjaaIdentC
import Derived.WalkKit
import Derived.Laws.ResultCell
import Derived.Lib.Hide
namespace Go.Proofs.Ytkohkkgfmkocjaa
open Go.RowKit

/-- A file's header. -/
structure Hd where
  wide : Bool
  big : Bool
  o : UInt8
  a : UInt8
  ty : Nat
  ma : Nat
  en : Nat
  ph : Nat
  sh : Nat
  fl : Nat
  pn : Nat
  sn : Nat
  st : Nat

/-- Its fields have the sizes of their types. -/
structure Hd.Ok (h : Hd) : Prop where
  ty : h.ty < 65536
  ma : h.ma < 65536
  en : h.en < 18446744073709551616
  ph : h.ph < 18446744073709551616
  sh : h.sh < 18446744073709551616
  fl : h.fl < 4294967296
  pn : h.pn < 65536
  sn : h.sn < 65536
  st : h.st < 65536

def Hd.C (h : Hd) : Array Value := #[.bool h.wide, .bool h.big, .int .u8 (h.o.toNat : Int), .int .u8 (h.a.toNat : Int), .int .u16 (h.ty : Int), .int .u16 (h.ma : Int), .int .u64 (h.en : Int), .int .u64 (h.ph : Int), .int .u64 (h.sh : Int), .int .u32 (h.fl : Int), .int .u16 (h.pn : Int), .int .u16 (h.sn : Int), .int .u16 (h.st : Int)]
def Hd.V (h : Hd) : Value := .agg h.C
def hd0 : Hd := ⟨false, false, 0, 0, 0, 0, 0, 0, 0, 0, 0, 0, 0⟩

def byWide (wide : Bool) (x y : Nat) : Nat := if wide then y else x
def hSize (wide : Bool) : Nat := byWide wide 52 64
def ifSome (b : Bool) (n : Nat) : Nat := if b then n else 0
/-- How many bytes each number has. -/
def hRow (wide : Bool) : List Nat := [2, 2, 4, byWide wide 4 8, byWide wide 4 8, byWide wide 4 8, 4, 2, 2, 2, 2, 2, 2]
/-- The numbers as they are written. -/
def Hd.N (h : Hd) : List Nat := [h.ty, h.ma, 1, h.en, h.ph, h.sh, h.fl, hSize h.wide, ifSome ((h.pn : Int) != 0) (byWide h.wide 32 56), h.pn, ifSome ((h.sh : Int) != 0) (byWide h.wide 40 64), h.sn, h.st]
def u64s (l : List Nat) : Array Value := (l.map fun n : Nat => Value.int .u64 (n : Int)).toArray
def i64s (l : List Nat) : Array Value := (l.map fun n : Nat => Value.int .i64 (n : Int)).toArray

theorem one_u64s (l : List Nat) : (u64s l).all (·.oneCell') = true := by simp [u64s, Value.oneCell']
theorem one_i64s (l : List Nat) : (i64s l).all (·.oneCell') = true := by simp [i64s, Value.oneCell']
theorem Hd.one (h : Hd) : h.C.all (·.oneCell') = true := by simp [Hd.C, Value.oneCell']

theorem byClass_any (wide big : Bool) (x y : Nat) (w : World) : Calls Try.prog 30 #[.agg #[.bool wide, .bool big], .int .i64 x, .int .i64 y] w fun e w' => e = .returned (.int .i64 (byWide wide x y : Nat)) ∧ Grow w w' := by
  cases wide
  · go_enter Try.func30, Try.ntmps30
    go_wp2
    go_ret
    exact ⟨rfl, Grow.of_alloc _ _⟩
  · go_enter Try.func30, Try.ntmps30
    go_wp2
    go_ret
    exact ⟨rfl, Grow.of_alloc _ _⟩

theorem hSize_any (wide big : Bool) (w : World) : Calls Try.prog 12 #[.agg #[.bool wide, .bool big]] w fun e w' => e = .returned (.int .i64 (hSize wide : Nat)) ∧ Grow w w' := by
  go_enter Try.func12, Try.ntmps12
  go_wp2_with fail
  refine (byClass_any wide big 52 64 _).mono ?_
  rintro e w1 ⟨rfl, hg⟩
  have HG := Lib.hid ((Grow.of_alloc _ _).trans hg)
  clear hg
  go_wp2
  go_ret
  exact ⟨rfl, HG.out⟩

theorem sizeIf_any (b : Bool) (n : Nat) (w : World) (hn : n < 1000) : Calls Try.prog 32 #[.bool b, .int .i64 n] w fun e w' => e = .returned (.int .u64 (ifSome b n : Nat)) ∧ w = w' := by
  have hw : IntKind.u64.wrap (n : Int) = (n : Int) := by rw [IntKind.wrap_u64]; omega
  cases b
  · go_enter Try.func32, Try.ntmps32
    go_wp2
    go_ret
    exact ⟨rfl, rfl⟩
  · go_enter Try.func32, Try.ntmps32
    go_wp2
    go_ret
    exact ⟨rfl, rfl⟩

theorem widths_any (wide big : Bool) (w : World) : Calls Try.prog 17 #[.agg #[.bool wide, .bool big]] w fun e w' => e = .returned (.agg (i64s (hRow wide))) ∧ Grow w w' := by
  go_enter Try.func17, Try.ntmps17
  go_wp2_with fail
  refine (byClass_any wide big 4 8 _).mono ?_
  rintro e w1 ⟨rfl, hg⟩
  have HG := Lib.hid (((Grow.of_alloc _ _).trans (Grow.of_alloc _ _)).trans hg)
  have hb := (Blk.new (w.alloc (.cells #[.bool wide, .bool big] 23)) 55 #[.int .i64 0, .int .i64 0, .int .i64 0, .int .i64 0, .int .i64 0, .int .i64 0, .int .i64 0, .int .i64 0, .int .i64 0, .int .i64 0, .int .i64 0, .int .i64 0, .int .i64 0]).grow hg
  clear hg
  rw [show (w.alloc (.cells #[.bool wide, .bool big] 23)).heap.size = w.heap.size + 1 by simp] at hb
  have HL : Hid (w.heap.size ≤ w.heap.size + 1) := Nat.le_succ _
  generalize w.heap.size + 1 = g at hb HL ⊢
  have HB := Lib.hid hb
  have HS : Hid (w.heap.size ≤ g) := HL.out
  clear hb
  go_wp2_with (refine wpList_store_row rfl 55 (.tmp 2) (.tmp 9) rfl g (i64s (hRow wide)) rfl rfl _ _ HB.out (by kernel_rfl) rfl (one_i64s _) ?_)
  refine bodyPost_ret (results_cell_row (cs := i64s (hRow wide)) rfl _ _ g _ (0, 0) _ rfl (HB.out.set _) Try.underlying55 rfl (by kernel_rfl)) rfl ?_
  exact ⟨rfl, Grow.set HG.out HS.out _⟩
end Go.Proofs.Ytkohkkgfmkocjaa
