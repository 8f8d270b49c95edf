/-
  An error with a place: what it is, and the contract of the helper Spot at it.
-/
import Derived.Test.YtfnaigeakfgpbaaRows
import Derived.Test.YtfnaigeakfgpbaaRet
import Derived.Test.YtfnaigeakfgpbaaTree
import Derived.WalkKit
import Derived.Lib.Hide
namespace Go.Proofs.Ytfnaigeakfgpbaa
open Go.RowKit

/-- The error, as a Spot (code c, place p); no error where c is 0. -/
def Err (w : World) (e : Value) (c p : Nat) : Prop :=
  (c = 0 ∧ p = 0 ∧ e = .nilIface) ∨ (0 < c ∧ ∃ b, e = .iface 78 (.pointer (some ⟨b, 0, none⟩)) ∧ b < w.heap.size ∧ w.cell? ⟨b, 0, none⟩ = some (.int .i64 p) ∧ w.cell? ⟨b, 1, none⟩ = some (.int .i64 c))
theorem Err.grow {w w' : World} {e : Value} {c p : Nat} (h : Err w e c p) (hg : Grow w w') : Err w' e c p := by
  rcases h with h | ⟨h0, b, h1, h2, h3, h4⟩
  · exact .inl h
  · exact .inr ⟨h0, b, h1, Nat.lt_of_lt_of_le h2 hg.size, by rw [hg.cell h2]; exact h3, by rw [hg.cell h2]; exact h4⟩
theorem Err.box (w : World) (c p : Nat) (t : TypeId) (h : 0 < c) : Err (w.alloc (.cells #[.int .i64 (p : Int), .int .i64 (c : Int)] t)) (.iface 78 (.pointer (some ⟨w.heap.size, 0, none⟩))) c p :=
  .inr ⟨h, w.heap.size, rfl, by simp, by simp, by simp⟩

theorem assertSpot (x : Value) (w : World) : (Instr.typeAssert (.iface 78 x) 28 78 true).run Try.prog w = .ok (.tuple #[x, .bool true]) w := by kernel_rfl

theorem spot_any (e : Value) (c p : Nat) (w : World) (h : Err w e c p) (hc : c < 100) (hp : p < 100000) : Calls Try.prog 14 #[e] w fun r w' => r = .returned (.tuple #[.int .i64 c, .int .i64 p]) ∧ Grow w w' := by
  have hta := assertSpot
  rcases h with ⟨rfl, rfl, rfl⟩ | ⟨h0, b, rfl, hb, h1, h2⟩
  · go_enter Try.func14, Try.ntmps14
    go_wp2
    go_ret2
    exact ⟨rfl, Grow.refl _⟩
  · go_enter Try.func14, Try.ntmps14
    go_wp2_with fail
    refine wp_region_chain [(0, true), (1, true), (2, true), (3, true), (4, true), (5, true), (6, true), (7, true), (8, true), (9, true)] (by kernel_rfl) (by kernel_rfl) (by kernel_rfl) ?_
    have c0 : ∀ W, Grow w.drew W → W.cell? ⟨b, 0, none⟩ = some (.int .i64 p) := fun W h => by rw [h.cell hb]; exact h1
    have c1 : ∀ W, Grow w.drew W → W.cell? ⟨b, 1, none⟩ = some (.int .i64 c) := fun W h => by rw [h.cell hb]; exact h2
    repeat (refine chain_take rfl (by rfl) ?_ (fun W hG => ?_) ?_; rotate_left; (go_simp; rfl); simp only [Act.put, List.setIfInBounds_toArray, List.set_cons_zero, List.set_cons_succ])
    refine chain_done ?_
    go_wp2
    go_ret2
    exact ⟨rfl, Grow.of_drew _⟩
end Go.Proofs.Ytfnaigeakfgpbaa
