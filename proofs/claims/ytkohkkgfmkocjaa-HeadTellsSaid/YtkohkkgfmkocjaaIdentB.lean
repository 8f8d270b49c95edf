/-
  The contracts of the helpers Spot (at the errors that ident tells) and Pick.
-/
import Derived.Test.YtkohkkgfmkocjaaIdentGet
namespace Go.Proofs.Ytkohkkgfmkocjaa
open Go.RowKit

theorem assertSpot (x : Value) (w : World) : (Instr.typeAssert (.iface 66 x) 36 66 true).run Try.prog w = .ok (.tuple #[x, .bool true]) w := by kernel_rfl

theorem spot_any (e : Value) (c p : Nat) (w : World) (h : Err w e c p) (hc : c < 100) (hp : p < 100000) : Calls Try.prog 11 #[e] w fun r w' => r = .returned (.tuple #[.int .i64 c, .int .i64 p]) ∧ Grow w w' := by
  have hta := assertSpot
  rcases h with ⟨rfl, rfl, rfl⟩ | ⟨h0, b, rfl, hb, h1, h2⟩
  · go_enter Try.func11, Try.ntmps11
    go_wp2
    go_ret2
    exact ⟨rfl, Grow.refl _⟩
  · go_enter Try.func11, Try.ntmps11
    go_wp2_with fail
    refine wp_region_chain [(0, true), (1, true), (2, true), (3, true), (4, true), (5, true), (6, true), (7, true), (8, true), (9, true)] (by kernel_rfl) (by kernel_rfl) (by kernel_rfl) ?_
    have c0 : ∀ W, Grow w.drew W → W.cell? ⟨b, 0, none⟩ = some (.int .i64 p) := fun W h => by rw [h.cell hb]; exact h1
    have c1 : ∀ W, Grow w.drew W → W.cell? ⟨b, 1, none⟩ = some (.int .i64 c) := fun W h => by rw [h.cell hb]; exact h2
    repeat (refine chain_take rfl (by rfl) ?_ (fun W hG => ?_) ?_; rotate_left; (go_simp; rfl); simp only [Act.put, List.setIfInBounds_toArray, List.set_cons_zero, List.set_cons_succ])
    refine chain_done ?_
    go_wp2
    go_ret2
    exact ⟨rfl, Grow.of_drew _⟩

theorem pick_by (n : Int) (m : Nat) (w : World) (h0 : 0 < m) (h1 : m < 1000000) : Calls Try.prog 14 #[.int .i64 n, .int .i64 m] w fun r w' => ∃ k : Nat, k < m ∧ r = .returned (.int .i64 k) ∧ w = w' := by
  have k1 : -(m : Int) < n.tmod m := Int.lt_tmod_of_pos n (by omega)
  have k2 : n.tmod m < m := Int.tmod_lt_of_pos n (by omega)
  have hz : ((m : Int) == 0) = false := by simp; omega
  have hz1 : ¬ (m : Int) = -1 := by omega
  go_enter Try.func14, Try.ntmps14
  go_wp2
  · go_ret
    exact ⟨(n.tmod m + m).toNat, by omega, ret_int (by omega), rfl⟩
  · go_ret
    exact ⟨(n.tmod m).toNat, by omega, ret_int (by omega), rfl⟩
theorem pick_any (n : Int) (w : World) : Calls Try.prog 14 #[.int .i64 n, .int .i64 7] w fun r w' => ∃ k : Nat, k < 7 ∧ r = .returned (.int .i64 k) ∧ w = w' := pick_by n 7 w (by omega) (by omega)
end Go.Proofs.Ytkohkkgfmkocjaa
