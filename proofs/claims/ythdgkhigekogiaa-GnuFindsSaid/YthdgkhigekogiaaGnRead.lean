/-
  The contracts of gnu.heads, hashes and read, and of wire.Get where a number stands.
-/
import Derived.Test.YthdgkhigekogiaaGnBuild
import Derived.Test.YthdgkhigekogiaaWireGet
import Derived.Laws.ResultCell
namespace Go.Proofs.Ythdgkhigekogiaa
open Go.RowKit

/-- What is read where a number stands. -/
theorem get_at (A : Option Addr) (n c : Nat) (l : List UInt8) (B p z : Nat) (big : Bool) (v : Nat) (w : World) (h : RB w B A n c l) (hz : z = 4 ∨ z = 8) (hp : p + z ≤ l.length) (hv : getB ((l.drop p).take z) big = v) :
    Calls Try.prog 25 #[.slice A n c, .int .u64 (p : Int), .int .i64 (z : Int), .bool big] w fun e w' => e = .returned (.tuple #[.int .u64 (v : Int), .bool true]) ∧ ∃ m, w' = w.drewN m := by
  have h1 : wid (z : Int) = true := by rcases hz with rfl | rfl <;> decide
  have h2 : gotB l (p : Int) (z : Int) = true := by
    simp only [gotB, h1, Bool.true_and, wthn, decide_eq_true_eq]
    omega
  have h3 : gotV l (p : Int) (z : Int) big = v := by
    simp only [gotV, h2, if_true, Int.toNat_natCast]
    exact hv
  have := get_any A n c l B (p : Int) (z : Int) big w h (by omega)
  rw [h2, h3] at this
  exact this

theorem heads_any (b f wd sh z : Nat) (w : World) (hw : wd ≤ 1024) (hz : z ≤ 8) : Calls Try.prog 34 #[.agg (shC b f wd sh z)] w fun e w' => e = .returned (.int .u64 ((16 + wd * z : Nat) : Int)) ∧ Grow w w' := by
  have h1 : wd * z ≤ 1024 * 8 := Nat.mul_le_mul hw hz
  obtain ⟨x, hx⟩ : ∃ x, x = wd * z := ⟨_, rfl⟩
  have e0 : (wd : Int) * (z : Int) = (x : Int) := by rw [hx]; simp
  have e1 : IntKind.u64.wrap ((wd : Int) * (z : Int)) = (x : Int) := by rw [e0, IntKind.wrap_u64]; omega
  have e2 : IntKind.u64.wrap (16 + (x : Int)) = 16 + (x : Int) := by rw [IntKind.wrap_u64]; omega
  have HX := Lib.hid hx
  clear hx h1 e0
  unfold shC
  go_enter Try.func34, Try.ntmps34
  go_wp2
  go_ret
  exact ⟨ret_int (by rw [← HX.out]; omega), Grow.of_alloc _ _⟩

set_option maxHeartbeats 400000 in
theorem hashes_any (b f wd sh z : Nat) (w : World) (hb : b ≤ 1024) (hw : wd ≤ 1024) (hz : z ≤ 8) : Calls Try.prog 26 #[.agg (shC b f wd sh z)] w fun e w' => e = .returned (.int .u64 ((16 + wd * z + b * 4 : Nat) : Int)) ∧ Grow w w' := by
  have h1 : wd * z ≤ 1024 * 8 := Nat.mul_le_mul hw hz
  have HH := Lib.hid (fun W => heads_any b f wd sh z W hw hz)
  unfold shC at HH ⊢
  obtain ⟨x, hx⟩ : ∃ x, x = 16 + wd * z := ⟨_, rfl⟩
  rw [← hx] at HH ⊢
  have e1 : IntKind.u64.wrap ((b : Int) * 4) = (b : Int) * 4 := by rw [IntKind.wrap_u64]; omega
  have e2 : IntKind.u64.wrap ((x : Int) + (b : Int) * 4) = (x : Int) + (b : Int) * 4 := by rw [IntKind.wrap_u64]; omega
  clear hx h1
  go_enter Try.func26, Try.ntmps26
  go_wp2_with fail
  generalize hW : World.alloc _ _ = W0
  obtain ⟨hb, hg⟩ := blk1 hW
  obtain ⟨g, hgg⟩ : ∃ g, g = w.heap.size := ⟨_, rfl⟩
  rw [← hgg] at hb ⊢
  clear hW hgg
  have HX : Hid (∀ W, Grow W0.drew W → W.cell? ⟨g, 0, none⟩ = some (.int .u64 (b : Int)) ∧ W.cell? ⟨g, 1, none⟩ = some (.int .u64 (f : Int)) ∧ W.cell? ⟨g, 2, none⟩ = some (.int .u64 (wd : Int)) ∧ W.cell? ⟨g, 3, none⟩ = some (.int .u64 (sh : Int)) ∧ W.cell? ⟨g, 4, none⟩ = some (.int .u64 (z : Int))) :=
    Lib.hid fun W hW => ((hb.drew).grow hW).c5
  have HG : Hid (Grow w W0.drew) := Lib.hid (hg.trans (Grow.of_drew _))
  clear hb hg
  refine wp_region_chain [(0, true), (2, true), (3, true), (4, true), (1, false), (5, true), (6, true)] (by kernel_rfl) (by kernel_rfl) (by kernel_rfl) ?_
  generalize W0.drew = w1 at HX HG ⊢
  repeat (refine chain_take rfl (by rfl) ?_ (fun W hG => ?_) ?_; rotate_left; (obtain ⟨q1, q2, q3, q4, q5⟩ := HX.out W hG; go_simp; rfl); simp only [Act.put, List.setIfInBounds_toArray, List.set_cons_zero, List.set_cons_succ])
  refine chain_only rfl (by rfl) (fun K hK => ?_)
  go_simp
  refine (HH.out _).mono ?_
  rintro e w2 ⟨rfl, hg⟩
  refine hK _ _ hg ?_
  clear hK K HX HH
  have HG2 := Lib.hid (HG.out.trans hg)
  clear hg HG
  repeat (refine chain_take rfl (by rfl) ?_ (fun W hG => ?_) ?_; rotate_left; (go_simp; rfl); simp only [Act.put, List.setIfInBounds_toArray, List.set_cons_zero, List.set_cons_succ])
  refine chain_done ?_
  go_wp2
  go_ret
  exact ⟨ret_int (by omega), HG2.out⟩
end Go.Proofs.Ythdgkhigekogiaa
