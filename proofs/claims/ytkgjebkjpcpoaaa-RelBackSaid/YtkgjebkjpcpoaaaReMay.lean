/-
  The contract of rel.mayBe: whether a relocation may be.
-/
import Derived.Test.YtkgjebkjpcpoaaaReA
import Derived.Test.YtkgjebkjpcpoaaaRefRow
namespace Go.Proofs.Ytkgjebkjpcpoaaa
open Go.RowKit

set_option maxRecDepth 100000 in
set_option maxHeartbeats 1000000 in
theorem reMay_any (p : Re) (ok : p.Ok) (wide big adds : Bool) (w : World) : Calls Try.prog 16 #[p.V, .agg #[.bool wide, .bool big], .bool adds] w fun e w' => e = .returned (.bool (p.May wide adds)) ∧ Grow w w' := by
  obtain ⟨off, sym, ty, add⟩ := p
  obtain ⟨k0, k1, k2, -, -⟩ := ok
  unfold Re.V Re.C
  simp only [] at *
  have HFi : Hid (∀ w, Calls Try.prog 24 #[.int .u64 off, .int .i64 4] w fun e w' => e = .returned (.bool (decide (off < 4294967296))) ∧ w = w') := Lib.hid fun w => by
    have := fits_any off (4 : Nat) w (by omega) (by omega)
    rw [fits_row off 4 rfl] at this
    exact this
  clear k0 k1 k2
  cases hz : (adds || add == 0)
  · obtain ⟨rfl, hz2⟩ := Bool.or_eq_false_iff.1 hz
    have HM : Hid (Re.May ⟨off, sym, ty, add⟩ wide false = false) := Lib.hid (by unfold Re.May; rw [hz]; rfl)
    have z0 : (add != 0) = true := by simpa using hz2
    clear hz hz2
    go_enter Try.func16, Try.ntmps16
    go_wp2_with fail
    generalize hW : World.alloc _ _ = W0
    obtain ⟨b1, b2, hg0⟩ := blk2 hW
    have y3 := b1.at 3
    simp at y3
    clear hW b1 b2
    have HG := Lib.hid hg0
    clear hg0
    go_wp2
    go_ret
    exact ⟨by rw [HM.out]; rfl, HG.out⟩
  · cases wide
    · have hM : Re.May ⟨off, sym, ty, add⟩ false adds = (decide (off < 4294967296) && decide (sym < 16777216) && decide (ty < 256) && decide (-2147483648 ≤ add) && decide (add ≤ 2147483647)) := by
        unfold Re.May; rw [hz]; rfl
      generalize Re.May ⟨off, sym, ty, add⟩ false adds = R at hM ⊢
      have hz0 : adds = false → (add != 0) = false := by rintro rfl; simpa using hz
      have hc : (decide (off < 4294967296) = false ∧ R = false) ∨ (decide (off < 4294967296) = true ∧ decide ((sym : Int) < 16777216) = false ∧ R = false) ∨ (decide (off < 4294967296) = true ∧ (sym : Int) < 16777216 ∧ decide ((ty : Int) < 256) = false ∧ R = false) ∨
          (decide (off < 4294967296) = true ∧ (sym : Int) < 16777216 ∧ (ty : Int) < 256 ∧ decide ((-2147483648 : Int) ≤ add) = false ∧ R = false) ∨
          (decide (off < 4294967296) = true ∧ (sym : Int) < 16777216 ∧ (ty : Int) < 256 ∧ (-2147483648 : Int) ≤ add ∧ decide (add ≤ (2147483647 : Int)) = false ∧ R = false) ∨
          (decide (off < 4294967296) = true ∧ (sym : Int) < 16777216 ∧ (ty : Int) < 256 ∧ (-2147483648 : Int) ≤ add ∧ add ≤ (2147483647 : Int) ∧ R = true) := by
        subst hM
        by_cases h1 : off < 4294967296 <;> by_cases h2 : sym < 16777216 <;> by_cases h3 : ty < 256 <;> by_cases h4 : -2147483648 ≤ add <;> by_cases h5 : add ≤ 2147483647 <;> simp [h1, h2, h3, h4, h5] <;> omega
      clear hM hz
      cases adds
      case' false => have z0 := hz0 rfl
      all_goals
        clear hz0
        go_enter Try.func16, Try.ntmps16
        go_wp2_with fail
        generalize hW : World.alloc _ _ = W0
        obtain ⟨b1, b2, hg0⟩ := blk2 hW
        have y0 := b1.at 0
        have y1 := b1.at 1
        have y2 := b1.at 2
        have y3 := b1.at 3
        simp at y0 y1 y2 y3
        obtain ⟨f0, f1⟩ := b2.c2
        clear hW b1 b2
        have HG := Lib.hid hg0
        clear hg0
        go_wp2_with fail
        refine (HFi.out _).mono ?_
        rintro e w2 ⟨rfl, rfl⟩
        clear HFi
        rcases hc with ⟨h1, rfl⟩ | ⟨h1, z2, rfl⟩ | ⟨h1, z2, z3, rfl⟩ | ⟨h1, z2, z3, z4, rfl⟩ | ⟨h1, z2, z3, z4, z5, rfl⟩ | ⟨h1, z2, z3, z4, z5, rfl⟩
        all_goals
          rw [h1]
          clear h1
          go_wp2
          go_ret
          exact ⟨rfl, HG.out⟩
    · have HM : Hid (Re.May ⟨off, sym, ty, add⟩ true adds = true) := Lib.hid (by unfold Re.May; rw [hz]; rfl)
      have hz0 : adds = false → (add != 0) = false := by rintro rfl; simpa using hz
      clear hz
      cases adds
      case' false => have z0 := hz0 rfl
      all_goals
        clear hz0
        go_enter Try.func16, Try.ntmps16
        go_wp2_with fail
        generalize hW : World.alloc _ _ = W0
        obtain ⟨b1, b2, hg0⟩ := blk2 hW
        have y3 := b1.at 3
        simp at y3
        obtain ⟨f0, f1⟩ := b2.c2
        clear hW b1 b2
        have HG := Lib.hid hg0
        clear hg0
        go_wp2
        go_ret
        exact ⟨by rw [HM.out]; rfl, HG.out⟩
end Go.Proofs.Ytkgjebkjpcpoaaa
