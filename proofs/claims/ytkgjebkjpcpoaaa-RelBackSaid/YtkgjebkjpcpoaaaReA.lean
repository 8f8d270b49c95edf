/-
  The contracts of rel.width, typeBits, Size, mayBe, together, signed, and of the document's own Word and relRow.
-/
import Derived.Test.YtkgjebkjpcpoaaaRows
import Derived.Test.YtkgjebkjpcpoaaaRet
import Derived.Test.YtkgjebkjpcpoaaaReMath
import Derived.Test.YtkgjebkjpcpoaaaWirePut
import Derived.WalkKit
import Derived.Laws.ResultCell
import Derived.Laws.Bits64b
import Derived.Lib.Hide
namespace Go.Proofs.Ytkgjebkjpcpoaaa
open Go.RowKit

theorem reW_wid (wide : Bool) : wid (reW wide : Nat) = true := by cases wide <;> rfl

theorem reW_any (wide big : Bool) (w : World) : Calls Try.prog 15 #[.agg #[.bool wide, .bool big]] w fun e w' => e = .returned (.int .i64 (reW wide : Nat)) ∧ Grow w w' := by
  cases wide
  all_goals
    go_enter Try.func15, Try.ntmps15
    go_wp2
    go_ret
    exact ⟨rfl, Grow.of_alloc _ _⟩
theorem reBits_any (wide big : Bool) (w : World) : Calls Try.prog 27 #[.agg #[.bool wide, .bool big]] w fun e w' => e = .returned (.int .i64 (byWide wide 8 32 : Nat)) ∧ Grow w w' := by
  cases wide
  all_goals
    go_enter Try.func27, Try.ntmps27
    go_wp2
    go_ret
    exact ⟨rfl, Grow.of_alloc _ _⟩
theorem rWord_any (wide big : Bool) (w : World) : Calls Try.prog 12 #[.agg #[.bool wide, .bool big]] w fun e w' => e = .returned (.int .i64 (reW wide : Nat)) ∧ Grow w w' := by
  cases wide
  all_goals
    go_enter Try.func12, Try.ntmps12
    go_wp2
    go_ret
    exact ⟨rfl, Grow.of_alloc _ _⟩

theorem reSize_any (wide big adds : Bool) (w : World) : Calls Try.prog 14 #[.agg #[.bool wide, .bool big], .bool adds] w fun e w' => e = .returned (.int .i64 (reSize wide adds : Nat)) ∧ Grow w w' := by
  have HW := Lib.hid (fun w => reW_any wide big w)
  have h8 : reW wide ≤ 8 := by cases wide <;> decide
  cases adds
  case' false =>
    rw [show reSize wide false = 2 * reW wide from rfl]
    generalize reW wide = m at HW h8 ⊢
    have z2 : IntKind.i64.wrap (2 * (m : Int)) = ((2 * m : Nat) : Int) := by rw [IntKind.wrap_i64]; omega
  case' true =>
    rw [show reSize wide true = 3 * reW wide from rfl]
    generalize reW wide = m at HW h8 ⊢
    have z2 : IntKind.i64.wrap (3 * (m : Int)) = ((3 * m : Nat) : Int) := by rw [IntKind.wrap_i64]; omega
  all_goals
    clear h8
    go_enter Try.func14, Try.ntmps14
    go_wp2_with fail
    refine (HW.out _).mono ?_
    rintro e w1 ⟨rfl, hg1⟩
    have HG : Hid (Grow w w1) := (Grow.of_alloc _ _).trans hg1
    clear hg1
    go_wp2
    go_ret
    exact ⟨rfl, HG.out⟩

theorem reSg_any (wide big : Bool) (v : Nat) (hv : v < reM wide) (w : World) : Calls Try.prog 31 #[.int .u64 v, .agg #[.bool wide, .bool big]] w fun e w' => e = .returned (.int .i64 (sg wide v)) ∧ Grow w w' := by
  cases wide
  · have z1 : IntKind.i32.wrap (v : Int) = sg false v := by
      rw [IntKind.wrap_i32]
      simp only [sg, reM, byWide, Bool.false_eq_true, if_false] at *
      split <;> omega
    have z2 : IntKind.i64.wrap (sg false v) = sg false v := by
      rw [IntKind.wrap_i64]
      simp only [sg, reM, byWide, Bool.false_eq_true, if_false] at *
      split <;> omega
    clear hv
    generalize sg false v = s at z1 z2 ⊢
    go_enter Try.func31, Try.ntmps31
    go_wp2
    go_ret
    exact ⟨rfl, Grow.of_alloc _ _⟩
  · have z1 : IntKind.i64.wrap (v : Int) = sg true v := by
      rw [IntKind.wrap_i64]
      simp only [sg, reM, byWide, if_true] at *
      split <;> omega
    clear hv
    generalize sg true v = s at z1 ⊢
    go_enter Try.func31, Try.ntmps31
    go_wp2
    go_ret
    exact ⟨rfl, Grow.of_alloc _ _⟩

theorem relRow_any (wide big adds : Bool) (w : World) : Calls Try.prog 20 #[.agg #[.bool wide, .bool big], .bool adds] w fun e w' =>
    ∃ g, e = .returned (.slice (some ⟨g, 0, none⟩) (reN adds : Nat) (reN adds : Nat)) ∧ Blk w' g 3 (i64s (reRow wide adds)) ∧ w.heap.size ≤ g ∧ Grow w w' := by
  have HW := Lib.hid (fun w => rWord_any wide big w)
  unfold reRow
  generalize reW wide = m at HW ⊢
  cases adds
  all_goals
    go_enter Try.func20, Try.ntmps20
    go_wp2_with fail
    refine (HW.out _).mono ?_
    rintro e w1 ⟨rfl, hg1⟩
    have HG : Hid (Grow w w1) := (Grow.of_alloc _ _).trans hg1
    clear hg1
    go_wp2
    go_ret
    exact ⟨w1.heap.size, rfl, Blk.new _ _ _, HG.out.size, HG.out.trans (Grow.of_alloc _ _)⟩

set_option maxHeartbeats 400000 in
theorem reBoth_any (p : Re) (ok : p.Ok) (wide big : Bool) (h : p.ty < reK wide) (w : World) : Calls Try.prog 18 #[p.V, .agg #[.bool wide, .bool big]] w fun e w' => e = .returned (.int .u64 (p.both wide : Nat)) ∧ Grow w w' := by
  obtain ⟨off, sym, ty, add⟩ := p
  obtain ⟨-, k1, k2, -, -⟩ := ok
  unfold Re.V Re.C
  simp only [] at *
  have HB := Lib.hid (fun w => reBits_any wide big w)
  have z1 : IntKind.u64.wrap (sym : Int) = (sym : Int) := by rw [IntKind.wrap_u64]; omega
  have z2 : IntKind.u64.wrap (ty : Int) = (ty : Int) := by rw [IntKind.wrap_u64]; omega
  go_enter Try.func18, Try.ntmps18
  go_wp2_with fail
  refine wp_region_chain [(0, true), (1, true), (2, true), (3, true), (6, true), (7, true), (8, true), (4, false), (5, true), (9, true), (10, true)] (by kernel_rfl) (by kernel_rfl) (by kernel_rfl) ?_
  generalize hW : World.drew _ = w1
  have hg1 : Grow w w1 := by subst hW; exact ((Grow.of_alloc _ _).trans (Grow.of_alloc _ _)).trans (Grow.of_drew _)
  have b1 : Blk w1 w.heap.size 47 #[.int .u64 (off : Int), .int .u32 (sym : Int), .int .u32 (ty : Int), .int .i64 add] := by subst hW; exact (blk2 rfl).1.drew
  have b2 : Blk w1 (w.heap.size + 1) 24 #[.bool wide, .bool big] := by subst hW; exact (blk2 rfl).2.1.drew
  clear hW
  have HX : Hid (∀ W, Grow w1 W → (W.cell? ⟨w.heap.size, 1, none⟩ = some (.int .u32 (sym : Int)) ∧ W.cell? ⟨w.heap.size, 2, none⟩ = some (.int .u32 (ty : Int))) ∧ _) := fun W hW => ⟨⟨(b1.grow hW).at 1, (b1.grow hW).at 2⟩, (b2.grow hW).c2⟩
  have HG := Lib.hid hg1
  clear b1 b2 hg1
  repeat (refine chain_take rfl (by rfl) ?_ (fun W hG => ?_) ?_; rotate_left; (obtain ⟨⟨q1, q2⟩, q3, q4⟩ := HX.out W hG; go_simp; rfl); simp only [Act.put, List.setIfInBounds_toArray, List.set_cons_zero, List.set_cons_succ])
  refine chain_only rfl (by rfl) (fun K hK => ?_)
  go_simp
  refine (HB.out _).mono ?_
  rintro e w2 ⟨rfl, hg2⟩
  refine hK _ _ hg2 ?_
  clear hK K
  have HG2 : Hid (Grow w w2) := HG.out.trans hg2
  clear hg2 HG HX
  cases wide
  · rw [show ((byWide false 8 32 : Nat) : Int) = 8 from rfl]
    have z3 : IntKind.u64.wrap ((sym : Int) * 256) = ((256 * sym : Nat) : Int) := by rw [IntKind.wrap_u64]; omega
    have z4 : bits BinOp.or IntKind.u64 (256 * (sym : Int)) (ty : Int) = ((256 * sym + ty : Nat) : Int) := by
      have := bits_or_u64_nat (256 * sym) ty (by omega) (by omega)
      rw [Nat.or_comm, or_low ty (256 * sym) 8 h (Nat.mul_mod_right _ _), Nat.add_comm] at this
      rw [← this]; rfl
    have HE : Hid ((256 * sym + ty : Nat) = Re.both ⟨off, sym, ty, add⟩ false) := Lib.hid rfl
    clear k1 k2 h
    repeat (refine chain_take rfl (by rfl) ?_ (fun W hG => ?_) ?_; rotate_left; (go_simp; rfl); simp only [Act.put, List.setIfInBounds_toArray, List.set_cons_zero, List.set_cons_succ])
    refine chain_done ?_
    go_wp2
    go_ret
    exact ⟨by rw [← HE.out]; rfl, HG2.out⟩
  · rw [show ((byWide true 8 32 : Nat) : Int) = 32 from rfl]
    have z3 : IntKind.u64.wrap ((sym : Int) * 4294967296) = ((4294967296 * sym : Nat) : Int) := by rw [IntKind.wrap_u64]; omega
    have z4 : bits BinOp.or IntKind.u64 (4294967296 * (sym : Int)) (ty : Int) = ((4294967296 * sym + ty : Nat) : Int) := by
      have := bits_or_u64_nat (4294967296 * sym) ty (by omega) (by omega)
      rw [Nat.or_comm, or_low ty (4294967296 * sym) 32 h (Nat.mul_mod_right _ _), Nat.add_comm] at this
      rw [← this]; rfl
    have HE : Hid ((4294967296 * sym + ty : Nat) = Re.both ⟨off, sym, ty, add⟩ true) := Lib.hid rfl
    clear k1 k2 h
    repeat (refine chain_take rfl (by rfl) ?_ (fun W hG => ?_) ?_; rotate_left; (go_simp; rfl); simp only [Act.put, List.setIfInBounds_toArray, List.set_cons_zero, List.set_cons_succ])
    refine chain_done ?_
    go_wp2
    go_ret
    exact ⟨by rw [← HE.out]; rfl, HG2.out⟩
end Go.Proofs.Ytkgjebkjpcpoaaa
