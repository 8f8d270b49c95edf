/-
  The document's example (up): the plans of models without segments and sections.
-/
import Derived.Test.YthebemikhjglbaaPlOf
import Derived.Test.YthebemikhjglbaaCode
namespace Go.Proofs.Ythebemikhjglbaa
open Go.RowKit

def md0 (s : Int) : Md := ⟨false, false, 0, 0, 0, 0, 0, 0, [], [], s⟩
theorem md0_ok (s : Int) (h : I64 s) : (md0 s).Ok := ⟨by simp [md0], by simp [md0], by simp [md0], by simp [md0], by simp [md0], by simp [md0], by simp [md0], by simp [md0], h⟩
theorem planC0 : (md0 0).planC = 0 := by decide
theorem planC1 : (md0 1).planC = 10 := by decide

theorem of0 (w : World) : Calls Try.prog 7 #[.agg #[.bool false, .bool false, .int .u8 0, .int .u8 0, .int .u16 0, .int .u16 0, .int .u32 0, .int .u64 0, .slice none 0 0, .slice none 0 0, .int .i64 0]] w fun e w' =>
    (∃ A n c A' n' c', e = .returned (.tuple #[.agg #[.int .u64 0, .int .u64 0, .int .u64 52, .slice A n c, .slice A' n' c'], .nilIface])) ∧ Grow w w' := by
  have h := of_any (md0 0) (md0_ok 0 (by unfold I64; omega)) none none 0 0 0 0 w ZR.nil ZR.nil
  refine Calls.mono h ?_
  rintro e w' ⟨cs, rfl, ⟨A, n, c, A', n', c', rfl, h1, h2⟩, hg⟩
  rw [planC0, eC_zero]
  exact ⟨⟨A, n, c, A', n', c', rfl⟩, hg⟩
theorem of1 (w : World) : Calls Try.prog 7 #[.agg #[.bool false, .bool false, .int .u8 0, .int .u8 0, .int .u16 0, .int .u16 0, .int .u32 0, .int .u64 0, .slice none 0 0, .slice none 0 0, .int .i64 1]] w fun e w' =>
    (∃ x0 x1 x2 A n c A' n' c', e = .returned (.tuple #[.agg #[.int .u64 x0, .int .u64 x1, .int .u64 x2, .slice A n c, .slice A' n' c'], .iface 61 (.int .i64 10)])) ∧ Grow w w' := by
  have h := of_any (md0 1) (md0_ok 1 (by unfold I64; omega)) none none 0 0 0 0 w ZR.nil ZR.nil
  refine Calls.mono h ?_
  rintro e w' ⟨cs, rfl, ⟨A, n, c, A', n', c', rfl, h1, h2⟩, hg⟩
  rw [planC1, eC_some (by decide)]
  exact ⟨⟨_, _, _, _, _, _, _, _, _, rfl⟩, hg⟩

set_option maxHeartbeats 1000000 in
theorem up15 (w : World) : Calls Try.prog 5 #[] w fun e w' => e = .returned (.bool true) ∧ Grow w w' := by
  go_enter Try.func5, Try.ntmps5
  go_wp2_with fail
  refine (of0 _).mono ?_
  rintro e w1 ⟨⟨A, n, c, A', n', c', rfl⟩, hg1⟩
  have HG1 := Lib.hid hg1
  clear hg1
  go_wp2_with fail
  generalize hW : World.alloc _ _ = W1
  obtain ⟨b1, hg2⟩ := blk1 hW
  clear hW
  have HB := Lib.hid b1
  have HG2 : Hid (Grow w W1) := HG1.out.trans hg2
  clear b1 hg2 HG1
  refine (of1 _).mono ?_
  rintro e w2 ⟨⟨x0, x1, x2, A5, n5, c5, A6, n6, c6, rfl⟩, hg3⟩
  have HB2 := Lib.hid (HB.out.grow hg3)
  have HG3 : Hid (Grow w w2) := HG2.out.trans hg3
  clear hg3 HG2 HB
  have hal := Grow.of_alloc w2 (.cells #[.int .u64 x0, .int .u64 x1, .int .u64 x2, .slice A5 n5 c5, .slice A6 n6 c6] 37)
  have HB3 := Lib.hid (HB2.out.grow hal)
  have HG4 : Hid (Grow w (w2.alloc (.cells #[.int .u64 x0, .int .u64 x1, .int .u64 x2, .slice A5 n5 c5, .slice A6 n6 c6] 37))) := HG3.out.trans hal
  clear hal
  have y0 := HB3.out.at 0
  have y1 := HB3.out.at 1
  have y2 := HB3.out.at 2
  go_wp2_with fail
  refine (code_some 10 (by decide) (by decide) _).mono ?_
  rintro e w' ⟨rfl, rfl⟩
  go_wp2
  go_ret
  exact ⟨rfl, HG4.out⟩
end Go.Proofs.Ythebemikhjglbaa
