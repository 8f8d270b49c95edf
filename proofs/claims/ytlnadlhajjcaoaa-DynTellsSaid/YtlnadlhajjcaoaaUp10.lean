/-
  The contract of the head of layer 10's statements: the document's example holds.
-/
import Derived.Test.YtlnadlhajjcaoaaDyAll
import Derived.Test.YtlnadlhajjcaoaaDyFind
namespace Go.Proofs.Ytlnadlhajjcaoaa
open Go.RowKit

def dyB : List UInt8 := [5, 0, 0, 0, 6, 0, 0, 0, 0, 0, 0, 0, 1, 1, 1, 1, 1]
theorem dyB_told : dyIn dyB false false = true ∧ dyK dyB false false = 1 ∧ dyns dyB false false = [⟨5, 6⟩] := ⟨by decide +kernel, by decide +kernel, by kernel_rfl⟩
theorem dyN_told : dyIn [] false false = false ∧ dyK [] false false = 0 := by decide +kernel
theorem dyF_told : dyF [⟨5, 6⟩] 5 = (6, true) := by decide +kernel

set_option maxRecDepth 100000 in
set_option maxHeartbeats 400000 in
theorem up10_any (w : World) : Calls Try.prog 5 #[] w fun e w' => e = .returned (.bool true) ∧ Grow w w' := by
  go_enter Try.func5, Try.ntmps5
  go_wp2_with fail
  refine (dAll_any none 0 0 [] false false w RB.nil (by decide)).mono ?_
  rintro e w1 (⟨hn, _⟩ | ⟨_, er, rfl, he, hg1⟩)
  · rw [dyN_told.1] at hn; cases hn
  rw [dyN_told.2, Nat.zero_mul] at he
  have HE := Lib.hid he
  have HG1 := Lib.hid hg1
  clear he hg1
  go_wp2_with fail
  refine (spot_any er 2 0 w1 HE.out (by omega) (by omega)).mono ?_
  rintro e w2 ⟨rfl, hg2⟩
  have HE2 := Lib.hid (HE.out.grow hg2)
  have HG2 : Hid (Grow w w2) := HG1.out.trans hg2
  clear hg2 HG1 HE
  go_wp2_with fail
  have HB := Lib.hid (RB.lit w2 5 dyB (by decide))
  have HG3 : Hid (Grow w (w2.alloc (.cells (dyB.map byt).toArray 5))) := HG2.out.trans (Grow.of_alloc _ _)
  have hcs : (dyB.map byt).toArray = #[.int .u8 5, .int .u8 0, .int .u8 0, .int .u8 0, .int .u8 6, .int .u8 0, .int .u8 0, .int .u8 0, .int .u8 0, .int .u8 0, .int .u8 0, .int .u8 0, .int .u8 1, .int .u8 1, .int .u8 1, .int .u8 1, .int .u8 1] := by rfl
  rw [hcs] at HB HG3
  have hln : dyB.length = 17 := rfl
  rw [hln] at HB
  clear hcs hln
  refine (dAll_any _ 17 17 dyB false false _ (HB.out.more (Nat.le_of_eq (by simp))) (by decide)).mono ?_
  rintro e w3 (⟨_, A, c, rfl, hz, hg3⟩ | ⟨hn, _⟩)
  rotate_left
  · rw [dyB_told.1] at hn; cases hn
  rw [dyB_told.2.1, dyB_told.2.2] at hz
  rw [dyB_told.2.1]
  have HZ := Lib.hid hz
  have HG4 : Hid (Grow w w3) := HG3.out.trans hg3
  clear hz hg3 HG3 HB HG2
  go_wp2_with fail
  refine (dFind_any A 1 c [⟨5, 6⟩] 5 w3 HZ.out).mono ?_
  rintro e w4 ⟨rfl, hg4⟩
  rw [dyF_told]
  have HG5 : Hid (Grow w w4) := HG4.out.trans hg4
  clear hg4 HG4 HZ HE2
  go_wp2
  go_ret
  exact ⟨rfl, HG5.out⟩
end Go.Proofs.Ytlnadlhajjcaoaa
