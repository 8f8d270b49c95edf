/-
  The document's example (up): what Check and Same tell of models without segments and sections.
-/
import Derived.Test.YtahmdccalgdiaaaMdCheck
import Derived.Test.YtahmdccalgdiaaaCode
namespace Go.Proofs.Ytahmdccalgdiaaa
open Go.RowKit

theorem eqSegs_nil (w : World) : Calls Try.prog 17 #[.slice none 0 0, .slice none 0 0, .func (.func 18) #[] #[]] w fun e w' => e = .returned (.bool true) ∧ w = w' := by
  go_enter Try.func17, Try.ntmps17
  go_wp2_with fail
  go_loop [17] (fun i => i = .int .i64 0) (fun _ => 0)
  case atStart => rfl
  case round =>
    obtain rfl := hrel
    go_wp2
    go_ret
    exact ⟨rfl, rfl⟩
theorem eqSecs_nil (w : World) : Calls Try.prog 19 #[.slice none 0 0, .slice none 0 0, .func (.func 20) #[] #[]] w fun e w' => e = .returned (.bool true) ∧ w = w' := by
  go_enter Try.func19, Try.ntmps19
  go_wp2_with fail
  go_loop [17] (fun i => i = .int .i64 0) (fun _ => 0)
  case atStart => rfl
  case round =>
    obtain rfl := hrel
    go_wp2
    go_ret
    exact ⟨rfl, rfl⟩

/-- A model without segments and sections, of 32 bits. -/
def bareC (e s : Int) : Array Value := #[.bool false, .bool false, .int .u8 0, .int .u8 0, .int .u16 0, .int .u16 0, .int .u32 0, .int .u64 e, .slice none 0 0, .slice none 0 0, .int .i64 s]
def md0 (s : Int) : Md := ⟨false, false, 0, 0, 0, 0, 0, 0, [], [], s⟩
theorem md0_ok (s : Int) (h : I64 s) : (md0 s).Ok := ⟨by simp [md0], by simp [md0], by simp [md0], by simp [md0], by simp [md0], by simp [md0], by simp [md0], by simp [md0], h⟩
theorem chk0 : (md0 0).chk = 0 := by decide
theorem chk1 : (md0 1).chk = 10 := by decide

theorem check0 (w : World) : Calls Try.prog 6 #[.agg #[.bool false, .bool false, .int .u8 0, .int .u8 0, .int .u16 0, .int .u16 0, .int .u32 0, .int .u64 0, .slice none 0 0, .slice none 0 0, .int .i64 0]] w fun e w' => e = .returned .nilIface ∧ Grow w w' := by
  have h := check_any (md0 0) (md0_ok 0 (by unfold I64; omega)) none none 0 0 0 0 w ZR.nil ZR.nil
  rw [chk0, eC_zero] at h
  exact h
theorem check1 (w : World) : Calls Try.prog 6 #[.agg #[.bool false, .bool false, .int .u8 0, .int .u8 0, .int .u16 0, .int .u16 0, .int .u32 0, .int .u64 0, .slice none 0 0, .slice none 0 0, .int .i64 1]] w fun e w' => e = .returned (.iface 49 (.int .i64 10)) ∧ Grow w w' := by
  have h := check_any (md0 1) (md0_ok 1 (by unfold I64; omega)) none none 0 0 0 0 w ZR.nil ZR.nil
  rw [chk1, eC_some (by decide)] at h
  exact h

set_option maxHeartbeats 1000000 in
theorem same0 (w : World) : Calls Try.prog 9 #[.agg #[.bool false, .bool false, .int .u8 0, .int .u8 0, .int .u16 0, .int .u16 0, .int .u32 0, .int .u64 0, .slice none 0 0, .slice none 0 0, .int .i64 0], .agg #[.bool false, .bool false, .int .u8 0, .int .u8 0, .int .u16 0, .int .u16 0, .int .u32 0, .int .u64 0, .slice none 0 0, .slice none 0 0, .int .i64 0]] w fun e w' => e = .returned (.bool true) ∧ Grow w w' := by
  go_enter Try.func9, Try.ntmps9
  go_wp2_with (first | (go_at_call 17; refine (eqSegs_nil _).mono ?_; rintro e w' ⟨rfl, rfl⟩) | (go_at_call 19; refine (eqSecs_nil _).mono ?_; rintro e w' ⟨rfl, rfl⟩))
  go_ret
  exact ⟨rfl, (Grow.of_alloc _ _).trans (Grow.of_alloc _ _)⟩
set_option maxHeartbeats 1000000 in
theorem same1 (w : World) : Calls Try.prog 9 #[.agg #[.bool false, .bool false, .int .u8 0, .int .u8 0, .int .u16 0, .int .u16 0, .int .u32 0, .int .u64 0, .slice none 0 0, .slice none 0 0, .int .i64 0], .agg #[.bool false, .bool false, .int .u8 0, .int .u8 0, .int .u16 0, .int .u16 0, .int .u32 0, .int .u64 1, .slice none 0 0, .slice none 0 0, .int .i64 0]] w fun e w' => e = .returned (.bool false) ∧ Grow w w' := by
  go_enter Try.func9, Try.ntmps9
  go_wp2
  go_ret
  exact ⟨rfl, (Grow.of_alloc _ _).trans (Grow.of_alloc _ _)⟩

set_option maxHeartbeats 1000000 in
theorem up14 (w : World) : Calls Try.prog 4 #[] w fun e w' => e = .returned (.bool true) ∧ Grow w w' := by
  go_enter Try.func4, Try.ntmps4
  go_wp2_with fail
  refine (check0 _).mono ?_
  rintro e w1 ⟨rfl, hg1⟩
  have HG1 := Lib.hid hg1
  clear hg1
  go_wp2_with fail
  refine (check1 _).mono ?_
  rintro e w2 ⟨rfl, hg2⟩
  have HG2 : Hid (Grow w w2) := HG1.out.trans hg2
  clear hg2 HG1
  go_wp2_with fail
  refine (code_some 10 (by decide) (by decide) _).mono ?_
  rintro e w' ⟨rfl, rfl⟩
  go_wp2_with fail
  refine (same0 _).mono ?_
  rintro e w3 ⟨rfl, hg3⟩
  have HG3 : Hid (Grow w w3) := HG2.out.trans hg3
  clear hg3 HG2
  go_wp2_with fail
  refine (same1 _).mono ?_
  rintro e w4 ⟨rfl, hg4⟩
  have HG4 : Hid (Grow w w4) := HG3.out.trans hg4
  clear hg4 HG3
  go_wp2
  go_ret
  exact ⟨rfl, HG4.out⟩
end Go.Proofs.Ytahmdccalgdiaaa
