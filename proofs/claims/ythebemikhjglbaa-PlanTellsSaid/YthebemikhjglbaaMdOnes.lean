/-
  The contract of math/bits.OnesCount64.
-/
import Derived.Test.YthebemikhjglbaaRows
import Derived.Test.YthebemikhjglbaaPlPre
import Derived.Laws.Bits64b
import Derived.Laws.Bits128
import Derived.WalkKit
import Derived.Lib.Hide
namespace Go.Proofs.Ythebemikhjglbaa
open Go.RowKit

theorem ones_any (x : Nat) (w : World) (hx : x < 18446744073709551616) : Calls Try.prog 53 #[.int .u64 x] w fun e w' => e = .returned (.int .i64 (ones x : Nat)) ∧ w = w' := by
  obtain ⟨a, ha⟩ : ∃ a, ((x / 2) &&& 6148914691236517205) + (x &&& 6148914691236517205) = a := ⟨_, rfl⟩
  obtain ⟨b, hb⟩ : ∃ b, ((a / 4) &&& 3689348814741910323) + (a &&& 3689348814741910323) = b := ⟨_, rfl⟩
  obtain ⟨c, hc⟩ : ∃ c, (b / 16 + b) &&& 1085102592571150095 = c := ⟨_, rfl⟩
  obtain ⟨d, e, f, hd, he, hf, hm, lc, ld, le, lf, lb, la⟩ := ones_steps x a b c ha hb hc
  have key : ∀ (u m : Nat) (U M : Int), U = (u : Int) → M = (m : Int) → u < 18446744073709551616 → m < 18446744073709551616 → bits BinOp.and IntKind.u64 U M = ((u &&& m : Nat) : Int) := fun u m U M hU hM h1 h2 => by rw [hU, hM]; exact bits_and_u64_nat u m h1 h2
  have q1 := key (x / 2) 6148914691236517205 ((x : Int) / 2) 6148914691236517205 (by omega) rfl (by omega) (by omega)
  have q2 := key x 6148914691236517205 (x : Int) 6148914691236517205 rfl rfl hx (by omega)
  have q3 := key (a / 4) 3689348814741910323 ((a : Int) / 4) 3689348814741910323 (by omega) rfl (by omega) (by omega)
  have q4 := key a 3689348814741910323 (a : Int) 3689348814741910323 rfl rfl (by omega) (by omega)
  have q5 := key (b / 16 + b) 1085102592571150095 ((b : Int) / 16 + (b : Int)) 1085102592571150095 (by omega) rfl (by omega) (by omega)
  have r1 : IntKind.u64.wrap ((((x / 2) &&& 6148914691236517205 : Nat) : Int) + ((x &&& 6148914691236517205 : Nat) : Int)) = (a : Int) := by rw [IntKind.wrap_u64]; omega
  have r2 : IntKind.u64.wrap ((((a / 4) &&& 3689348814741910323 : Nat) : Int) + ((a &&& 3689348814741910323 : Nat) : Int)) = (b : Int) := by rw [IntKind.wrap_u64]; omega
  rw [hc] at q5
  generalize (x / 2) &&& 6148914691236517205 = u1 at q1 r1
  generalize x &&& 6148914691236517205 = u2 at q2 r1
  generalize (a / 4) &&& 3689348814741910323 = u3 at q3 r2
  generalize a &&& 3689348814741910323 = u4 at q4 r2
  have r3 : IntKind.u64.wrap ((b : Int) / 16 + (b : Int)) = (b : Int) / 16 + (b : Int) := by rw [IntKind.wrap_u64]; omega
  have r4 : IntKind.u64.wrap ((c : Int) + (c : Int) / 256) = (d : Int) := by rw [IntKind.wrap_u64]; omega
  have r5 : IntKind.u64.wrap ((d : Int) + (d : Int) / 65536) = (e : Int) := by rw [IntKind.wrap_u64]; omega
  have r6 : IntKind.u64.wrap ((e : Int) + (e : Int) / 4294967296) = (f : Int) := by rw [IntKind.wrap_u64]; omega
  have r7 : wrap64 (f : Int) = (f : Int) := by unfold wrap64; omega
  have q6 : bits BinOp.and IntKind.i64 (f : Int) 127 = ((f % 128 : Nat) : Int) := by rw [i64_and127]; omega
  have HM := Lib.hid hm
  have Q1 := Lib.hid q1
  have Q2 := Lib.hid q2
  have Q3 := Lib.hid q3
  have Q4 := Lib.hid q4
  have Q5 := Lib.hid q5
  have Q6 := Lib.hid q6
  have R1 := Lib.hid r1
  have R2 := Lib.hid r2
  have R3 := Lib.hid r3
  have R4 := Lib.hid r4
  have R5 := Lib.hid r5
  have R6 := Lib.hid r6
  have R7 := Lib.hid r7
  clear key ha hb hc hd he hf hm lc ld le lf lb la hx q1 q2 q3 q4 q5 q6 r1 r2 r3 r4 r5 r6 r7
  go_enter Try.func53, Try.ntmps53
  go_wp2
  go_ret
  refine ⟨ret_int ?_, rfl⟩
  simp only [Q1.out, Q2.out, R1.out, Q3.out, Q4.out, R2.out, R3.out, Q5.out, R4.out, R5.out, R6.out, R7.out, Q6.out, HM.out]
end Go.Proofs.Ythebemikhjglbaa
