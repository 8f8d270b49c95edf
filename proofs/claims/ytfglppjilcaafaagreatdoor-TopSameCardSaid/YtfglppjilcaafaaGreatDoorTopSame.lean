/-
  Proved here: for every input bezanttop.TopSame returns true, and each argument reads afterwards as it read before (Rows.TopSameCardSaid). Conditions: none but the statement's own.
-/
import Derived.Test.YtfglppjilcaafaaGreatDoorRows
import Derived.WalkKit
import Derived.ProofKit
import Derived.OpenShut
import Derived.ShutString
import Derived.ChangeOld
import Derived.Below
import Derived.Handed
import Derived.ChangeSame
import Derived.ChangeVars
import Derived.Stop.Joined
import Derived.SevenTiedAt
import Derived.Test.YtfglppjilcaafaaGreatDoorCards
import Derived.Test.YtfglppjilcaafaaGreatDoorTie
import Derived.Test.YtfglppjilcaafaaGreatDoorTbH1
import Derived.Test.YtfglppjilcaafaaGreatDoorTbH39
import Derived.Test.YtfglppjilcaafaaGreatDoorTbH36
namespace Go.Proofs.YtfglppjilcaafaaGreatDoor.topSame
open Go.ChangeShapes Go.WideShapes Go.ChangeAt Go.RowKit
open Go.ChangeMaps (open_string shut_string)
set_option linter.unusedVariables false
theorem own : ownKnob Tryz.prog.godebug = none := by kernel_rfl
theorem laidOut : laidOutB Tryz.prog = true := by kernel_rfl
set_option maxRecDepth 100000 in
theorem lifted (os : Os) (started : os.Started) (H : Type) (enc : TypeId × Value → H) :
  ReturnsInHanded {} Tryz.checked os 4 .any (fun w args => (Rows.topSameSpec.pre enc Tryz.prog Tryz.f4 Rows.topSameRow.domain false w args ∧ laidMetH Tryz.prog tied w) ∧ sizedMet enc Tryz.prog Tryz.f4 (OpenSpec.ofChange Rows.topSameSpec) false w args) (Rows.topSameSpec.post enc Tryz.prog Tryz.f4 false true false false) := by
 refine returnsInHanded_of_change_and (C := Tryz.checked) (X := fun w _ => laidMetH Tryz.prog tied w) (fun _ _ _ hh h => h.of_heap hh) own started (by kernel_rfl) Tryz.func4
  (ChangeSpec.witness_at (enc := enc) (C := Tryz.checked) (os := os) (X := fun w _ => laidMetH Tryz.prog tied w) false (laidWorld os) #[.slice none 0 0, .int .u64 0] 8 rfl (by kernel_rfl) (by kernel_rfl) (by kernel_rfl) (by kernel_rfl) (by kernel_rfl) (laidWorld_met os _)) ?_
 intro W base args ds gs before hval0 hW hcnd hsz hL _
 have hdoor := door_of_laid hL
 have hval : ∀ (j : Nat) t v, Tryz.f4.params[j]? = some t → args[j]? = some v → Value.okWide Tryz.prog W .any base t v := hval0
 have hW' := hW
 obtain ⟨p, q, hA0, hV, rfl, hfz, hnd⟩ := hW
 have hA : DataW.TrodAll enc Tryz.prog W 0 (fun _ => true) true Tryz.f4.params.toList args.toList ds p := hA0
 rw [Tryz.params4] at hA hval
 obtain ⟨v0, vs0, d0, ds0, p0, q0, hargs, rfl, rfl, h0, r0⟩ := trodAll_cons hA
 obtain ⟨v1, vs1, d1, ds1, p1, q1, rfl, rfl, rfl, h1, r1⟩ := trodAll_cons r0
 obtain ⟨rfl, rfl, rfl⟩ := trodAll_nil r1
 obtain rfl : args = #[v0, v1] := by cases args; simp_all
 obtain ⟨rfl, rfl⟩ := trodVars_none hV
 have k0 := h0
 have lt0 : ∀ x ∈ p0, x.block < W.heap.size := by obtain ⟨m, hm⟩ := k0; exact DataW.trod_lt m _ _ _ hm
 have k1 := h1
 have lt1 : ∀ x ∈ p1, x.block < W.heap.size := by obtain ⟨m, hm⟩ := k1; exact DataW.trod_lt m _ _ _ hm
 have u0 := hval 0 33 v0 rfl rfl
 have z0 : Light 33 d0 := fun q hq => by simpa using List.all_eq_true.1 hsz q (DataW.weights_mem_each (j := 0) (t := 33) (d := d0) (by rfl) (by rfl) q hq)
 obtain ⟨A0, n0, c0, l0, rfl, g0⟩ := open_row u0 h0
 have u1 := hval 1 28 v1 rfl rfl
 have z1 : Light 28 d1 := fun q hq => by simpa using List.all_eq_true.1 hsz q (DataW.weights_mem_each (j := 1) (t := 28) (d := d1) (by rfl) (by rfl) q hq)
 obtain ⟨x1, rfl, b1⟩ := open_u64 u1 h1
 clear hA0 hval0 hval
 refine (topSame_core A0 n0 c0 l0 x1 b1 W g0 hdoor).mono fun e W' ⟨he, bel⟩ => ?_
 subst he
 exact ⟨_, rfl, _, _, _, [], _, [], hW', trodAll_mk1 (shut_bool Tryz.underlying4 _), (trodAll_cons_mk (Below.trod laidOut (by kernel_rfl) (of_decide_eq_true (by kernel_rfl)) k0 bel lt0) (trodAll_cons_mk (Below.trod laidOut (by kernel_rfl) (of_decide_eq_true (by kernel_rfl)) k1 bel lt1) trodAll_mk0)), rfl, bel.frame _, fun h => by cases h⟩
theorem over : Rows.topSameRow.holds Tryz.pinned (OpenSpec.ofChange Rows.topSameSpec) :=
 OpenClaim.holds_of_wide 4 Tryz.f4 rfl rfl rfl rfl rfl rfl rfl ⟨rfl, rfl, rfl, rfl, rfl⟩ rfl rfl rfl rfl rfl (by kernel_rfl) Tryz.func4 (by kernel_rfl)
  (of_decide_eq_true (by kernel_rfl)) (by unfold Func.isWrapper; first | (rw [if_pos (by decide +kernel)]; kernel_rfl) | (rw [if_neg (by decide +kernel)]; exact ⟨rfl, rfl⟩))
  (fun os started H enc _ => lifted os started H enc)
theorem proved : Rows.TopSameCardSaid :=
 Claim7.holds_tied_plain_at .later [] [.handle] true (true, "d600a74ae11abd55715a1989f3794785234b9df9a4e858907d9c1a9947ddeb49") true
  over (fun _ h => by cases h) (by kernel_rfl) (fun _ h => by cases h) topSame_row_tie rfl ⟨rfl, rfl⟩ (by kernel_rfl) rfl
  (fun f fn hf hfn => by
   obtain rfl : f = 4 := Option.some.inj ((show Tryz.prog.funcNamed "bezant/bezanttop.TopSame" = some 4 by kernel_rfl).symm.trans hf) |>.symm
   obtain rfl : fn = Tryz.f4 := (Option.some.inj (Tryz.func4.symm.trans hfn)).symm
   exact ⟨by kernel_rfl, fun j t ht => by
    rw [Tryz.params4] at ht
    have h3 : Tryz.prog.wantsStandIn t = false := by
     rcases j with _ | _ | j
     ·obtain rfl : 33 = t := by simpa using ht
      kernel_rfl
     ·obtain rfl : 28 = t := by simpa using ht
      kernel_rfl
     ·simp at ht
    exact h3⟩)
  (by kernel_rfl)
#print axioms proved
end Go.Proofs.YtfglppjilcaafaaGreatDoor.topSame
