/-
  Proved here: for every input bezanttop.TopFinds returns true, and each argument reads afterwards as it read before (Rows.TopFindsCardSaid). Conditions: none but the statement's own.
-/
import Derived.Test.YtfbimboemahhhaaGreatDoorRows
import Derived.WalkKit
import Derived.ProofKit
import Derived.OpenShut
import Derived.ShutString
import Derived.ChangeOld
import Derived.Below
import Derived.Handed
import Derived.ChangeSame
import Derived.ChangeVars
import Derived.Stop.Joined
import Derived.SevenTiedAt
import Derived.Test.YtfbimboemahhhaaGreatDoorCards
import Derived.Test.YtfbimboemahhhaaGreatDoorTie
import Derived.Test.YtfbimboemahhhaaGreatDoorTfG1
import Derived.Test.YtfbimboemahhhaaGreatDoorTfG41
namespace Go.Proofs.YtfbimboemahhhaaGreatDoor.topFinds
open Go.ChangeShapes Go.WideShapes Go.ChangeAt Go.RowKit
open Go.ChangeMaps (open_string shut_string)
set_option linter.unusedVariables false
theorem own : ownKnob Tryz.prog.godebug = none := by kernel_rfl
theorem laidOut : laidOutB Tryz.prog = true := by kernel_rfl
set_option maxRecDepth 100000 in
theorem lifted (os : Os) (started : os.Started) (H : Type) (enc : TypeId × Value → H) :
  ReturnsInHanded {} Tryz.checked os 3 .any (fun w args => (Rows.topFindsSpec.pre enc Tryz.prog Tryz.f3 Rows.topFindsRow.domain false w args ∧ laidMetH Tryz.prog tied w) ∧ sizedMet enc Tryz.prog Tryz.f3 (OpenSpec.ofChange Rows.topFindsSpec) false w args) (Rows.topFindsSpec.post enc Tryz.prog Tryz.f3 false true false false) := by
 refine returnsInHanded_of_change_and (C := Tryz.checked) (X := fun w _ => laidMetH Tryz.prog tied w) (fun _ _ _ hh h => h.of_heap hh) own started (by kernel_rfl) Tryz.func3
  (ChangeSpec.witness_at (enc := enc) (C := Tryz.checked) (os := os) (X := fun w _ => laidMetH Tryz.prog tied w) false (laidWorld os) #[.agg #[.bool false, .bool false], .slice none 0 0, .int .i64 0, .string { data := #[] }] 8 rfl (by kernel_rfl) (by kernel_rfl) (by kernel_rfl) (by kernel_rfl) (by kernel_rfl) (laidWorld_met os _)) ?_
 intro W base args ds gs before hval0 hW hcnd hsz hL _
 have hdoor := door_of_laid hL
 have hval : ∀ (j : Nat) t v, Tryz.f3.params[j]? = some t → args[j]? = some v → Value.okWide Tryz.prog W .any base t v := hval0
 have hW' := hW
 obtain ⟨p, q, hA0, hV, rfl, hfz, hnd⟩ := hW
 have hA : DataW.TrodAll enc Tryz.prog W 0 (fun _ => true) true Tryz.f3.params.toList args.toList ds p := hA0
 rw [Tryz.params3] at hA hval
 obtain ⟨v0, vs0, d0, ds0, p0, q0, hargs, rfl, rfl, h0, r0⟩ := trodAll_cons hA
 obtain ⟨v1, vs1, d1, ds1, p1, q1, rfl, rfl, rfl, h1, r1⟩ := trodAll_cons r0
 obtain ⟨v2, vs2, d2, ds2, p2, q2, rfl, rfl, rfl, h2, r2⟩ := trodAll_cons r1
 obtain ⟨v3, vs3, d3, ds3, p3, q3, rfl, rfl, rfl, h3, r3⟩ := trodAll_cons r2
 obtain ⟨rfl, rfl, rfl⟩ := trodAll_nil r3
 obtain rfl : args = #[v0, v1, v2, v3] := by cases args; simp_all
 obtain ⟨rfl, rfl⟩ := trodVars_none hV
 have k0 := h0
 have lt0 : ∀ x ∈ p0, x.block < W.heap.size := by obtain ⟨m, hm⟩ := k0; exact DataW.trod_lt m _ _ _ hm
 have k1 := h1
 have lt1 : ∀ x ∈ p1, x.block < W.heap.size := by obtain ⟨m, hm⟩ := k1; exact DataW.trod_lt m _ _ _ hm
 have k2 := h2
 have lt2 : ∀ x ∈ p2, x.block < W.heap.size := by obtain ⟨m, hm⟩ := k2; exact DataW.trod_lt m _ _ _ hm
 have k3 := h3
 have lt3 : ∀ x ∈ p3, x.block < W.heap.size := by obtain ⟨m, hm⟩ := k3; exact DataW.trod_lt m _ _ _ hm
 have u0 := hval 0 23 v0 rfl rfl
 have z0 : Light 23 d0 := fun q hq => by simpa using List.all_eq_true.1 hsz q (DataW.weights_mem_each (j := 0) (t := 23) (d := d0) (by rfl) (by rfl) q hq)
 obtain ⟨a0, b0, rfl⟩ := open_form u0 h0
 have u1 := hval 1 24 v1 rfl rfl
 have z1 : Light 24 d1 := fun q hq => by simpa using List.all_eq_true.1 hsz q (DataW.weights_mem_each (j := 1) (t := 24) (d := d1) (by rfl) (by rfl) q hq)
 obtain ⟨A1, n1, c1, l1, rfl, g1⟩ := open_names u1 h1
 have u2 := hval 2 3 v2 rfl rfl
 have z2 : Light 3 d2 := fun q hq => by simpa using List.all_eq_true.1 hsz q (DataW.weights_mem_each (j := 2) (t := 3) (d := d2) (by rfl) (by rfl) q hq)
 obtain ⟨y2, rfl, g2, g2x⟩ := open_i64 u2 h2
 have u3 := hval 3 9 v3 rfl rfl
 have z3 : Light 9 d3 := fun q hq => by simpa using List.all_eq_true.1 hsz q (DataW.weights_mem_each (j := 3) (t := 9) (d := d3) (by rfl) (by rfl) q hq)
 obtain ⟨s3, rfl, _⟩ := open_string Tryz.underlying9 u3 h3
 clear hA0 hval0 hval
 refine (topFinds_core a0 b0 A1 n1 c1 l1 y2 s3 s3.data.toList W g1 (bstr_of s3).symm hdoor).mono fun e W' ⟨he, bel⟩ => ?_
 subst he
 exact ⟨_, rfl, _, _, _, [], _, [], hW', trodAll_mk1 (shut_bool Tryz.underlying4 _), (trodAll_cons_mk (Below.trod laidOut (by kernel_rfl) (of_decide_eq_true (by kernel_rfl)) k0 bel lt0) (trodAll_cons_mk (Below.trod laidOut (by kernel_rfl) (of_decide_eq_true (by kernel_rfl)) k1 bel lt1) (trodAll_cons_mk (Below.trod laidOut (by kernel_rfl) (of_decide_eq_true (by kernel_rfl)) k2 bel lt2) (trodAll_cons_mk (Below.trod laidOut (by kernel_rfl) (of_decide_eq_true (by kernel_rfl)) k3 bel lt3) trodAll_mk0)))), rfl, bel.frame _, fun h => by cases h⟩
theorem over : Rows.topFindsRow.holds Tryz.pinned (OpenSpec.ofChange Rows.topFindsSpec) :=
 OpenClaim.holds_of_wide 3 Tryz.f3 rfl rfl rfl rfl rfl rfl rfl ⟨rfl, rfl, rfl, rfl, rfl⟩ rfl rfl rfl rfl rfl (by kernel_rfl) Tryz.func3 (by kernel_rfl)
  (of_decide_eq_true (by kernel_rfl)) (by unfold Func.isWrapper; first | (rw [if_pos (by decide +kernel)]; kernel_rfl) | (rw [if_neg (by decide +kernel)]; exact ⟨rfl, rfl⟩))
  (fun os started H enc _ => lifted os started H enc)
theorem proved : Rows.TopFindsCardSaid :=
 Claim7.holds_tied_plain_at .later [] [.handle] true (true, "b9bdd8b0ee795471f43996188fae6c7de23fdb8cd2165f9a8a23692f67e12aca") true
  over (fun _ h => by cases h) (by kernel_rfl) (fun _ h => by cases h) topFinds_row_tie rfl ⟨rfl, rfl⟩ (by kernel_rfl) rfl
  (fun f fn hf hfn => by
   obtain rfl : f = 3 := Option.some.inj ((show Tryz.prog.funcNamed "bezant/bezanttop.TopFinds" = some 3 by kernel_rfl).symm.trans hf) |>.symm
   obtain rfl : fn = Tryz.f3 := (Option.some.inj (Tryz.func3.symm.trans hfn)).symm
   exact ⟨by kernel_rfl, fun j t ht => by
    rw [Tryz.params3] at ht
    have h3 : Tryz.prog.wantsStandIn t = false := by
     rcases j with _ | _ | _ | _ | j
     ·obtain rfl : 23 = t := by simpa using ht
      kernel_rfl
     ·obtain rfl : 24 = t := by simpa using ht
      kernel_rfl
     ·obtain rfl : 3 = t := by simpa using ht
      kernel_rfl
     ·obtain rfl : 9 = t := by simpa using ht
      kernel_rfl
     ·simp at ht
    exact h3⟩)
  (by kernel_rfl)
#print axioms proved
end Go.Proofs.YtfbimboemahhhaaGreatDoor.topFinds
