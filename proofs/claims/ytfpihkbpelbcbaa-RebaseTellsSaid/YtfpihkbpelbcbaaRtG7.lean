/-
  Several texts in one: A region that draws its order and whose last operation changes what the others read.
-/
import Derived.Test.YtfpihkbpelbcbaaRtG1
namespace Go.Proofs.Ytfpihkbpelbcbaa
open Go.RowKit
def waits (ops : Array Oper) : Nat → Nat → Nat → Bool
 | 0, _, _ => false
 | n + 1, z, i => ((ops[z]?).map fun o => o.after.any fun e => Region.binds .any e && (e.on == i || waits ops n e.on i)).getD false
def Closed (ops : Array Oper) (listed : Array Bool) : Prop := ∀ j o, ops[j]? = some o → listed.getD j false = true → ∀ e ∈ o.after, Region.binds .any e = true → listed.getD e.on false = true
theorem Closed.waits {ops : Array Oper} {listed : Array Bool} (h : Closed ops listed) {i : Nat} : ∀ n z, waits ops n z i = true → listed.getD z false = true → listed.getD i false = true
 | 0, _, hw, _ => by simp [Go.Proofs.Ytfpihkbpelbcbaa.waits] at hw
 | n + 1, z, hw, hz => by
  unfold Go.Proofs.Ytfpihkbpelbcbaa.waits at hw
  cases ho : ops[z]? with
  | none => simp [ho] at hw
  | some o =>
   simp only [ho, Option.map_some, Option.getD_some, Array.any_eq_true, Bool.and_eq_true, Bool.or_eq_true, beq_iff_eq] at hw
   obtain ⟨q, hq, hb, hi⟩ := hw
   have h1 := h z o ho hz _ (Array.getElem_mem hq) hb
   rcases hi with hi | hi
   ·rw [← hi]; exact h1
   ·exact h.waits n _ hi h1
theorem Closed.set {ops : Array Oper} {listed : Array Bool} (h : Closed ops listed) {j : Nat} (hj : j ∈ Region.ready .any ops listed) : Closed ops (listed.setIfInBounds j true) := fun k o ho hk e he hb => by
 by_cases hjk : j = k
 ·subst hjk
  obtain ⟨_, o', ho', hall⟩ := mem_ready.1 hj
  rw [ho] at ho'
  injection ho' with ho'
  subst ho'
  exact getD_set_true (hall e he hb)
 ·rw [getD_set_ne false hjk] at hk
  exact getD_set_true (h k o ho hk e he hb)
theorem getD_rep (n i : Nat) : (Array.replicate n false).getD i false = false := by
 rw [Array.getD_eq_getD_getElem?, Array.getElem?_replicate]
 split <;> rfl
theorem Closed.start (ops : Array Oper) : Closed ops (Array.replicate ops.size false) := fun k o _ hk => by rw [getD_rep] at hk; cases hk
def wpAnyZ (P : Program) (ops : Array Oper) (Q : Exit → Act → World → Prop) (S : World → Prop) (z : Nat) : Nat → Array Bool → Act → World → Prop
 | 0, listed, a, w => Region.ready .any ops listed = [] ∧ Q .normal a w
 | fuel + 1, listed, a, w => (Region.ready .any ops listed = [] → Q .normal a w) ∧
  ∀ i ∈ Region.ready .any ops listed, wpOp P ops Q i (fun a' w' => (i ≠ z → S w') ∧ wpAnyZ P ops Q S z fuel (listed.setIfInBounds i true) a' w') a w
section
variable {P : Program} {ops : Array Oper} {Q : Exit → Act → World → Prop} {S S' : World → Prop} {z : Nat} {Y : World → World → Prop} {R : Act → World → Prop}
theorem wpAny_of_Z : ∀ (fuel : Nat) (listed : Array Bool) (a : Act) (w : World), wpAnyZ P ops Q S z fuel listed a w → wpAny P .any ops Q fuel listed a w
 | 0, _, _, _, h => h
 | fuel + 1, _, _, _, h => ⟨h.1, fun i hi => wpOp_mono (fun a' w' h' => wpAny_of_Z fuel _ a' w' h'.2) (h.2 i hi)⟩
theorem wpAnyZ_weaken (hS : ∀ w, S' w → S w) : ∀ (fuel : Nat) (listed : Array Bool) (a : Act) (w : World), wpAnyZ P ops Q S' z fuel listed a w → wpAnyZ P ops Q S z fuel listed a w
 | 0, _, _, _, h => h
 | fuel + 1, _, _, _, h => ⟨h.1, fun i hi => wpOp_mono (fun a' w' h' => ⟨fun hz => hS w' (h'.1 hz), wpAnyZ_weaken hS fuel _ a' w' h'.2⟩) (h.2 i hi)⟩
theorem wpAnyZ_all {rs : List Nat} {fuel : Nat} {listed : Array Bool} {a : Act} {w : World} (hr : Region.ready .any ops listed = rs) (hne : rs ≠ [])
  (h : ∀ i ∈ rs, wpOp P ops Q i (fun a' w' => (i ≠ z → S w') ∧ wpAnyZ P ops Q S z fuel (listed.setIfInBounds i true) a' w') a w) : wpAnyZ P ops Q S z (fuel + 1) listed a w :=
 ⟨fun h0 => absurd (hr ▸ h0) hne, hr ▸ h⟩
theorem wpAnyZ_first {i : Nat} {oi : Oper} {v : Value} (hi : ops[i]? = some oi) (hsel : ∀ (j : Nat) (o : Oper) cs b, ops[j]? = some o → o.op ≠ .select cs b)
  (hQ : ∀ c a w, Q (.panic c) (a.put oi.dst v) w → Q (.panic c) a w) {n : Nat} (hz : waits ops n z i = true) :
  ∀ (fuel : Nat) (listed : Array Bool) (a : Act) (w : World), Closed ops listed →
   (∀ j oj, ops[j]? = some oj → j ≠ i → listed.getD j true = false → (∀ e ∈ oj.after, Region.binds .any e = true → e.on ≠ i) → oi.apart ops oj = true) →
   i ∈ Region.ready .any ops listed → YieldsIf P ops S oi v a → S w →
   wpAnyZ P ops Q S z fuel (listed.setIfInBounds i true) (a.put oi.dst v) w → wpAnyZ P ops Q S z (fuel + 1) listed a w := by
 intro fuel
 induction fuel with
 | zero =>
  intro listed a w _ _ hr hy hS H
  refine ⟨fun h => (by rw [h] at hr; cases hr), fun j hj => ?_⟩
  by_cases hji : j = i
  ·subst hji; exact hy.wpOp hi hS ⟨fun _ => hS, H⟩
  ·have := ready_mono hj hji
   rw [H.1] at this
   cases this
 | succ fuel ih =>
  intro listed a w hcl hfree hr hy hS H
  refine ⟨fun h => (by rw [h] at hr; cases hr), fun j hj => ?_⟩
  by_cases hji : j = i
  ·subst hji; exact hy.wpOp hi hS ⟨fun _ => hS, H⟩
  ·have hil : listed.getD i false = false := by
    have h0 := (mem_ready.1 hr).1
    rcases Nat.lt_or_ge i listed.size with h' | h'
    ·simp [h'] at h0 ⊢; exact h0
    ·simp [Array.getElem?_eq_none h']
   have hjz : j ≠ z := fun e => by
    subst e
    have h1 := (hcl.set hj).waits n j hz (by
     obtain ⟨h0, o, ho, _⟩ := mem_ready.1 hj
     rcases Nat.lt_or_ge j listed.size with h' | h'
     ·simp [h']
     ·simp [Array.getElem?_eq_none h'] at h0)
    rw [getD_set_ne false hji, hil] at h1
    cases h1
   have h1 := H.2 j (ready_mono hj hji)
   obtain ⟨hjun, oj, hoj, hall⟩ := mem_ready.1 hj
   have hnot : ∀ e ∈ oj.after, Region.binds .any e = true → e.on ≠ i := fun e he hb heq => by
    have h1 := hall e he hb
    rw [heq, hil] at h1
    cases h1
   have h2 := wpOp_putIf hoj (hfree j oj hoj hji hjun hnot) (fun cs b => hsel i oi cs b hi) (fun cs b => hsel j oj cs b hoj) hQ hy h1
   have hfree' : ∀ k ok, ops[k]? = some ok → k ≠ i → (listed.setIfInBounds j true).getD k true = false →
     (∀ e ∈ ok.after, Region.binds .any e = true → e.on ≠ i) → oi.apart ops ok = true := fun k ok hk hki hun hno => by
    refine hfree k ok hk hki ?_ hno
    by_cases hjk : j = k
    ·subst hjk; exact hjun
    ·rw [getD_set_ne true hjk] at hun; exact hun
   refine wpOp_mono (fun a' w' h3 => ⟨h3.2.1, ih (listed.setIfInBounds j true) a' w' (hcl.set hj) hfree' (ready_mono hr (Ne.symm hji)) h3.1 (h3.2.1 hjz) ?_⟩) h2
   rw [Array.setIfInBounds_comm _ _ hji]
   exact h3.2.2
attribute [local semireducible] wpChain
theorem wpChainZ_sound (hy : Leap Y) (hs : Region.noSelect ops = true) (hQ : ∀ c a w, ¬ Q (.panic c) a w) (n : Nat) : ∀ (c : Chain) (listed : Array Bool) (a : Act) (w : World), Closed ops listed →
  (∀ a w, R a w → wpAnyZ P ops Q (Y w) z n (Chain.after listed c) a w) →
  Chain.ok ops c listed = true → c.all (fun p => !p.2 || waits ops ops.size z p.1) = true → wpChain P ops Q Y R c a w → wpAnyZ P ops Q (Y w) z (n + c.length) listed a w
 | [], listed, a, w, _, hR, _, _, h => hR a w h
 | (i, true) :: r, listed, a, w, hcl, hR, hB, hW, h => by
  simp only [Chain.ok, Bool.and_eq_true] at hB
  simp only [List.all_cons, Bool.and_eq_true, Bool.not_true, Bool.false_or] at hW
  obtain ⟨o, ho, hh⟩ := h
  rw [List.length_cons, ← Nat.add_assoc]
  have hr : i ∈ Region.ready .any ops listed := by simpa using hB.1.2
  rcases hh with ⟨hw, v, hv, hr'⟩ | ⟨hw, hr'⟩
  ·exact wpAnyZ_first ho (Region.noSelect_spec hs) (fun c a w h => absurd h (hQ _ _ _)) hW.1 _ listed a w hcl (Region.free_spec ho hB.1.1) hr (.inl ⟨hw, hv⟩) (hy.refl w) (wpChainZ_sound hy hs hQ n r _ _ w (hcl.set hr) hR hB.2 hW.2 hr')
  ·exact wpAnyZ_first ho (Region.noSelect_spec hs) (fun c a w h => absurd h (hQ _ _ _)) hW.1 _ listed a w hcl (Region.free_spec ho hB.1.1) hr (.inr ⟨hw, rfl⟩) (hy.refl w) (wpChainZ_sound hy hs hQ n r _ _ w (hcl.set hr) hR hB.2 hW.2 hr')
 | (i, false) :: r, listed, a, w, hcl, hR, hB, hW, h => by
  simp only [Chain.ok, Bool.and_eq_true] at hB
  simp only [List.all_cons, Bool.and_eq_true] at hW
  rw [List.length_cons, ← Nat.add_assoc]
  have hr : Region.ready .any ops listed = [i] := by simpa using hB.1
  refine wpAnyZ_all (rs := [i]) hr (by simp) ?_
  intro k hk
  obtain rfl : k = i := by simpa using hk
  exact wpOp_mono (fun a' w' h' => ⟨fun _ => h'.1, wpAnyZ_weaken (fun W hW => hy.trans _ _ _ h'.1 hW) _ _ _ _ (wpChainZ_sound hy hs hQ n r _ a' w' (hcl.set (by rw [hr]; simp)) hR hB.2 hW.2 h'.2)⟩) h
theorem wp_region_last (hy : Leap Y) {id : Nat} {a : Act} {w : World} (c : Chain) (z : Nat) (hm : P.follows .mixedOrders = true) (hs : Region.noSelect ops = true)
  (hB : (Chain.ok ops c (Array.replicate ops.size false) && (Region.ready .any ops (Chain.after (Array.replicate ops.size false) c) == [z]) && (c.length + 1 == ops.size) &&
   (Region.ready .any ops ((Chain.after (Array.replicate ops.size false) c).setIfInBounds z true) == []) && c.all (fun p => !p.2 || waits ops ops.size z p.1)) = true)
  (h : wpChain P ops (NoPanic Q) Y (fun a w => wpOp P ops (NoPanic Q) z (fun a' w' => Q .normal a' w') a w) c a w.drew) : (Code.region id ops true).wp P Q a w := by
 simp only [Bool.and_eq_true] at hB
 obtain ⟨⟨⟨⟨b1, b2⟩, b3⟩, b4⟩, b5⟩ := hB
 have hl : c.length + 1 = ops.size := by simpa using b3
 refine wp_region_noPanic (wp_region_any hm (wpAny_of_Z (S := Y w.drew) (z := z) _ _ _ _ ?_))
 have := wpChainZ_sound (P := P) (ops := ops) (Q := NoPanic Q) (Y := Y) (z := z) (R := fun a w => wpOp P ops (NoPanic Q) z (fun a' w' => Q .normal a' w') a w) hy hs (fun _ _ _ h => h) 1 c (Array.replicate ops.size false) a w.drew (Closed.start ops)
  (fun a w h => by
   have hr : Region.ready .any ops (Chain.after (Array.replicate ops.size false) c) = [z] := by simpa using b2
   refine wpAnyZ_all (fuel := 0) (rs := [z]) hr (by simp) ?_
   intro k hk
   obtain rfl : k = z := by simpa using hk
   exact wpOp_mono (fun a' w' h' => ⟨fun e => absurd rfl e, by simpa using b4, h'⟩) h) b1 b5 h
 rw [Nat.add_comm, hl] at this
 exact this
theorem last_op {l rest : List Oper} {i : Nat} {a : Act} {w : World} {o : Oper} (hi : l.drop i = o :: rest) (hw : Region.wanted o (yielded l.toArray a.tmps) = true)
  (h : ∀ K : Act → World → Prop, (∀ a' w', R a' w' → K a' w') → o.wp P a w K Q) : wpOp P l.toArray Q i (fun a' w' => R a' w') a w := by
 unfold wpOp
 simp only [at_of_drop hi, hw, if_true]
 exact .inl (h _ fun a' w' h1 => h1)
end
end Go.Proofs.Ytfpihkbpelbcbaa
