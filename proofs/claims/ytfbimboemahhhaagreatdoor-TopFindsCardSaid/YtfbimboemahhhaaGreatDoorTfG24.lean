/-
  Several texts in one: A region that draws its order and whose last operation changes what the others read; What of an image's making stays; The contract of bytes; The contracts of image.
-/
import Derived.Test.YtfbimboemahhhaaGreatDoorTfG1
import Derived.Test.YtfbimboemahhhaaGreatDoorTfG22
import Derived.Test.YtfbimboemahhhaaGreatDoorTfG6
import Derived.Test.YtfbimboemahhhaaGreatDoorRows
import Derived.Test.YtfbimboemahhhaaGreatDoorTfG5
import Derived.Test.YtfbimboemahhhaaGreatDoorTfG21
namespace Go.Proofs.YtfbimboemahhhaaGreatDoor
open Go.Lib (hid)
open Go.RowKit
def waits (ops : Array Oper) : Nat → Nat → Nat → Bool
 | 0, _, _ => false
 | n + 1, z, i => ((ops[z]?).map fun o => o.after.any fun e => Region.binds .any e && (e.on == i || waits ops n e.on i)).getD false
def Closed (ops : Array Oper) (listed : Array Bool) : Prop := ∀ j o, ops[j]? = some o → listed.getD j false = true → ∀ e ∈ o.after, Region.binds .any e = true → listed.getD e.on false = true
theorem Closed.waits {ops : Array Oper} {listed : Array Bool} (h : Closed ops listed) {i : Nat} : ∀ n z, waits ops n z i = true → listed.getD z false = true → listed.getD i false = true
 | 0, _, hw, _ => by simp [Go.Proofs.YtfbimboemahhhaaGreatDoor.waits] at hw
 | n + 1, z, hw, hz => by
  unfold Go.Proofs.YtfbimboemahhhaaGreatDoor.waits at hw
  cases ho : ops[z]? with
  | none => simp [ho] at hw
  | some o =>
   simp only [ho, Option.map_some, Option.getD_some, Array.any_eq_true, Bool.and_eq_true, Bool.or_eq_true, beq_iff_eq] at hw
   obtain ⟨q, hq, hb, hi⟩ := hw
   have h1 := h z o ho hz _ (Array.getElem_mem hq) hb
   rcases hi with hi | hi
   ·rw [← hi]; exact h1
   ·exact h.waits n _ hi h1
theorem Closed.set {ops : Array Oper} {listed : Array Bool} (h : Closed ops listed) {j : Nat} (hj : j ∈ Region.ready .any ops listed) : Closed ops (listed.setIfInBounds j true) := fun k o ho hk e he hb => by
 by_cases hjk : j = k
 ·subst hjk
  obtain ⟨_, o', ho', hall⟩ := mem_ready.1 hj
  rw [ho] at ho'
  injection ho' with ho'
  subst ho'
  exact getD_set_true (hall e he hb)
 ·rw [getD_set_ne false hjk] at hk
  exact getD_set_true (h k o ho hk e he hb)
theorem getD_rep (n i : Nat) : (Array.replicate n false).getD i false = false := by
 rw [Array.getD_eq_getD_getElem?, Array.getElem?_replicate]
 split <;> rfl
theorem Closed.start (ops : Array Oper) : Closed ops (Array.replicate ops.size false) := fun k o _ hk => by rw [getD_rep] at hk; cases hk
def wpAnyZ (P : Program) (ops : Array Oper) (Q : Exit → Act → World → Prop) (S : World → Prop) (z : Nat) : Nat → Array Bool → Act → World → Prop
 | 0, listed, a, w => Region.ready .any ops listed = [] ∧ Q .normal a w
 | fuel + 1, listed, a, w => (Region.ready .any ops listed = [] → Q .normal a w) ∧
  ∀ i ∈ Region.ready .any ops listed, wpOp P ops Q i (fun a' w' => (i ≠ z → S w') ∧ wpAnyZ P ops Q S z fuel (listed.setIfInBounds i true) a' w') a w
section
variable {P : Program} {ops : Array Oper} {Q : Exit → Act → World → Prop} {S S' : World → Prop} {z : Nat} {Y : World → World → Prop} {R : Act → World → Prop}
theorem wpAny_of_Z : ∀ (fuel : Nat) (listed : Array Bool) (a : Act) (w : World), wpAnyZ P ops Q S z fuel listed a w → wpAny P .any ops Q fuel listed a w
 | 0, _, _, _, h => h
 | fuel + 1, _, _, _, h => ⟨h.1, fun i hi => wpOp_mono (fun a' w' h' => wpAny_of_Z fuel _ a' w' h'.2) (h.2 i hi)⟩
theorem wpAnyZ_weaken (hS : ∀ w, S' w → S w) : ∀ (fuel : Nat) (listed : Array Bool) (a : Act) (w : World), wpAnyZ P ops Q S' z fuel listed a w → wpAnyZ P ops Q S z fuel listed a w
 | 0, _, _, _, h => h
 | fuel + 1, _, _, _, h => ⟨h.1, fun i hi => wpOp_mono (fun a' w' h' => ⟨fun hz => hS w' (h'.1 hz), wpAnyZ_weaken hS fuel _ a' w' h'.2⟩) (h.2 i hi)⟩
theorem wpAnyZ_all {rs : List Nat} {fuel : Nat} {listed : Array Bool} {a : Act} {w : World} (hr : Region.ready .any ops listed = rs) (hne : rs ≠ [])
  (h : ∀ i ∈ rs, wpOp P ops Q i (fun a' w' => (i ≠ z → S w') ∧ wpAnyZ P ops Q S z fuel (listed.setIfInBounds i true) a' w') a w) : wpAnyZ P ops Q S z (fuel + 1) listed a w :=
 ⟨fun h0 => absurd (hr ▸ h0) hne, hr ▸ h⟩
theorem wpAnyZ_first {i : Nat} {oi : Oper} {v : Value} (hi : ops[i]? = some oi) (hsel : ∀ (j : Nat) (o : Oper) cs b, ops[j]? = some o → o.op ≠ .select cs b)
  (hQ : ∀ c a w, Q (.panic c) (a.put oi.dst v) w → Q (.panic c) a w) {n : Nat} (hz : waits ops n z i = true) :
  ∀ (fuel : Nat) (listed : Array Bool) (a : Act) (w : World), Closed ops listed →
   (∀ j oj, ops[j]? = some oj → j ≠ i → listed.getD j true = false → (∀ e ∈ oj.after, Region.binds .any e = true → e.on ≠ i) → oi.apart ops oj = true) →
   i ∈ Region.ready .any ops listed → YieldsIf P ops S oi v a → S w →
   wpAnyZ P ops Q S z fuel (listed.setIfInBounds i true) (a.put oi.dst v) w → wpAnyZ P ops Q S z (fuel + 1) listed a w := by
 intro fuel
 induction fuel with
 | zero =>
  intro listed a w _ _ hr hy hS H
  refine ⟨fun h => (by rw [h] at hr; cases hr), fun j hj => ?_⟩
  by_cases hji : j = i
  ·subst hji; exact hy.wpOp hi hS ⟨fun _ => hS, H⟩
  ·have := ready_mono hj hji
   rw [H.1] at this
   cases this
 | succ fuel ih =>
  intro listed a w hcl hfree hr hy hS H
  refine ⟨fun h => (by rw [h] at hr; cases hr), fun j hj => ?_⟩
  by_cases hji : j = i
  ·subst hji; exact hy.wpOp hi hS ⟨fun _ => hS, H⟩
  ·have hil : listed.getD i false = false := by
    have h0 := (mem_ready.1 hr).1
    rcases Nat.lt_or_ge i listed.size with h' | h'
    ·simp [h'] at h0 ⊢; exact h0
    ·simp [Array.getElem?_eq_none h']
   have hjz : j ≠ z := fun e => by
    subst e
    have h1 := (hcl.set hj).waits n j hz (by
     obtain ⟨h0, o, ho, _⟩ := mem_ready.1 hj
     rcases Nat.lt_or_ge j listed.size with h' | h'
     ·simp [h']
     ·simp [Array.getElem?_eq_none h'] at h0)
    rw [getD_set_ne false hji, hil] at h1
    cases h1
   have h1 := H.2 j (ready_mono hj hji)
   obtain ⟨hjun, oj, hoj, hall⟩ := mem_ready.1 hj
   have hnot : ∀ e ∈ oj.after, Region.binds .any e = true → e.on ≠ i := fun e he hb heq => by
    have h1 := hall e he hb
    rw [heq, hil] at h1
    cases h1
   have h2 := wpOp_putIf hoj (hfree j oj hoj hji hjun hnot) (fun cs b => hsel i oi cs b hi) (fun cs b => hsel j oj cs b hoj) hQ hy h1
   have hfree' : ∀ k ok, ops[k]? = some ok → k ≠ i → (listed.setIfInBounds j true).getD k true = false →
     (∀ e ∈ ok.after, Region.binds .any e = true → e.on ≠ i) → oi.apart ops ok = true := fun k ok hk hki hun hno => by
    refine hfree k ok hk hki ?_ hno
    by_cases hjk : j = k
    ·subst hjk; exact hjun
    ·rw [getD_set_ne true hjk] at hun; exact hun
   refine wpOp_mono (fun a' w' h3 => ⟨h3.2.1, ih (listed.setIfInBounds j true) a' w' (hcl.set hj) hfree' (ready_mono hr (Ne.symm hji)) h3.1 (h3.2.1 hjz) ?_⟩) h2
   rw [Array.setIfInBounds_comm _ _ hji]
   exact h3.2.2
attribute [local semireducible] wpChain
theorem wpChainZ_sound (hy : Leap Y) (hs : Region.noSelect ops = true) (hQ : ∀ c a w, ¬ Q (.panic c) a w) (n : Nat) : ∀ (c : Chain) (listed : Array Bool) (a : Act) (w : World), Closed ops listed →
  (∀ a w, R a w → wpAnyZ P ops Q (Y w) z n (Chain.after listed c) a w) →
  Chain.ok ops c listed = true → c.all (fun p => !p.2 || waits ops ops.size z p.1) = true → wpChain P ops Q Y R c a w → wpAnyZ P ops Q (Y w) z (n + c.length) listed a w
 | [], listed, a, w, _, hR, _, _, h => hR a w h
 | (i, true) :: r, listed, a, w, hcl, hR, hB, hW, h => by
  simp only [Chain.ok, Bool.and_eq_true] at hB
  simp only [List.all_cons, Bool.and_eq_true, Bool.not_true, Bool.false_or] at hW
  obtain ⟨o, ho, hh⟩ := h
  rw [List.length_cons, ← Nat.add_assoc]
  have hr : i ∈ Region.ready .any ops listed := by simpa using hB.1.2
  rcases hh with ⟨hw, v, hv, hr'⟩ | ⟨hw, hr'⟩
  ·exact wpAnyZ_first ho (Region.noSelect_spec hs) (fun c a w h => absurd h (hQ _ _ _)) hW.1 _ listed a w hcl (Region.free_spec ho hB.1.1) hr (.inl ⟨hw, hv⟩) (hy.refl w) (wpChainZ_sound hy hs hQ n r _ _ w (hcl.set hr) hR hB.2 hW.2 hr')
  ·exact wpAnyZ_first ho (Region.noSelect_spec hs) (fun c a w h => absurd h (hQ _ _ _)) hW.1 _ listed a w hcl (Region.free_spec ho hB.1.1) hr (.inr ⟨hw, rfl⟩) (hy.refl w) (wpChainZ_sound hy hs hQ n r _ _ w (hcl.set hr) hR hB.2 hW.2 hr')
 | (i, false) :: r, listed, a, w, hcl, hR, hB, hW, h => by
  simp only [Chain.ok, Bool.and_eq_true] at hB
  simp only [List.all_cons, Bool.and_eq_true] at hW
  rw [List.length_cons, ← Nat.add_assoc]
  have hr : Region.ready .any ops listed = [i] := by simpa using hB.1
  refine wpAnyZ_all (rs := [i]) hr (by simp) ?_
  intro k hk
  obtain rfl : k = i := by simpa using hk
  exact wpOp_mono (fun a' w' h' => ⟨fun _ => h'.1, wpAnyZ_weaken (fun W hW => hy.trans _ _ _ h'.1 hW) _ _ _ _ (wpChainZ_sound hy hs hQ n r _ a' w' (hcl.set (by rw [hr]; simp)) hR hB.2 hW.2 h'.2)⟩) h
theorem wp_region_last (hy : Leap Y) {id : Nat} {a : Act} {w : World} (c : Chain) (z : Nat) (hm : P.follows .mixedOrders = true) (hs : Region.noSelect ops = true)
  (hB : (Chain.ok ops c (Array.replicate ops.size false) && (Region.ready .any ops (Chain.after (Array.replicate ops.size false) c) == [z]) && (c.length + 1 == ops.size) &&
   (Region.ready .any ops ((Chain.after (Array.replicate ops.size false) c).setIfInBounds z true) == []) && c.all (fun p => !p.2 || waits ops ops.size z p.1)) = true)
  (h : wpChain P ops (NoPanic Q) Y (fun a w => wpOp P ops (NoPanic Q) z (fun a' w' => Q .normal a' w') a w) c a w.drew) : (Code.region id ops true).wp P Q a w := by
 simp only [Bool.and_eq_true] at hB
 obtain ⟨⟨⟨⟨b1, b2⟩, b3⟩, b4⟩, b5⟩ := hB
 have hl : c.length + 1 = ops.size := by simpa using b3
 refine wp_region_noPanic (wp_region_any hm (wpAny_of_Z (S := Y w.drew) (z := z) _ _ _ _ ?_))
 have := wpChainZ_sound (P := P) (ops := ops) (Q := NoPanic Q) (Y := Y) (z := z) (R := fun a w => wpOp P ops (NoPanic Q) z (fun a' w' => Q .normal a' w') a w) hy hs (fun _ _ _ h => h) 1 c (Array.replicate ops.size false) a w.drew (Closed.start ops)
  (fun a w h => by
   have hr : Region.ready .any ops (Chain.after (Array.replicate ops.size false) c) = [z] := by simpa using b2
   refine wpAnyZ_all (fuel := 0) (rs := [z]) hr (by simp) ?_
   intro k hk
   obtain rfl : k = z := by simpa using hk
   exact wpOp_mono (fun a' w' h' => ⟨fun e => absurd rfl e, by simpa using b4, h'⟩) h) b1 b5 h
 rw [Nat.add_comm, hl] at this
 exact this
theorem last_op {l rest : List Oper} {i : Nat} {a : Act} {w : World} {o : Oper} (hi : l.drop i = o :: rest) (hw : Region.wanted o (yielded l.toArray a.tmps) = true)
  (h : ∀ K : Act → World → Prop, (∀ a' w', R a' w' → K a' w') → o.wp P a w K Q) : wpOp P l.toArray Q i (fun a' w' => R a' w') a w := by
 unfold wpOp
 simp only [at_of_drop hi, hw, if_true]
 exact .inl (h _ fun a' w' h1 => h1)
end
set_option linter.unusedVariables false
structure IB (w W : World) (g2 g3 : Nat) (en : Nat) (S : Value) : Prop where
 z : Blk W g2 73 #[.int .u64 0, .slice none 0 0]
 x : Blk W g3 73 #[.int .u64 (en : Nat), S]
 g : Grow w W
structure IBA (w : World) (g2 g3 base : Nat) : Prop where
 b : base = g3 + 1
 a2 : g2 < g3
 w2 : w.heap.size ≤ g2
section
variable {w W W' : World} {g2 g3 base en : Nat} {S : Value}
theorem IB.grow (h : IB w W g2 g3 en S) (hg : Grow W W') : IB w W' g2 g3 en S := ⟨h.z.grow hg, h.x.grow hg, h.g.trans hg⟩
theorem IB.by_ (h : IB w W g2 g3 en S) (a : IBA w g2 g3 base) {row : Option Nat} (hg : W.grownBy W' row) (hr : ∀ k, row = some k → base ≤ k) : IB w W' g2 g3 en S :=
 have key : ∀ g, g < base → some g ≠ row := fun g hl e => by have := hr g e.symm; omega
 ⟨h.z.grownBy hg (key _ (by have := a.b; have := a.a2; omega)), h.x.grownBy hg (key _ (by have := a.b; omega)), h.g.trans' ((Below.refl _ W).grown hg h.g.size fun k hk => by have := hr k hk; have := a.b; have := a.a2; have := a.w2; omega)⟩
theorem IB.set (h : IB w W g2 g3 en S) (a : IBA w g2 g3 base) (S' : Value) : IB w (W.setRow g3 #[.int .u64 (en : Nat), S']) g2 g3 en S' :=
 ⟨h.z.other (by have := a.a2; omega) _, h.x.set _, h.g.set (by have := a.a2; have := a.w2; omega) _⟩
theorem IB.base_le (h : IB w W g2 g3 en S) (a : IBA w g2 g3 base) : base ≤ W.heap.size := by have := h.x.lt; have := a.b; omega
theorem ZO.under {e : TypeId} {z : Nat} {A : Option Addr} {n c : Nat} {l : List (Array Value)} (h : ZO W base e z A n c l) {g : Nat} (hg : own A = some g) : g < W.heap.size := by
 rcases h.1.2 with ⟨hv, _⟩ | ⟨g', cap, cur, hv, _, hh, _⟩
 ·injection hv with e1 _ _; subst e1; cases hg
 ·injection hv with e1 _ _; subst e1
  have e3 : g' = g := Option.some.inj hg
  subst e3
  rcases Nat.lt_or_ge g' W.heap.size with h | h
  ·exact h
  ·rw [Array.getElem?_eq_none h] at hh; cases hh
theorem IB.apart {e : TypeId} {z : Nat} {A : Option Addr} {n c g5 : Nat} {l : List (Array Value)} (a : IBA w g2 g3 base) (h : ZO W base e z A n c l) (h5 : W.heap.size ≤ g5) : ∀ k, own A = some k → ¬ (k = g3 ∨ k = g5) := fun k hk => by
 have := h.ge hk
 have := h.under hk
 have := a.b
 omega
end
set_option maxRecDepth 100000
set_option maxHeartbeats 400000 in
theorem clone_some (a : Addr) (n c : Nat) (l : List UInt8) (B : Nat) (w : World) (h : RB w B (some a) n c l) (hB : B ≤ w.heap.size) (hn : n ≤ 140737488355328) :
  Calls Tryz.prog 47 #[.slice (some a) n c] w fun e w' => ∃ A2 c2, e = .returned (.slice A2 n c2) ∧ OB w' w.heap.size 5 A2 n c2 l ∧ Grow w w' := by
 have HR := hid h
 have HL := hid h.len
 have hc := h.cap
 have hm := h.max
 unfold maxLen at hm
 clear h
 have hz : n ≤ 140737488355328 := hn
 have HO := hid (OB.of_blk (base := w.heap.size) (l := []) (Blk.new w 5 #[]) (Nat.le_refl _) (by decide))
 have hg1 := Grow.of_alloc w (.cells #[] 5)
 have HR1 := hid (HR.out.belowAt hg1 hB)
 have HG1 := hid hg1
 have HS1 := hid hg1.size
 clear hg1 HR
 have heq : ∀ w, (binOp .eql 29 (.slice (some a) n c) (.slice none 0 0)).run Tryz.prog w = .ok (.bool false) w := fun w => by rfl
 go_enter Tryz.func47, Tryz.ntmps47
 go_wp2_with (refine wpList_appendB (w.alloc (.cells #[] 5)) rfl (.tmp 5) (.tmp 6) 29 rfl w.heap.size 5 Tryz.underlying29 (by kernel_rfl) _ _ _ _ rfl HO.out B _ n c l rfl HR1.out (by simpa using hz) HS1.out ?_; intro A5 c5 w9 ho9 hb9; refine Hid.out ?_)
 have HO9 := hid ho9
 have HB9 : Hid (Grow w w9) := HG1.out.trans' hb9
 clear ho9 hb9 HO HR1 HG1 HS1
 refine hid ?_
 go_wp2
 go_ret
 have h9 := HO9.out
 rw [Nat.zero_add, List.nil_append] at h9
 exact ⟨A5, c5, rfl, h9, HB9.out⟩
def NewB (l : List UInt8) (w : World) (e : Ending) (w' : World) : Prop := ∃ A2 c2, e = .returned (.slice A2 l.length c2) ∧ OB w' w.heap.size 5 A2 l.length c2 l ∧ Grow w w'
theorem NewB.nil (w w' : World) (h : Grow w w') : NewB [] w (.returned (.slice none 0 0)) w' := ⟨none, 0, rfl, OB.nil, h⟩
theorem NewB.from {l : List UInt8} {w0 w w' : World} {e : Ending} (h : NewB l w e w') (hg : Grow w0 w) : NewB l w0 e w' := by
 obtain ⟨A2, c2, h1, h2, h3⟩ := h
 exact ⟨A2, c2, h1, h2.mono hg.size, hg.trans h3⟩
theorem clone_any (A : Option Addr) (n c : Nat) (l : List UInt8) (B : Nat) (w : World) (h : RB w B A n c l) (hB : B ≤ w.heap.size) (hn : n ≤ 140737488355328) :
  Calls Tryz.prog 47 #[.slice A n c] w (NewB l w) := by
 rcases A with _ | a
 ·have hl : l = [] := by
   rcases Nat.eq_zero_or_pos n with h0 | h0
   ·exact List.eq_nil_of_length_eq_zero (by rw [← h.len]; exact h0)
   ·obtain ⟨_, _, e, _⟩ := h.pos h0
    cases e
  subst hl
  clear h
  have heq : ∀ w, (binOp .eql 29 (.slice none n c) (.slice none 0 0)).run Tryz.prog w = .ok (.bool true) w := fun w => by rfl
  go_enter Tryz.func47, Tryz.ntmps47
  go_wp2
  go_ret
  exact NewB.nil _ _ (Grow.refl _)
 ·refine (clone_some a n c l B w h hB hn).mono ?_
  rintro e w' ⟨A2, c2, rfl, h1, h2⟩
  obtain rfl := h.len
  exact ⟨A2, c2, rfl, h1, h2⟩
set_option maxRecDepth 100000
set_option linter.unusedVariables false
theorem inB_eq (n off fs : Nat) : inB n off fs = (decide (fs = 0) || (decide (off ≤ n) && decide (fs ≤ n - off))) := by
 unfold inB
 by_cases h0 : fs = 0
 ·simp [h0]
 ·by_cases h1 : off ≤ n
  ·simp only [decide_eq_false h0, decide_eq_true h1, Bool.false_or, Bool.true_and]
   exact decide_eq_decide.2 ⟨fun h => by omega, fun h => by omega⟩
  ·simp only [decide_eq_false h0, decide_eq_false h1, Bool.false_or, Bool.false_and]
   exact decide_eq_false (by omega)
set_option maxHeartbeats 2000000 in
theorem imWithin_any (p : Pg) (A : Option Addr) (n c : Nat) (w : World) (hn : n ≤ maxLen) :
  Calls Tryz.prog 109 #[.slice A n c, p.V] w fun e w' => e = .returned (.bool (inB n p.off p.fs)) ∧ Grow w w' := by
 rw [inB_eq]
 unfold maxLen at hn
 unfold Pg.V Pg.C
 generalize p.ty = ty
 generalize p.fl = fl
 generalize p.off = off
 generalize p.va = va
 generalize p.pa = pa
 generalize p.fs = fs
 generalize p.ms = ms
 generalize p.al = al
 have z1 : IntKind.u64.wrap (n : Int) = (n : Int) := by rw [IntKind.wrap_u64]; omega
 by_cases h0 : fs = 0
 ·have d0 : ((fs : Int) == 0) = true := by simp [h0]
  have e : (decide (fs = 0) || (decide (off ≤ n) && decide (fs ≤ n - off))) = true := by simp [h0]
  rw [e]
  clear e h0
  go_enter Tryz.func109, Tryz.ntmps109
  go_wp2
  go_ret
  exact ⟨rfl, Grow.of_alloc _ _⟩
 ·have d0 : ((fs : Int) == 0) = false := by simp; omega
  by_cases h1 : off ≤ n
  ·have d1 : decide ((off : Int) ≤ (n : Int)) = true := decide_eq_true (by omega)
   have z2 : IntKind.u64.wrap ((n : Int) - (off : Int)) = ((n - off : Nat) : Int) := by rw [IntKind.wrap_u64]; omega
   have e : (decide (fs = 0) || (decide (off ≤ n) && decide (fs ≤ n - off))) = decide (fs ≤ n - off) := by
    rw [decide_eq_false h0, decide_eq_true h1, Bool.false_or, Bool.true_and]
   rw [e]
   clear e h0
   go_enter Tryz.func109, Tryz.ntmps109
   go_wp2
   go_ret
   exact ⟨rfl, Grow.of_alloc _ _⟩
  ·have d1 : decide ((off : Int) ≤ (n : Int)) = false := decide_eq_false (by omega)
   have e : (decide (fs = 0) || (decide (off ≤ n) && decide (fs ≤ n - off))) = false := by simp [h0, h1]
   rw [e]
   clear e h0
   go_enter Tryz.func109, Tryz.ntmps109
   go_wp2
   go_ret
   exact ⟨rfl, Grow.of_alloc _ _⟩
set_option maxHeartbeats 2000000 in
theorem bytesOf_any (l : List UInt8) (p : Pg) (A : Option Addr) (n c : Nat) (w : World) (h : RB w w.heap.size A n c l) (hi : inB n p.off p.fs = true) (hn : n ≤ 140737488355328) :
  Calls Tryz.prog 110 #[.slice A n c, p.V] w (NewB ((l.drop p.off).take p.fs) w) := by
 have hlen := h.len
 have hcap := h.cap
 have hmax := h.max
 unfold maxLen at hmax
 rw [inB_eq] at hi
 unfold Pg.V Pg.C
 generalize p.ty = ty
 generalize p.fl = fl
 generalize p.off = off at *
 generalize p.va = va
 generalize p.pa = pa
 generalize p.fs = fs at *
 generalize p.ms = ms
 generalize p.al = al
 by_cases h0 : fs = 0
 ·have d0 : ((fs : Int) == 0) = true := by simp [h0]
  have e : (l.drop off).take fs = [] := by rw [h0]; rfl
  rw [e]
  clear e h0 hi h hlen hcap hmax
  go_enter Tryz.func110, Tryz.ntmps110
  go_wp2
  go_ret
  exact NewB.nil _ _ (Grow.of_alloc _ _)
 ·have d0 : ((fs : Int) == 0) = false := by simp; omega
  have hio : off + fs ≤ n := by
   simp [h0] at hi
   omega
  obtain ⟨b, o, rfl, hb, -⟩ := h.pos (by omega)
  have s1 := run_cut_l (P := Tryz.prog) 29 Tryz.underlying29 (fun W => by kernel_rfl) ⟨b, o, none⟩ n c .u64 off (by omega)
  have s2 := run_cut_h (P := Tryz.prog) 29 Tryz.underlying29 (fun W => by kernel_rfl) (cutA ⟨b, o, none⟩ c off) (n - off) (c - off) .u64 fs (by omega)
  have HC := hid (fun W (hW : Grow w W) => clone_any (some (cutA ⟨b, o, none⟩ c off)) fs (c - off) ((l.drop off).take fs) w.heap.size W ((h.cut hio).belowAt hW (Nat.le_refl _)) hW.size (by omega))
  unfold NewB at HC ⊢
  have hLl : ((l.drop off).take fs).length = fs := by rw [List.length_take, List.length_drop]; omega
  rw [hLl] at HC ⊢
  clear h0 hi h hLl hio hlen
  generalize (l.drop off).take fs = bs at HC ⊢
  go_enter Tryz.func110, Tryz.ntmps110
  go_wp2_with fail
  generalize hW : World.alloc _ _ = W5
  obtain ⟨b5, hg⟩ := blk1 hW
  clear hW
  have HX := hid b5.drew
  have HG := hid (hg.trans (Grow.of_drew W5))
  clear b5 hg
  refine wp_region_chain [(0, true), (1, true), (2, true), (3, true), (4, true), (5, true), (6, true), (7, false), (8, true)] (by kernel_rfl) (by kernel_rfl) (by kernel_rfl) ?_
  generalize W5.drew = v0 at HX HG ⊢
  have q2 : ∀ W, Grow v0 W → W.cell? ⟨w.heap.size, 2, none⟩ = some (.int .u64 (off : Nat)) := fun W hW => (HX.out.grow hW).at 2
  have q5 : ∀ W, Grow v0 W → W.cell? ⟨w.heap.size, 5, none⟩ = some (.int .u64 (fs : Nat)) := fun W hW => (HX.out.grow hW).at 5
  repeat ((first | (refine chain_take rfl (by rfl) ?_ (fun W hG => ?_) ?_; rotate_left; (go_simp; rfl)) | refine chain_skip rfl (by rfl) ?_); simp only [Act.put, List.setIfInBounds_toArray, List.set_cons_zero, List.set_cons_succ])
  clear q2 q5 s1 s2
  refine chain_only rfl (by rfl) (fun K hK => ?_)
  go_simp
  refine (HC.out _ HG.out).mono ?_
  rintro e v1 ⟨A2, c2, rfl, ho, hg⟩
  refine hK _ _ hg ?_
  clear hK K
  have HO := hid (ho.mono HG.out.size)
  have HG1 : Hid (Grow w v1) := hid (HG.out.trans hg)
  clear ho hg
  repeat ((first | (refine chain_take rfl (by rfl) ?_ (fun W hG => ?_) ?_; rotate_left; (go_simp; rfl)) | refine chain_skip rfl (by rfl) ?_); simp only [Act.put, List.setIfInBounds_toArray, List.set_cons_zero, List.set_cons_succ])
  refine chain_done ?_
  go_wp2
  go_ret
  exact ⟨A2, c2, rfl, HO.out, HG1.out⟩
end Go.Proofs.YtfbimboemahhhaaGreatDoor
