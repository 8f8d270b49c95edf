/-
  A region that draws its order, walked along a given order of its operations: what reads (in this world and in every one that has only grown since) may be taken first; what makes memory comes when nothing else may, or is branched over. No program's function is spoken of here.
-/
import Derived.OrdersHeld
import Derived.Deep.RegionHeld3
import Derived.WalkKit
import Derived.Deep.Draws
namespace Go.Proofs.Ytahmdccalgdiaaa
open Go.RowKit

/-- w' is w, grown: nothing that was there has changed. -/
def Grow (w w' : World) : Prop := Below w.heap.size w w'
theorem Grow.refl (w : World) : Grow w w := Below.refl _ _
theorem Grow.trans {a b c : World} (h : Grow a b) (k : Grow b c) : Grow a c := Below.trans h (Below.mono k h.size)
theorem Grow.trans' {w a b : World} (h : Grow w a) (k : Below w.heap.size a b) : Below w.heap.size w b := Below.trans h k
theorem Grow.of_drewN (w : World) (n : Nat) : Grow w (w.drewN n) := ⟨rfl, rfl, rfl, Nat.le_refl _, fun _ _ => rfl⟩
theorem Grow.of_drew (w : World) : Grow w w.drew := ⟨rfl, rfl, rfl, Nat.le_refl _, fun _ _ => rfl⟩
theorem Grow.of_alloc (w : World) (o : Obj) : Grow w (w.alloc o) := Below.alloc (Below.refl _ _) (Nat.le_refl _) o

theorem wpAnyH_weaken {P : Program} {md : Region.Mode} {ops : Array Oper} {Q : Exit → Act → World → Prop} {S S' : World → Prop} (hS : ∀ w, S' w → S w) :
    ∀ (fuel : Nat) (listed : Array Bool) (a : Act) (w : World), wpAnyH P md ops Q S' fuel listed a w → wpAnyH P md ops Q S fuel listed a w
  | 0, _, _, _, h => h
  | fuel + 1, _, _, _, h => ⟨h.1, fun i hi => wpOp_mono (fun a' w' h' => ⟨hS w' h'.1, wpAnyH_weaken hS fuel _ a' w' h'.2⟩) (h.2 i hi)⟩

/-- An order: (i, true): number i is taken first; (i, false): number i is all that may come. -/
abbrev Chain := List (Nat × Bool)

def Chain.after (listed : Array Bool) : Chain → Array Bool
  | [] => listed
  | p :: r => Chain.after (listed.setIfInBounds p.1 true) r

/-- The order is one that the region's edges allow. -/
def Chain.ok (ops : Array Oper) : Chain → Array Bool → Bool
  | [], _ => true
  | (i, true) :: r, listed => Region.free .any ops listed i && (Region.ready .any ops listed).contains i && Chain.ok ops r (listed.setIfInBounds i true)
  | (i, false) :: r, listed => Region.ready .any ops listed == [i] && Chain.ok ops r (listed.setIfInBounds i true)

/-- What may have changed between two worlds. -/
structure Leap (Y : World → World → Prop) : Prop where
  refl : ∀ w, Y w w
  trans : ∀ a b c, Y a b → Y b c → Y a c
theorem leap_grow : Leap Grow := ⟨Grow.refl, fun _ _ _ => Grow.trans⟩
/-- Nothing has changed but one block. -/
def Bar (g : Nat) (w W : World) : Prop := w.heap.size ≤ W.heap.size ∧ ∀ k, k < w.heap.size → k ≠ g → W.heap[k]? = w.heap[k]?
theorem leap_bar (g : Nat) : Leap (Bar g) := ⟨fun _ => ⟨Nat.le_refl _, fun _ _ _ => rfl⟩, fun _ _ _ h k => ⟨Nat.le_trans h.1 k.1, fun i hi hg => (k.2 i (Nat.lt_of_lt_of_le hi h.1) hg).trans (h.2 i hi hg)⟩⟩
theorem leap_below (B : Nat) : Leap (Below B) := ⟨Below.refl B, fun _ _ _ => Below.trans⟩
theorem Bar.of_grow {g : Nat} {w W : World} (h : Grow w W) : Bar g w W := ⟨h.size, fun k hk _ => h.block k hk⟩

def wpChain (P : Program) (ops : Array Oper) (Q : Exit → Act → World → Prop) (Y : World → World → Prop) (R : Act → World → Prop) : Chain → Act → World → Prop
  | [], a, w => R a w
  | (i, true) :: r, a, w => ∃ o, ops[i]? = some o ∧ ((Region.wanted o (yielded ops a.tmps) = true ∧ ∃ v, (∀ W, Y w W → (execOp a.eval o).run P W = .ok (.value v) W) ∧ wpChain P ops Q Y R r (a.put o.dst v) w) ∨
      (Region.wanted o (yielded ops a.tmps) = false ∧ wpChain P ops Q Y R r (a.put o.dst undef) w))
  | (i, false) :: r, a, w => wpOp P ops Q i (fun a' w' => Y w w' ∧ wpChain P ops Q Y R r a' w') a w

section
variable {P : Program} {ops : Array Oper} {Q : Exit → Act → World → Prop} {Y : World → World → Prop} {R : Act → World → Prop}

theorem wpChain_sound (hy : Leap Y) (hs : Region.noSelect ops = true) (hQ : ∀ c a w, ¬ Q (.panic c) a w) (n : Nat) : ∀ (c : Chain) (listed : Array Bool) (a : Act) (w : World),
    (∀ a w, R a w → wpAnyH P .any ops Q (Y w) n (Chain.after listed c) a w) →
    Chain.ok ops c listed = true → wpChain P ops Q Y R c a w → wpAnyH P .any ops Q (Y w) (n + c.length) listed a w
  | [], listed, a, w, hR, _, h => hR a w h
  | (i, true) :: r, listed, a, w, hR, hB, h => by
    simp only [Chain.ok, Bool.and_eq_true] at hB
    obtain ⟨o, ho, hh⟩ := h
    rw [List.length_cons, ← Nat.add_assoc]
    rcases hh with ⟨hw, v, hv, hr⟩ | ⟨hw, hr⟩
    · exact wpAnyH_take ho hs hB.1.1 hB.1.2 (fun c a w h => absurd h (hQ _ _ _)) (.inl ⟨hw, hv⟩) (hy.refl w) (wpChain_sound hy hs hQ n r _ _ w hR hB.2 hr)
    · exact wpAnyH_take ho hs hB.1.1 hB.1.2 (fun c a w h => absurd h (hQ _ _ _)) (.inr ⟨hw, rfl⟩) (hy.refl w) (wpChain_sound hy hs hQ n r _ _ w hR hB.2 hr)
  | (i, false) :: r, listed, a, w, hR, hB, h => by
    simp only [Chain.ok, Bool.and_eq_true] at hB
    rw [List.length_cons, ← Nat.add_assoc]
    refine wpAnyH_all (rs := [i]) (by simpa using hB.1) (by simp) ?_
    intro k hk
    obtain rfl : k = i := by simpa using hk
    exact wpOp_mono (fun a' w' h' => ⟨h'.1, wpAnyH_weaken (fun W hW => hy.trans _ _ _ h'.1 hW) _ _ _ _ (wpChain_sound hy hs hQ n r _ a' w' hR hB.2 h'.2)⟩) h

/-- The region, along one order. -/
theorem wp_region_leap (hy : Leap Y) {id : Nat} {a : Act} {w : World} (c : Chain) (hm : P.follows .mixedOrders = true) (hs : Region.noSelect ops = true)
    (hB : (Chain.ok ops c (Array.replicate ops.size false) && (c.length == ops.size) && (Region.ready .any ops (Chain.after (Array.replicate ops.size false) c) == [])) = true)
    (h : wpChain P ops (NoPanic Q) Y (fun a w => Q .normal a w) c a w.drew) : (Code.region id ops true).wp P Q a w := by
  simp only [Bool.and_eq_true] at hB
  have hl : c.length = ops.size := by simpa using hB.1.2
  refine wp_region_noPanic (wp_region_held (S := Y w.drew) hm ?_)
  have := wpChain_sound (P := P) (ops := ops) (Q := NoPanic Q) (Y := Y) (R := fun a w => Q .normal a w) hy hs (fun _ _ _ h => h) 0 c (Array.replicate ops.size false) a w.drew
    (fun a w h => ⟨by simpa using hB.2, h⟩) hB.1.1 h
  rw [Nat.zero_add, hl] at this
  exact this

/-- The region, along an order that parts once: either of two may come first. -/
theorem wp_region_leapfork (hy : Leap Y) {id : Nat} {a : Act} {w : World} (c : Chain) (i : Nat) (d : Chain) (j : Nat) (e : Chain) (hm : P.follows .mixedOrders = true) (hs : Region.noSelect ops = true)
    (hB : (Chain.ok ops c (Array.replicate ops.size false) && (Region.ready .any ops (Chain.after (Array.replicate ops.size false) c) == [i, j]) &&
      Chain.ok ops d ((Chain.after (Array.replicate ops.size false) c).setIfInBounds i true) && (c.length + d.length + 1 == ops.size) && (Region.ready .any ops (Chain.after ((Chain.after (Array.replicate ops.size false) c).setIfInBounds i true) d) == []) &&
      Chain.ok ops e ((Chain.after (Array.replicate ops.size false) c).setIfInBounds j true) && (c.length + e.length + 1 == ops.size) && (Region.ready .any ops (Chain.after ((Chain.after (Array.replicate ops.size false) c).setIfInBounds j true) e) == [])) = true)
    (h : wpChain P ops (NoPanic Q) Y (fun a w => wpOp P ops (NoPanic Q) i (fun a' w' => Y w w' ∧ wpChain P ops (NoPanic Q) Y (fun a w => Q .normal a w) d a' w') a w ∧
      wpOp P ops (NoPanic Q) j (fun a' w' => Y w w' ∧ wpChain P ops (NoPanic Q) Y (fun a w => Q .normal a w) e a' w') a w) c a w.drew) : (Code.region id ops true).wp P Q a w := by
  simp only [Bool.and_eq_true] at hB
  obtain ⟨⟨⟨⟨⟨⟨⟨b1, b2⟩, b3⟩, b4⟩, b5⟩, b6⟩, b7⟩, b8⟩ := hB
  have l1 : c.length + d.length + 1 = ops.size := by simpa using b4
  have l2 : c.length + e.length + 1 = ops.size := by simpa using b7
  refine wp_region_noPanic (wp_region_held (S := Y w.drew) hm ?_)
  have := wpChain_sound (P := P) (ops := ops) (Q := NoPanic Q) (Y := Y) (R := fun a w => wpOp P ops (NoPanic Q) i (fun a' w' => Y w w' ∧ wpChain P ops (NoPanic Q) Y (fun a w => Q .normal a w) d a' w') a w ∧
      wpOp P ops (NoPanic Q) j (fun a' w' => Y w w' ∧ wpChain P ops (NoPanic Q) Y (fun a w => Q .normal a w) e a' w') a w) hy hs (fun _ _ _ h => h) (d.length + 1) c (Array.replicate ops.size false) a w.drew
    (fun a w hh => by
      refine wpAnyH_all (rs := [i, j]) (by simpa using b2) (by simp) ?_
      intro k hk
      by_cases hki : k = i
      · subst hki
        refine wpOp_mono (fun a' w' h' => ⟨h'.1, wpAnyH_weaken (fun W hW => hy.trans _ _ _ h'.1 hW) _ _ _ _ ?_⟩) hh.1
        have := wpChain_sound (P := P) (ops := ops) (Q := NoPanic Q) (Y := Y) (R := fun a w => Q .normal a w) hy hs (fun _ _ _ h => h) 0 d _ a' w' (fun a w h => ⟨by simpa using b5, h⟩) b3 h'.2
        rwa [Nat.zero_add] at this
      · obtain rfl : k = j := by
          rcases List.mem_cons.1 hk with e1 | e1
          · exact absurd e1 hki
          · simpa using e1
        refine wpOp_mono (fun a' w' h' => ⟨h'.1, wpAnyH_weaken (fun W hW => hy.trans _ _ _ h'.1 hW) _ _ _ _ ?_⟩) hh.2
        have := wpChain_sound (P := P) (ops := ops) (Q := NoPanic Q) (Y := Y) (R := fun a w => Q .normal a w) hy hs (fun _ _ _ h => h) 0 e _ a' w' (fun a w h => ⟨by simpa using b8, h⟩) b6 h'.2
        rw [Nat.zero_add, show e.length = d.length by omega] at this
        exact this) b1 h
  rw [show d.length + 1 + c.length = ops.size by omega] at this
  exact this

theorem wp_region_chain {id : Nat} {a : Act} {w : World} (c : Chain) (hm : P.follows .mixedOrders = true) (hs : Region.noSelect ops = true)
    (hB : (Chain.ok ops c (Array.replicate ops.size false) && (c.length == ops.size) && (Region.ready .any ops (Chain.after (Array.replicate ops.size false) c) == [])) = true)
    (h : wpChain P ops (NoPanic Q) Grow (fun a w => Q .normal a w) c a w.drew) : (Code.region id ops true).wp P Q a w := wp_region_leap leap_grow c hm hs hB h
theorem wp_region_fork {id : Nat} {a : Act} {w : World} (c : Chain) (i : Nat) (d : Chain) (j : Nat) (e : Chain) (hm : P.follows .mixedOrders = true) (hs : Region.noSelect ops = true)
    (hB : (Chain.ok ops c (Array.replicate ops.size false) && (Region.ready .any ops (Chain.after (Array.replicate ops.size false) c) == [i, j]) &&
      Chain.ok ops d ((Chain.after (Array.replicate ops.size false) c).setIfInBounds i true) && (c.length + d.length + 1 == ops.size) && (Region.ready .any ops (Chain.after ((Chain.after (Array.replicate ops.size false) c).setIfInBounds i true) d) == []) &&
      Chain.ok ops e ((Chain.after (Array.replicate ops.size false) c).setIfInBounds j true) && (c.length + e.length + 1 == ops.size) && (Region.ready .any ops (Chain.after ((Chain.after (Array.replicate ops.size false) c).setIfInBounds j true) e) == [])) = true)
    (h : wpChain P ops (NoPanic Q) Grow (fun a w => wpOp P ops (NoPanic Q) i (fun a' w' => Grow w w' ∧ wpChain P ops (NoPanic Q) Grow (fun a w => Q .normal a w) d a' w') a w ∧
      wpOp P ops (NoPanic Q) j (fun a' w' => Grow w w' ∧ wpChain P ops (NoPanic Q) Grow (fun a w => Q .normal a w) e a' w') a w) c a w.drew) : (Code.region id ops true).wp P Q a w := wp_region_leapfork leap_grow c i d j e hm hs hB h

theorem at_of_drop {l rest : List Oper} {i : Nat} {o : Oper} (h : l.drop i = o :: rest) : l.toArray[i]? = some o := by
  have : (l.drop i)[0]? = some o := by rw [h]; rfl
  simpa using this
theorem chain_take {l rest : List Oper} {i : Nat} {r : Chain} {a : Act} {w : World} {o : Oper} (hi : l.drop i = o :: rest) (hw : Region.wanted o (yielded l.toArray a.tmps) = true) (v : Value)
    (hv : ∀ W, Y w W → (execOp a.eval o).run P W = .ok (.value v) W) (h : wpChain P l.toArray Q Y R r (a.put o.dst v) w) : wpChain P l.toArray Q Y R ((i, true) :: r) a w := ⟨o, at_of_drop hi, .inl ⟨hw, v, hv, h⟩⟩
theorem chain_skip {l rest : List Oper} {i : Nat} {r : Chain} {a : Act} {w : World} {o : Oper} (hi : l.drop i = o :: rest) (hw : Region.wanted o (yielded l.toArray a.tmps) = false)
    (h : wpChain P l.toArray Q Y R r (a.put o.dst undef) w) : wpChain P l.toArray Q Y R ((i, true) :: r) a w := ⟨o, at_of_drop hi, .inr ⟨hw, h⟩⟩
theorem step_op {l rest : List Oper} {i : Nat} {a : Act} {w : World} {o : Oper} {M : Act → World → Prop} (hi : l.drop i = o :: rest) (hw : Region.wanted o (yielded l.toArray a.tmps) = true)
    (h : ∀ K : Act → World → Prop, (∀ a' w', Y w w' → M a' w' → K a' w') → o.wp P a w K Q) : wpOp P l.toArray Q i (fun a' w' => Y w w' ∧ M a' w') a w := by
  unfold wpOp
  simp only [at_of_drop hi, hw, if_true]
  exact .inl (h _ fun a' w' h1 h2 => ⟨h1, h2⟩)
theorem step_none (hy : Leap Y) {l rest : List Oper} {i : Nat} {a : Act} {w : World} {o : Oper} {M : Act → World → Prop} (hi : l.drop i = o :: rest) (hw : Region.wanted o (yielded l.toArray a.tmps) = false)
    (h : M (a.put o.dst undef) w) : wpOp P l.toArray Q i (fun a' w' => Y w w' ∧ M a' w') a w := by
  unfold wpOp
  simp only [at_of_drop hi, hw]
  exact ⟨hy.refl w, h⟩
theorem chain_only {l rest : List Oper} {i : Nat} {r : Chain} {a : Act} {w : World} {o : Oper} (hi : l.drop i = o :: rest) (hw : Region.wanted o (yielded l.toArray a.tmps) = true)
    (h : ∀ K : Act → World → Prop, (∀ a' w', Y w w' → wpChain P l.toArray Q Y R r a' w' → K a' w') → o.wp P a w K Q) : wpChain P l.toArray Q Y R ((i, false) :: r) a w := step_op hi hw h
theorem chain_none_of (hy : Leap Y) {l rest : List Oper} {i : Nat} {r : Chain} {a : Act} {w : World} {o : Oper} (hi : l.drop i = o :: rest) (hw : Region.wanted o (yielded l.toArray a.tmps) = false)
    (h : wpChain P l.toArray Q Y R r (a.put o.dst undef) w) : wpChain P l.toArray Q Y R ((i, false) :: r) a w := step_none hy hi hw h
theorem chain_none {l rest : List Oper} {i : Nat} {r : Chain} {a : Act} {w : World} {o : Oper} (hi : l.drop i = o :: rest) (hw : Region.wanted o (yielded l.toArray a.tmps) = false)
    (h : wpChain P l.toArray Q Grow R r (a.put o.dst undef) w) : wpChain P l.toArray Q Grow R ((i, false) :: r) a w := chain_none_of leap_grow hi hw h
theorem chain_done {a : Act} {w : World} (h : R a w) : wpChain P ops Q Y R [] a w := h
end
attribute [irreducible] wpChain
end Go.Proofs.Ytahmdccalgdiaaa
