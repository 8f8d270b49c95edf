/-
  A region that draws its order, walked along a given tree of orders: what reads (in this world and in every one that has only grown since) may be taken first; what makes memory is branched over. No program's function is spoken of here.
-/
import Derived.OrdersHeld
import Derived.Deep.RegionHeld3
import Derived.WalkKit
import Derived.Deep.Draws
namespace Go.Proofs.Ytoaifjkjgmngiaa
open Go.RowKit

/-- w' is w, grown: nothing that was there has changed. -/
def Grow (w w' : World) : Prop := Below w.heap.size w w'
theorem Grow.refl (w : World) : Grow w w := Below.refl _ _
theorem Grow.trans {a b c : World} (h : Grow a b) (k : Grow b c) : Grow a c := Below.trans h (Below.mono k h.size)
theorem Grow.of_drewN (w : World) (n : Nat) : Grow w (w.drewN n) := ⟨rfl, rfl, rfl, Nat.le_refl _, fun _ _ => rfl⟩
theorem Grow.of_drew (w : World) : Grow w w.drew := ⟨rfl, rfl, rfl, Nat.le_refl _, fun _ _ => rfl⟩
theorem Grow.of_alloc (w : World) (o : Obj) : Grow w (w.alloc o) := Below.alloc (Below.refl _ _) (Nat.le_refl _) o

theorem wpAnyH_weaken {P : Program} {md : Region.Mode} {ops : Array Oper} {Q : Exit → Act → World → Prop} {S S' : World → Prop} (hS : ∀ w, S' w → S w) :
    ∀ (fuel : Nat) (listed : Array Bool) (a : Act) (w : World), wpAnyH P md ops Q S' fuel listed a w → wpAnyH P md ops Q S fuel listed a w
  | 0, _, _, _, h => h
  | fuel + 1, _, _, _, h => ⟨h.1, fun i hi => wpOp_mono (fun a' w' h' => ⟨hS w' h'.1, wpAnyH_weaken hS fuel _ a' w' h'.2⟩) (h.2 i hi)⟩

inductive Ord where
  | done : Ord
  | take : Nat → Ord → Ord
  | only : Nat → Ord → Ord
  | both : Nat → Ord → Nat → Ord → Ord

/-- The tree names, at each place, an operation that may come first, or all that may. -/
def Ord.ok (ops : Array Oper) : Ord → Nat → Array Bool → Bool
  | .done, _, listed => Region.ready .any ops listed == []
  | .take i t, n + 1, listed => Region.free .any ops listed i && (Region.ready .any ops listed).contains i && t.ok ops n (listed.setIfInBounds i true)
  | .only i t, n + 1, listed => Region.ready .any ops listed == [i] && t.ok ops n (listed.setIfInBounds i true)
  | .both i t j u, n + 1, listed => Region.ready .any ops listed == [i, j] && t.ok ops n (listed.setIfInBounds i true) && u.ok ops n (listed.setIfInBounds j true)
  | _, 0, _ => false

def wpTree (P : Program) (ops : Array Oper) (Q : Exit → Act → World → Prop) : Ord → Act → World → Prop
  | .done, a, w => Q .normal a w
  | .take i t, a, w => ∃ o, ops[i]? = some o ∧ ((Region.wanted o (yielded ops a.tmps) = true ∧ ∃ v, (∀ W, Grow w W → (execOp a.eval o).run P W = .ok (.value v) W) ∧ wpTree P ops Q t (a.put o.dst v) w) ∨
      (Region.wanted o (yielded ops a.tmps) = false ∧ wpTree P ops Q t (a.put o.dst undef) w))
  | .only i t, a, w => wpOp P ops Q i (fun a' w' => Grow w w' ∧ wpTree P ops Q t a' w') a w
  | .both i t j u, a, w => wpOp P ops Q i (fun a' w' => Grow w w' ∧ wpTree P ops Q t a' w') a w ∧ wpOp P ops Q j (fun a' w' => Grow w w' ∧ wpTree P ops Q u a' w') a w

section
variable {P : Program} {ops : Array Oper} {Q : Exit → Act → World → Prop}

theorem wpTree_sound (hs : Region.noSelect ops = true) (hQ : ∀ c a w, ¬ Q (.panic c) a w) : ∀ (t : Ord) (n : Nat) (listed : Array Bool) (a : Act) (w : World),
    t.ok ops n listed = true → wpTree P ops Q t a w → wpAnyH P .any ops Q (Grow w) n listed a w
  | .done, n, listed, a, w, hB, h => wpAnyH_done (by simpa [Ord.ok] using hB) h n
  | .take i t, 0, _, _, _, hB, _ => by simp [Ord.ok] at hB
  | .only i t, 0, _, _, _, hB, _ => by simp [Ord.ok] at hB
  | .both i t j u, 0, _, _, _, hB, _ => by simp [Ord.ok] at hB
  | .take i t, n + 1, listed, a, w, hB, h => by
    simp only [Ord.ok, Bool.and_eq_true] at hB
    obtain ⟨o, ho, hh⟩ := h
    rcases hh with ⟨hw, v, hv, hr⟩ | ⟨hw, hr⟩
    · exact wpAnyH_take ho hs hB.1.1 hB.1.2 (fun c a w h => absurd h (hQ _ _ _)) (.inl ⟨hw, hv⟩) (Grow.refl w) (wpTree_sound hs hQ t n _ _ w hB.2 hr)
    · exact wpAnyH_take ho hs hB.1.1 hB.1.2 (fun c a w h => absurd h (hQ _ _ _)) (.inr ⟨hw, rfl⟩) (Grow.refl w) (wpTree_sound hs hQ t n _ _ w hB.2 hr)
  | .only i t, n + 1, listed, a, w, hB, h => by
    simp only [Ord.ok, Bool.and_eq_true] at hB
    refine wpAnyH_all (rs := [i]) (by simpa using hB.1) (by simp) ?_
    intro k hk
    obtain rfl : k = i := by simpa using hk
    exact wpOp_mono (fun a' w' h' => ⟨h'.1, wpAnyH_weaken (fun W hW => h'.1.trans hW) _ _ _ _ (wpTree_sound hs hQ t n _ a' w' hB.2 h'.2)⟩) h
  | .both i t j u, n + 1, listed, a, w, hB, h => by
    simp only [Ord.ok, Bool.and_eq_true] at hB
    refine wpAnyH_all (rs := [i, j]) (by simpa using hB.1.1) (by simp) ?_
    intro k hk
    by_cases hki : k = i
    · subst hki
      exact wpOp_mono (fun a' w' h' => ⟨h'.1, wpAnyH_weaken (fun W hW => h'.1.trans hW) _ _ _ _ (wpTree_sound hs hQ t n _ a' w' hB.1.2 h'.2)⟩) h.1
    · obtain rfl : k = j := by
        rcases List.mem_cons.1 hk with e | e
        · exact absurd e hki
        · simpa using e
      exact wpOp_mono (fun a' w' h' => ⟨h'.1, wpAnyH_weaken (fun W hW => h'.1.trans hW) _ _ _ _ (wpTree_sound hs hQ u n _ a' w' hB.2 h'.2)⟩) h.2

/-- The region, along the tree. -/
theorem wp_region_tree {id : Nat} {a : Act} {w : World} (t : Ord) (hm : P.follows .mixedOrders = true) (hs : Region.noSelect ops = true)
    (hB : t.ok ops ops.size (Array.replicate ops.size false) = true) (h : wpTree P ops (NoPanic Q) t a w.drew) : (Code.region id ops true).wp P Q a w :=
  wp_region_noPanic (wp_region_held (S := Grow w.drew) hm (wpTree_sound hs (fun _ _ _ h => h) t _ _ a w.drew hB h))

theorem at_of_drop {l rest : List Oper} {i : Nat} {o : Oper} (h : l.drop i = o :: rest) : l.toArray[i]? = some o := by
  have : (l.drop i)[0]? = some o := by rw [h]; rfl
  simpa using this
theorem wpTree_take {l rest : List Oper} {i : Nat} {t : Ord} {a : Act} {w : World} {o : Oper} (hi : l.drop i = o :: rest) (hw : Region.wanted o (yielded l.toArray a.tmps) = true) (v : Value)
    (hv : ∀ W, Grow w W → (execOp a.eval o).run P W = .ok (.value v) W) (h : wpTree P l.toArray Q t (a.put o.dst v) w) : wpTree P l.toArray Q (.take i t) a w := ⟨o, at_of_drop hi, .inl ⟨hw, v, hv, h⟩⟩
theorem wpTree_skip {l rest : List Oper} {i : Nat} {t : Ord} {a : Act} {w : World} {o : Oper} (hi : l.drop i = o :: rest) (hw : Region.wanted o (yielded l.toArray a.tmps) = false)
    (h : wpTree P l.toArray Q t (a.put o.dst undef) w) : wpTree P l.toArray Q (.take i t) a w := ⟨o, at_of_drop hi, .inr ⟨hw, h⟩⟩
theorem wpTree_only {l rest : List Oper} {i : Nat} {t : Ord} {a : Act} {w : World} {o : Oper} (hi : l.drop i = o :: rest) (hw : Region.wanted o (yielded l.toArray a.tmps) = true)
    (h : ∀ K : Act → World → Prop, (∀ a' w', Grow w w' → wpTree P l.toArray Q t a' w' → K a' w') → o.wp P a w K Q) : wpTree P l.toArray Q (.only i t) a w := by
  show wpOp P l.toArray Q i _ a w
  unfold wpOp
  simp only [at_of_drop hi, hw, if_true]
  exact .inl (h _ fun a' w' h1 h2 => ⟨h1, h2⟩)
theorem wpTree_both {l rest rest' : List Oper} {i j : Nat} {t u : Ord} {a : Act} {w : World} {o p : Oper} (hi : l.drop i = o :: rest) (hj : l.drop j = p :: rest') (hw : Region.wanted o (yielded l.toArray a.tmps) = true) (hw' : Region.wanted p (yielded l.toArray a.tmps) = true)
    (h : ∀ K : Act → World → Prop, (∀ a' w', Grow w w' → wpTree P l.toArray Q t a' w' → K a' w') → o.wp P a w K Q)
    (h' : ∀ K : Act → World → Prop, (∀ a' w', Grow w w' → wpTree P l.toArray Q u a' w' → K a' w') → p.wp P a w K Q) : wpTree P l.toArray Q (.both i t j u) a w :=
  ⟨wpTree_only hi hw h, wpTree_only hj hw' h'⟩
theorem wpTree_done {a : Act} {w : World} (h : Q .normal a w) : wpTree P ops (NoPanic Q) .done a w := h
end
attribute [irreducible] wpTree
end Go.Proofs.Ytoaifjkjgmngiaa
