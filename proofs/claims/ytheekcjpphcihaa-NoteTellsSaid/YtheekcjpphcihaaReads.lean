/-
  A region that draws its order, in which all that reads may be taken first, and what is left (a new block, stores, assignments) comes in one order; and results that lie in memory. No program's function is spoken of here.
-/
import Derived.Test.YtheekcjpphcihaaTree
import Derived.Laws.ResultCell
namespace Go.Proofs.Ytheekcjpphcihaa
open Go.RowKit

/-- All that was there is as it was, but for one block. -/
def But (g : Nat) (w W : World) : Prop := ∀ p : Addr, p.block ≠ g → p.block < w.heap.size → W.cell? p = w.cell? p
theorem But.refl (g : Nat) (w : World) : But g w w := fun _ _ _ => rfl
theorem But.alloc {g : Nat} {w W : World} (h : But g w W) (hs : w.heap.size ≤ W.heap.size) (o : Obj) : But g w (W.alloc o) := fun p h1 h2 => by
  rw [Below.cell (Below.alloc (Below.refl W.heap.size W) (Nat.le_refl _) o) (by omega)]
  exact h p h1 h2
theorem But.set {g : Nat} {w W : World} (h : But g w W) (off : Nat) (u : Value) : But g w (W.setCell ⟨g, off, none⟩ u) := fun p h1 h2 => by
  rw [World.cell?_setCell_other _ _ _ _ (fun e => h1 (by rw [← e]))]
  exact h p h1 h2

theorem But.grow {g : Nat} {w W : World} (h : Grow w W) : But g w W := fun _ _ h2 => h.cell h2
theorem But.alloc_drew (g : Nat) (w : World) (o : Obj) : But g w.drew (w.alloc o).drew := fun _ _ h2 => (Grow.of_alloc w o).cell h2

theorem cell_of_heap {w W : World} {p : Addr} (h : W.heap[p.block]? = w.heap[p.block]?) : W.cell? p = w.cell? p := by unfold World.cell?; rw [h]
/-- A block of the call's own was written, with another one behind it. -/
theorem But.two (w : World) (o o' q : Obj) : But w.heap.size ((w.alloc o).alloc q) ((w.alloc o').alloc q) := fun p h1 _ => by
  refine cell_of_heap ?_
  show ((w.heap.push o').push q)[p.block]? = ((w.heap.push o).push q)[p.block]?
  simp only [Array.getElem?_push, Array.size_push, if_neg h1]
theorem But.one (w : World) (o o' : Obj) : But w.heap.size (w.alloc o) (w.alloc o') := fun p h1 _ => by
  refine cell_of_heap ?_
  show (w.heap.push o')[p.block]? = (w.heap.push o)[p.block]?
  simp only [Array.getElem?_push, if_neg h1]

def wpRead (P : Program) (ops : Array Oper) (S : World → Prop) (R : Act → World → Prop) : List Nat → Act → World → Prop
  | [], a, w => R a w
  | i :: r, a, w => ∃ o, ops[i]? = some o ∧ ((Region.wanted o (yielded ops a.tmps) = true ∧ ∃ v, (∀ W, S W → (execOp a.eval o).run P W = .ok (.value v) W) ∧ wpRead P ops S R r (a.put o.dst v) w) ∨
      (Region.wanted o (yielded ops a.tmps) = false ∧ wpRead P ops S R r (a.put o.dst undef) w))

def wpTail (P : Program) (ops : Array Oper) (Q : Exit → Act → World → Prop) (S : World → Prop) (R : Act → World → Prop) : List Nat → Act → World → Prop
  | [], a, w => R a w
  | i :: r, a, w => wpOp P ops Q i (fun a' w' => S w' ∧ wpTail P ops Q S R r a' w') a w

section
variable {P : Program} {ops : Array Oper} {Q : Exit → Act → World → Prop} {S : World → Prop} {R : Act → World → Prop}

theorem wpTail_sound (n : Nat) : ∀ (c : List Nat) (listed : Array Bool) (a : Act) (w : World),
    (∀ a w, R a w → wpAnyH P .any ops Q S n (Chain.after listed (c.map fun i => (i, false))) a w) →
    Chain.ok ops (c.map fun i => (i, false)) listed = true → wpTail P ops Q S R c a w → wpAnyH P .any ops Q S (n + c.length) listed a w
  | [], listed, a, w, hR, _, h => hR a w h
  | i :: r, listed, a, w, hR, hB, h => by
    simp only [List.map_cons, Chain.ok, Bool.and_eq_true] at hB
    rw [List.length_cons, ← Nat.add_assoc]
    refine wpAnyH_all (rs := [i]) (by simpa using hB.1) (by simp) ?_
    intro k hk
    obtain rfl : k = i := by simpa using hk
    exact wpOp_mono (fun a' w' h' => ⟨h'.1, wpTail_sound n r _ a' w' hR hB.2 h'.2⟩) h

theorem wpRead_sound (hs : Region.noSelect ops = true) (hQ : ∀ c a w, ¬ Q (.panic c) a w) (n : Nat) : ∀ (c : List Nat) (listed : Array Bool) (a : Act) (w : World), S w →
    (∀ a w, R a w → wpAnyH P .any ops Q S n (Chain.after listed (c.map fun i => (i, true))) a w) →
    Chain.ok ops (c.map fun i => (i, true)) listed = true → wpRead P ops S R c a w → wpAnyH P .any ops Q S (n + c.length) listed a w
  | [], listed, a, w, _, hR, _, h => hR a w h
  | i :: r, listed, a, w, hw, hR, hB, h => by
    simp only [List.map_cons, Chain.ok, Bool.and_eq_true] at hB
    obtain ⟨o, ho, hh⟩ := h
    rw [List.length_cons, ← Nat.add_assoc]
    rcases hh with ⟨h1, v, hv, hr⟩ | ⟨h1, hr⟩
    · exact wpAnyH_take ho hs hB.1.1 hB.1.2 (fun c a w h => absurd h (hQ _ _ _)) (.inl ⟨h1, hv⟩) hw (wpRead_sound hs hQ n r _ _ w hw hR hB.2 hr)
    · exact wpAnyH_take ho hs hB.1.1 hB.1.2 (fun c a w h => absurd h (hQ _ _ _)) (.inr ⟨h1, rfl⟩) hw (wpRead_sound hs hQ n r _ _ w hw hR hB.2 hr)

/-- The region: c is read first, d comes behind it. S: what of the world is kept all the while. -/
theorem wp_region_reads {id : Nat} {a : Act} {w : World} (c d : List Nat) (S : World → Prop) (hm : P.follows .mixedOrders = true) (hs : Region.noSelect ops = true)
    (hB : (Chain.ok ops (c.map fun i => (i, true)) (Array.replicate ops.size false) && Chain.ok ops (d.map fun i => (i, false)) (Chain.after (Array.replicate ops.size false) (c.map fun i => (i, true))) && (d.length + c.length == ops.size) &&
      (Region.ready .any ops (Chain.after (Chain.after (Array.replicate ops.size false) (c.map fun i => (i, true))) (d.map fun i => (i, false))) == [])) = true)
    (h0 : S w.drew)
    (h : wpRead P ops S (wpTail P ops (NoPanic Q) S (fun a w => Q .normal a w) d) c a w.drew) : (Code.region id ops true).wp P Q a w := by
  simp only [Bool.and_eq_true] at hB
  obtain ⟨⟨⟨b1, b2⟩, b3⟩, b4⟩ := hB
  have hl : d.length + c.length = ops.size := by simpa using b3
  refine wp_region_noPanic (wp_region_held (S := S) hm ?_)
  have h1 := wpRead_sound (P := P) (ops := ops) (Q := NoPanic Q) (S := S) (R := wpTail P ops (NoPanic Q) S (fun a w => Q .normal a w) d) hs (fun _ _ _ h => h) d.length c (Array.replicate ops.size false) a w.drew h0
    (fun a w h => by
      have h2 := wpTail_sound (P := P) (ops := ops) (Q := NoPanic Q) (S := S) (R := fun a w => Q .normal a w) 0 d _ a w (fun a w h => ⟨by simpa using b4, h⟩) b2 h
      rwa [Nat.zero_add] at h2) b1 h
  rwa [hl] at h1

theorem read_take {l rest : List Oper} {i : Nat} {r : List Nat} {a : Act} {w : World} {o : Oper} (hi : l.drop i = o :: rest) (hw : Region.wanted o (yielded l.toArray a.tmps) = true) (v : Value)
    (hv : ∀ W, S W → (execOp a.eval o).run P W = .ok (.value v) W) (h : wpRead P l.toArray S R r (a.put o.dst v) w) : wpRead P l.toArray S R (i :: r) a w := ⟨o, at_of_drop hi, .inl ⟨hw, v, hv, h⟩⟩
theorem read_skip {l rest : List Oper} {i : Nat} {r : List Nat} {a : Act} {w : World} {o : Oper} (hi : l.drop i = o :: rest) (hw : Region.wanted o (yielded l.toArray a.tmps) = false)
    (h : wpRead P l.toArray S R r (a.put o.dst undef) w) : wpRead P l.toArray S R (i :: r) a w := ⟨o, at_of_drop hi, .inr ⟨hw, h⟩⟩
theorem read_done {a : Act} {w : World} (h : R a w) : wpRead P ops S R [] a w := h
theorem tail_op {l rest : List Oper} {i : Nat} {r : List Nat} {a : Act} {w : World} {o : Oper} (hi : l.drop i = o :: rest) (hw : Region.wanted o (yielded l.toArray a.tmps) = true)
    (h : ∀ K : Act → World → Prop, (∀ a' w', S w' → wpTail P l.toArray Q S R r a' w' → K a' w') → o.wp P a w K Q) : wpTail P l.toArray Q S R (i :: r) a w := by
  unfold wpTail wpOp
  simp only [at_of_drop hi, hw, if_true]
  exact .inl (h _ fun a' w' h1 h2 => ⟨h1, h2⟩)
theorem tail_done {a : Act} {w : World} (h : R a w) : wpTail P ops Q S R [] a w := h
end
attribute [irreducible] wpRead wpTail

theorem results_cell_tmp2 {fn : Func} {p u v : Tmp} {ty : TypeId} (h : fn.results = #[.cell p ty, .tmp u, .tmp v]) (tmps : Array Value) (P : Program) (w : World) :
    (results fn tmps).run P w =
      ((asAddr (tmps.getD p undef)).run P w).andThen fun a w₁ => ((loadVar ty a).run P w₁).andThen fun x w₂ => .ok (.tuple #[x, tmps.getD u undef, tmps.getD v undef]) w₂ := by
  simp only [results, h]
  simp [Sem.run_bind, Result.andThen]
end Go.Proofs.Ytheekcjpphcihaa
