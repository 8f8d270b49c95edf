/-
  A region that draws its order, where one operation (number j) may come at any time between the others: walked once, for both cases. No program's function is spoken of here.
-/
import Derived.Test.YtfahaefpglnlbaaBlk
import Derived.Test.YtfahaefpglnlbaaApp
namespace Go.Proofs.Ytfahaefpglnlbaa
open Go.RowKit

/-- The order is one that the edges allow, whether number j has come or not; it comes before the end. -/
def Chain.okF (ops : Array Oper) (j : Nat) : Chain → Array Bool → Bool
  | [], l => Region.ready .any ops l == [j]
  | (i, true) :: r, l => i != j && Region.free .any ops l i && (Region.ready .any ops l).contains i && Region.free .any ops (l.setIfInBounds j true) i && (Region.ready .any ops (l.setIfInBounds j true)).contains i && Chain.okF ops j r (l.setIfInBounds i true)
  | (i, false) :: r, l => i != j && (Region.ready .any ops l == [i, j] || Region.ready .any ops l == [j, i]) && Region.ready .any ops (l.setIfInBounds j true) == [i] && Chain.okF ops j r (l.setIfInBounds i true)

/-- What is to be shown: I d holds before a step, d tells whether number j has come. -/
def wpFloat (P : Program) (ops : Array Oper) (Q : Exit → Act → World → Prop) (Y : World → World → Prop) (j : Nat) (T : Act → World → Prop) : Chain → (Bool → Act → World → Prop) → Prop
  | [], I => (∀ a w, I false a w → wpOp P ops Q j (fun a' w' => Y w w' ∧ I true a' w') a w) ∧ ∀ a w, I true a w → T a w
  | (i, true) :: r, I => ∃ I' : Bool → Act → World → Prop, (∀ d a w, I d a w → ∃ o, ops[i]? = some o ∧ Region.wanted o (yielded ops a.tmps) = true ∧ ∃ v, (∀ W, Y w W → (execOp a.eval o).run P W = .ok (.value v) W) ∧ I' d (a.put o.dst v) w) ∧ wpFloat P ops Q Y j T r I'
  | (i, false) :: r, I => (∀ a w, I false a w → wpOp P ops Q j (fun a' w' => Y w w' ∧ I true a' w') a w) ∧ ∃ I' : Bool → Act → World → Prop, (∀ d a w, I d a w → wpOp P ops Q i (fun a' w' => Y w w' ∧ I' d a' w') a w) ∧ wpFloat P ops Q Y j T r I'

section
variable {P : Program} {ops : Array Oper} {Q : Exit → Act → World → Prop} {Y : World → World → Prop} {j : Nat} {T : Act → World → Prop}

theorem wpFloat_sound (hy : Leap Y) (hs : Region.noSelect ops = true) (hQ : ∀ c a w, ¬ Q (.panic c) a w) (n : Nat) : ∀ (c : Chain) (l : Array Bool) (I : Bool → Act → World → Prop),
    (∀ a w, T a w → wpAnyH P .any ops Q (Y w) n (Chain.after (l.setIfInBounds j true) c) a w) → Chain.okF ops j c l = true → wpFloat P ops Q Y j T c I →
    (∀ a w, I true a w → wpAnyH P .any ops Q (Y w) (n + c.length) (l.setIfInBounds j true) a w) ∧ (∀ a w, I false a w → wpAnyH P .any ops Q (Y w) (n + c.length + 1) l a w)
  | [], l, I, hT, hB, h => by
    have h1 : ∀ a w, I true a w → wpAnyH P .any ops Q (Y w) n (l.setIfInBounds j true) a w := fun a w hi => hT a w (h.2 a w hi)
    refine ⟨h1, fun a w hi => ?_⟩
    refine wpAnyH_all (rs := [j]) (by simpa [Chain.okF] using hB) (by simp) ?_
    intro k hk
    obtain rfl : k = j := by simpa using hk
    exact wpOp_mono (fun a' w' h' => ⟨h'.1, wpAnyH_weaken (fun W hW => hy.trans _ _ _ h'.1 hW) _ _ _ _ (h1 a' w' h'.2)⟩) (h.1 a w hi)
  | (i, true) :: r, l, I, hT, hB, h => by
    simp only [Chain.okF, Bool.and_eq_true, bne_iff_ne, ne_eq] at hB
    obtain ⟨⟨⟨⟨⟨hij, f1⟩, r1⟩, f2⟩, r2⟩, hr⟩ := hB
    obtain ⟨I', hstep, hrest⟩ := h
    have hcomm : (l.setIfInBounds i true).setIfInBounds j true = (l.setIfInBounds j true).setIfInBounds i true := Array.setIfInBounds_comm _ _ hij
    obtain ⟨g1, g2⟩ := wpFloat_sound hy hs hQ n r (l.setIfInBounds i true) I' (fun a w ht => by rw [hcomm]; exact hT a w ht) hr hrest
    refine ⟨fun a w hi => ?_, fun a w hi => ?_⟩
    · obtain ⟨o, ho, hw, v, hv, hn⟩ := hstep true a w hi
      have := g1 _ _ hn
      rw [hcomm] at this
      exact wpAnyH_take ho hs f2 r2 (fun c a w h => absurd h (hQ _ _ _)) (.inl ⟨hw, hv⟩) (hy.refl w) this
    · obtain ⟨o, ho, hw, v, hv, hn⟩ := hstep false a w hi
      have := g2 _ _ hn
      rw [List.length_cons, ← Nat.add_assoc]
      exact wpAnyH_take ho hs f1 r1 (fun c a w h => absurd h (hQ _ _ _)) (.inl ⟨hw, hv⟩) (hy.refl w) this
  | (i, false) :: r, l, I, hT, hB, h => by
    simp only [Chain.okF, Bool.and_eq_true, Bool.or_eq_true, bne_iff_ne, ne_eq, beq_iff_eq] at hB
    obtain ⟨⟨⟨hij, r1⟩, r2⟩, hr⟩ := hB
    obtain ⟨hj, I', hstep, hrest⟩ := h
    have hcomm : (l.setIfInBounds i true).setIfInBounds j true = (l.setIfInBounds j true).setIfInBounds i true := Array.setIfInBounds_comm _ _ hij
    obtain ⟨g1, g2⟩ := wpFloat_sound hy hs hQ n r (l.setIfInBounds i true) I' (fun a w ht => by rw [hcomm]; exact hT a w ht) hr hrest
    have h1 : ∀ a w, I true a w → wpAnyH P .any ops Q (Y w) (n + ((i, false) :: r).length) (l.setIfInBounds j true) a w := fun a w hi => by
      rw [List.length_cons, ← Nat.add_assoc]
      refine wpAnyH_all (rs := [i]) r2 (by simp) ?_
      intro k hk
      obtain rfl : k = i := by simpa using hk
      refine wpOp_mono (fun a' w' h' => ⟨h'.1, wpAnyH_weaken (fun W hW => hy.trans _ _ _ h'.1 hW) _ _ _ _ ?_⟩) (hstep true a w hi)
      rw [← hcomm]
      exact g1 a' w' h'.2
    refine ⟨h1, fun a w hi => ?_⟩
    have step_i : wpOp P ops Q i (fun a' w' => Y w w' ∧ wpAnyH P .any ops Q (Y w) (n + ((i, false) :: r).length) (l.setIfInBounds i true) a' w') a w :=
      wpOp_mono (fun a' w' h' => ⟨h'.1, wpAnyH_weaken (fun W hW => hy.trans _ _ _ h'.1 hW) _ _ _ _ (by rw [List.length_cons, ← Nat.add_assoc]; exact g2 a' w' h'.2)⟩) (hstep false a w hi)
    have step_j : wpOp P ops Q j (fun a' w' => Y w w' ∧ wpAnyH P .any ops Q (Y w) (n + ((i, false) :: r).length) (l.setIfInBounds j true) a' w') a w :=
      wpOp_mono (fun a' w' h' => ⟨h'.1, wpAnyH_weaken (fun W hW => hy.trans _ _ _ h'.1 hW) _ _ _ _ (h1 a' w' h'.2)⟩) (hj a w hi)
    rcases r1 with r1 | r1
    · refine wpAnyH_all (rs := [i, j]) r1 (by simp) ?_
      intro k hk
      rcases List.mem_cons.1 hk with rfl | e
      · exact step_i
      · obtain rfl : k = j := by simpa using e
        exact step_j
    · refine wpAnyH_all (rs := [j, i]) r1 (by simp) ?_
      intro k hk
      rcases List.mem_cons.1 hk with rfl | e
      · exact step_j
      · obtain rfl : k = i := by simpa using e
        exact step_i

/-- The region: along c, then f with number j coming at any time, then e. -/
theorem wp_region_float (hy : Leap Y) {id : Nat} {a : Act} {w : World} (c : Chain) (j : Nat) (f e : Chain) (hm : P.follows .mixedOrders = true) (hs : Region.noSelect ops = true)
    (hB : (Chain.ok ops c (Array.replicate ops.size false) && Chain.okF ops j f (Chain.after (Array.replicate ops.size false) c) &&
      Chain.ok ops e (Chain.after ((Chain.after (Array.replicate ops.size false) c).setIfInBounds j true) f) && (c.length + f.length + 1 + e.length == ops.size) &&
      (Region.ready .any ops (Chain.after (Chain.after ((Chain.after (Array.replicate ops.size false) c).setIfInBounds j true) f) e) == [])) = true)
    (h : wpChain P ops (NoPanic Q) Y (fun a w => ∃ I, I false a w ∧ wpFloat P ops (NoPanic Q) Y j (fun a w => wpChain P ops (NoPanic Q) Y (fun a w => Q .normal a w) e a w) f I) c a w.drew) : (Code.region id ops true).wp P Q a w := by
  simp only [Bool.and_eq_true] at hB
  obtain ⟨⟨⟨⟨b1, b2⟩, b3⟩, b4⟩, b5⟩ := hB
  have hl : c.length + f.length + 1 + e.length = ops.size := by simpa using b4
  refine wp_region_noPanic (wp_region_held (S := Y w.drew) hm ?_)
  have := wpChain_sound (P := P) (ops := ops) (Q := NoPanic Q) (Y := Y) (R := fun a w => ∃ I, I false a w ∧ wpFloat P ops (NoPanic Q) Y j (fun a w => wpChain P ops (NoPanic Q) Y (fun a w => Q .normal a w) e a w) f I) hy hs (fun _ _ _ h => h) (e.length + f.length + 1) c _ a w.drew
    (fun a w ⟨I, hi, hf⟩ => (wpFloat_sound hy hs (fun _ _ _ h => h) e.length f _ I (fun a w ht => by
      have := wpChain_sound (P := P) (ops := ops) (Q := NoPanic Q) (Y := Y) (R := fun a w => Q .normal a w) hy hs (fun _ _ _ h => h) 0 e _ a w (fun a w h => ⟨by simpa using b5, h⟩) b3 ht
      rwa [Nat.zero_add] at this) b2 hf).2 a w hi) b1 h
  rw [show e.length + f.length + 1 + c.length = ops.size by omega] at this
  exact this
end
section
variable {P : Program} {ops : Array Oper} {Q : Exit → Act → World → Prop} {Y : World → World → Prop} {j : Nat} {T : Act → World → Prop}
theorem float_start {c : Chain} {a : Act} {w : World} (I : Act → Bool → Act → World → Prop) (h : ∀ a0, a0 = a → I a0 false a w ∧ wpFloat P ops Q Y j T c (I a0)) : ∃ I, I false a w ∧ wpFloat P ops Q Y j T c I :=
  ⟨I a, h a rfl⟩
theorem float_done {I : Bool → Act → World → Prop} (hj : ∀ a w, I false a w → wpOp P ops Q j (fun a' w' => Y w w' ∧ I true a' w') a w) (ht : ∀ a w, I true a w → T a w) : wpFloat P ops Q Y j T [] I := ⟨hj, ht⟩
theorem float_only {I : Bool → Act → World → Prop} {i : Nat} {r : Chain} (I' : Bool → Act → World → Prop) (hj : ∀ a w, I false a w → wpOp P ops Q j (fun a' w' => Y w w' ∧ I true a' w') a w)
    (hi : ∀ d a w, I d a w → wpOp P ops Q i (fun a' w' => Y w w' ∧ I' d a' w') a w) (hr : wpFloat P ops Q Y j T r I') : wpFloat P ops Q Y j T ((i, false) :: r) I := ⟨hj, I', hi, hr⟩
theorem float_taken {I : Bool → Act → World → Prop} {i : Nat} {r : Chain} (I' : Bool → Act → World → Prop)
    (hi : ∀ d a w, I d a w → ∃ o, ops[i]? = some o ∧ Region.wanted o (yielded ops a.tmps) = true ∧ ∃ v, (∀ W, Y w W → (execOp a.eval o).run P W = .ok (.value v) W) ∧ I' d (a.put o.dst v) w) (hr : wpFloat P ops Q Y j T r I') : wpFloat P ops Q Y j T ((i, true) :: r) I := ⟨I', hi, hr⟩
theorem float_take {l rest : List Oper} {i : Nat} {a : Act} {w : World} {o : Oper} {I' : Act → World → Prop} (hi : l.drop i = o :: rest) (hw : Region.wanted o (yielded l.toArray a.tmps) = true) (v : Value)
    (hv : ∀ W, Y w W → (execOp a.eval o).run P W = .ok (.value v) W) (h : I' (a.put o.dst v) w) :
    ∃ o, l.toArray[i]? = some o ∧ Region.wanted o (yielded l.toArray a.tmps) = true ∧ ∃ v, (∀ W, Y w W → (execOp a.eval o).run P W = .ok (.value v) W) ∧ I' (a.put o.dst v) w := ⟨o, at_of_drop hi, hw, v, hv, h⟩
end

theorem Below.setRow {B g : Nat} (W : World) (hg : B ≤ g) (cs : Array Value) : Below B W (W.setRow g cs) := ⟨rfl, rfl, rfl, by simp, fun k hk => setRow_other W g k cs (by omega)⟩
theorem OB.own_lt {w : World} {base : Nat} {e : TypeId} {A : Option Addr} {n c k : Nat} {l : List UInt8} (h : OB w base e A n c l) (hk : own A = some k) : k < w.heap.size := by
  rcases h.2 with ⟨h0, _⟩ | ⟨g, cap, cur, hv, _, hh, _⟩
  · injection h0 with h0
    subst h0
    cases hk
  · injection hv with hA
    subst hA
    injection hk with hk
    subst hk
    exact Blk.lt hh
/-- Once it has come (d), the value x is a pointer to a block of its own, at B or later, that holds cs; o isn't that block. -/
def Away (B : Nat) (t : TypeId) (cs : Array Value) (d : Bool) (x : Value) (o : Option Nat) (W : World) : Prop := d = true → ∃ g, x = .pointer (some ⟨g, 0, none⟩) ∧ B ≤ g ∧ Blk W g t cs ∧ o ≠ some g
section
variable {B : Nat} {t : TypeId} {cs : Array Value} {d : Bool} {x : Value} {o o' : Option Nat} {W W' : World}
theorem Away.not (h : d = false) : Away B t cs d x o W := fun e => by rw [h] at e; cases e
theorem Away.grow (h : Away B t cs d x o W) (hg : Grow W W') : Away B t cs d x o W' := fun e => by
  obtain ⟨g, e1, e2, e3, e4⟩ := h e
  exact ⟨g, e1, e2, e3.grow hg, e4⟩
theorem Away.none (h : Away B t cs d x o W) : Away B t cs d x none W := fun e => by
  obtain ⟨g, e1, e2, e3, e4⟩ := h e
  exact ⟨g, e1, e2, e3, fun h => by cases h⟩
theorem Away.step (h : Away B t cs d x o W) (hk : ∀ k, k < W.heap.size → o ≠ some k → W'.heap[k]? = W.heap[k]?) (ho : o' = o ∨ o' = some W.heap.size) : Away B t cs d x o' W' := fun e => by
  obtain ⟨g, e1, e2, e3, e4⟩ := h e
  refine ⟨g, e1, e2, (hk g e3.lt e4).trans e3, ?_⟩
  rcases ho with rfl | rfl
  · exact e4
  · have := e3.lt
    exact fun h => by injection h; omega
theorem Away.fresh (h : Away B t cs d x o W) (hg : Grow W W') : Away B t cs d x (some W.heap.size) W' := fun e => by
  obtain ⟨g, e1, e2, e3, _⟩ := h e
  exact ⟨g, e1, e2, e3.grow hg, fun h => by injection h with h; have := e3.lt; omega⟩
theorem Away.new (w : World) (ho : ∀ k, o = some k → k < w.heap.size) (hB : B ≤ w.heap.size) : Away B t cs true (.pointer (some ⟨w.heap.size, 0, Option.none⟩)) o (w.alloc (.cells cs t)) := fun _ =>
  ⟨w.heap.size, rfl, hB, Blk.new _ _ _, fun h => absurd (ho _ h) (Nat.lt_irrefl _)⟩
end
end Go.Proofs.Ytfahaefpglnlbaa
