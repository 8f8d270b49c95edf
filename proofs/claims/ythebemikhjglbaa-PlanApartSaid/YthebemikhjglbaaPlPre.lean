/-
  Several texts in one: A region that draws its order, walked along a given order of its operations; Blocks of cells, whole; A slice of bytes that reads as a list, and what keeps it so; append onto bytes of the call's own, from bytes of whatever place (nil, empty or not); Slices of structs (rows of z cells each); Two small words on what is returned; Contracts of span; How many ones a number of 64 bits has, as math/bits; Names in a table, as plain lists of bytes; A slice of strings that reads as a list of names; Plain mathematics of layer 1; Plain mathematics of rows; Slices of numbers; Small words that the layers behind head share; Models, as plain data; append of one struct in a list of operations; a store beside structs of the call's own; Models in memory.
-/
import Derived.OrdersHeld
import Derived.Deep.RegionHeld3
import Derived.WalkKit
import Derived.Deep.Draws
import Derived.Deep.OwnRows
import Derived.Deep.WholeRow
import Derived.Laws.CopyRow
import Derived.Laws.Tables
import Derived.Laws.IdiomStrings
import Derived.Laws.BytesArg
import Derived.Lib.Hide
import Derived.Maps.AppendAt
import Derived.Laws.MakeOwn
import Derived.Test.YthebemikhjglbaaRows
import Derived.Lib.Bytealg
import Derived.Laws.Strings

namespace Go.Proofs.Ythebemikhjglbaa
open Go.RowKit

/-- w' is w, grown: nothing that was there has changed. -/
def Grow (w w' : World) : Prop := Below w.heap.size w w'
theorem Grow.refl (w : World) : Grow w w := Below.refl _ _
theorem Grow.trans {a b c : World} (h : Grow a b) (k : Grow b c) : Grow a c := Below.trans h (Below.mono k h.size)
theorem Grow.trans' {w a b : World} (h : Grow w a) (k : Below w.heap.size a b) : Below w.heap.size w b := Below.trans h k
theorem Grow.of_drewN (w : World) (n : Nat) : Grow w (w.drewN n) := ⟨rfl, rfl, rfl, Nat.le_refl _, fun _ _ => rfl⟩
theorem Grow.of_drew (w : World) : Grow w w.drew := ⟨rfl, rfl, rfl, Nat.le_refl _, fun _ _ => rfl⟩
theorem Grow.of_alloc (w : World) (o : Obj) : Grow w (w.alloc o) := Below.alloc (Below.refl _ _) (Nat.le_refl _) o

theorem wpAnyH_weaken {P : Program} {md : Region.Mode} {ops : Array Oper} {Q : Exit → Act → World → Prop} {S S' : World → Prop} (hS : ∀ w, S' w → S w) :
    ∀ (fuel : Nat) (listed : Array Bool) (a : Act) (w : World), wpAnyH P md ops Q S' fuel listed a w → wpAnyH P md ops Q S fuel listed a w
  | 0, _, _, _, h => h
  | fuel + 1, _, _, _, h => ⟨h.1, fun i hi => wpOp_mono (fun a' w' h' => ⟨hS w' h'.1, wpAnyH_weaken hS fuel _ a' w' h'.2⟩) (h.2 i hi)⟩

/-- An order: (i, true): number i is taken first; (i, false): number i is all that may come. -/
abbrev Chain := List (Nat × Bool)

def Chain.after (listed : Array Bool) : Chain → Array Bool
  | [] => listed
  | p :: r => Chain.after (listed.setIfInBounds p.1 true) r

/-- The order is one that the region's edges allow. -/
def Chain.ok (ops : Array Oper) : Chain → Array Bool → Bool
  | [], _ => true
  | (i, true) :: r, listed => Region.free .any ops listed i && (Region.ready .any ops listed).contains i && Chain.ok ops r (listed.setIfInBounds i true)
  | (i, false) :: r, listed => Region.ready .any ops listed == [i] && Chain.ok ops r (listed.setIfInBounds i true)

/-- What may have changed between two worlds. -/
structure Leap (Y : World → World → Prop) : Prop where
  refl : ∀ w, Y w w
  trans : ∀ a b c, Y a b → Y b c → Y a c
theorem leap_grow : Leap Grow := ⟨Grow.refl, fun _ _ _ => Grow.trans⟩
/-- Nothing has changed but one block. -/
def Bar (g : Nat) (w W : World) : Prop := w.heap.size ≤ W.heap.size ∧ ∀ k, k < w.heap.size → k ≠ g → W.heap[k]? = w.heap[k]?
theorem leap_bar (g : Nat) : Leap (Bar g) := ⟨fun _ => ⟨Nat.le_refl _, fun _ _ _ => rfl⟩, fun _ _ _ h k => ⟨Nat.le_trans h.1 k.1, fun i hi hg => (k.2 i (Nat.lt_of_lt_of_le hi h.1) hg).trans (h.2 i hi hg)⟩⟩
theorem leap_below (B : Nat) : Leap (Below B) := ⟨Below.refl B, fun _ _ _ => Below.trans⟩
theorem Bar.of_grow {g : Nat} {w W : World} (h : Grow w W) : Bar g w W := ⟨h.size, fun k hk _ => h.block k hk⟩

def wpChain (P : Program) (ops : Array Oper) (Q : Exit → Act → World → Prop) (Y : World → World → Prop) (R : Act → World → Prop) : Chain → Act → World → Prop
  | [], a, w => R a w
  | (i, true) :: r, a, w => ∃ o, ops[i]? = some o ∧ ((Region.wanted o (yielded ops a.tmps) = true ∧ ∃ v, (∀ W, Y w W → (execOp a.eval o).run P W = .ok (.value v) W) ∧ wpChain P ops Q Y R r (a.put o.dst v) w) ∨
      (Region.wanted o (yielded ops a.tmps) = false ∧ wpChain P ops Q Y R r (a.put o.dst undef) w))
  | (i, false) :: r, a, w => wpOp P ops Q i (fun a' w' => Y w w' ∧ wpChain P ops Q Y R r a' w') a w

section
variable {P : Program} {ops : Array Oper} {Q : Exit → Act → World → Prop} {Y : World → World → Prop} {R : Act → World → Prop}

theorem wpChain_sound (hy : Leap Y) (hs : Region.noSelect ops = true) (hQ : ∀ c a w, ¬ Q (.panic c) a w) (n : Nat) : ∀ (c : Chain) (listed : Array Bool) (a : Act) (w : World),
    (∀ a w, R a w → wpAnyH P .any ops Q (Y w) n (Chain.after listed c) a w) →
    Chain.ok ops c listed = true → wpChain P ops Q Y R c a w → wpAnyH P .any ops Q (Y w) (n + c.length) listed a w
  | [], listed, a, w, hR, _, h => hR a w h
  | (i, true) :: r, listed, a, w, hR, hB, h => by
    simp only [Chain.ok, Bool.and_eq_true] at hB
    obtain ⟨o, ho, hh⟩ := h
    rw [List.length_cons, ← Nat.add_assoc]
    rcases hh with ⟨hw, v, hv, hr⟩ | ⟨hw, hr⟩
    · exact wpAnyH_take ho hs hB.1.1 hB.1.2 (fun c a w h => absurd h (hQ _ _ _)) (.inl ⟨hw, hv⟩) (hy.refl w) (wpChain_sound hy hs hQ n r _ _ w hR hB.2 hr)
    · exact wpAnyH_take ho hs hB.1.1 hB.1.2 (fun c a w h => absurd h (hQ _ _ _)) (.inr ⟨hw, rfl⟩) (hy.refl w) (wpChain_sound hy hs hQ n r _ _ w hR hB.2 hr)
  | (i, false) :: r, listed, a, w, hR, hB, h => by
    simp only [Chain.ok, Bool.and_eq_true] at hB
    rw [List.length_cons, ← Nat.add_assoc]
    refine wpAnyH_all (rs := [i]) (by simpa using hB.1) (by simp) ?_
    intro k hk
    obtain rfl : k = i := by simpa using hk
    exact wpOp_mono (fun a' w' h' => ⟨h'.1, wpAnyH_weaken (fun W hW => hy.trans _ _ _ h'.1 hW) _ _ _ _ (wpChain_sound hy hs hQ n r _ a' w' hR hB.2 h'.2)⟩) h

/-- The region, along one order. -/
theorem wp_region_leap (hy : Leap Y) {id : Nat} {a : Act} {w : World} (c : Chain) (hm : P.follows .mixedOrders = true) (hs : Region.noSelect ops = true)
    (hB : (Chain.ok ops c (Array.replicate ops.size false) && (c.length == ops.size) && (Region.ready .any ops (Chain.after (Array.replicate ops.size false) c) == [])) = true)
    (h : wpChain P ops (NoPanic Q) Y (fun a w => Q .normal a w) c a w.drew) : (Code.region id ops true).wp P Q a w := by
  simp only [Bool.and_eq_true] at hB
  have hl : c.length = ops.size := by simpa using hB.1.2
  refine wp_region_noPanic (wp_region_held (S := Y w.drew) hm ?_)
  have := wpChain_sound (P := P) (ops := ops) (Q := NoPanic Q) (Y := Y) (R := fun a w => Q .normal a w) hy hs (fun _ _ _ h => h) 0 c (Array.replicate ops.size false) a w.drew
    (fun a w h => ⟨by simpa using hB.2, h⟩) hB.1.1 h
  rw [Nat.zero_add, hl] at this
  exact this

/-- The region, along an order that parts once: either of two may come first. -/
theorem wp_region_leapfork (hy : Leap Y) {id : Nat} {a : Act} {w : World} (c : Chain) (i : Nat) (d : Chain) (j : Nat) (e : Chain) (hm : P.follows .mixedOrders = true) (hs : Region.noSelect ops = true)
    (hB : (Chain.ok ops c (Array.replicate ops.size false) && (Region.ready .any ops (Chain.after (Array.replicate ops.size false) c) == [i, j]) &&
      Chain.ok ops d ((Chain.after (Array.replicate ops.size false) c).setIfInBounds i true) && (c.length + d.length + 1 == ops.size) && (Region.ready .any ops (Chain.after ((Chain.after (Array.replicate ops.size false) c).setIfInBounds i true) d) == []) &&
      Chain.ok ops e ((Chain.after (Array.replicate ops.size false) c).setIfInBounds j true) && (c.length + e.length + 1 == ops.size) && (Region.ready .any ops (Chain.after ((Chain.after (Array.replicate ops.size false) c).setIfInBounds j true) e) == [])) = true)
    (h : wpChain P ops (NoPanic Q) Y (fun a w => wpOp P ops (NoPanic Q) i (fun a' w' => Y w w' ∧ wpChain P ops (NoPanic Q) Y (fun a w => Q .normal a w) d a' w') a w ∧
      wpOp P ops (NoPanic Q) j (fun a' w' => Y w w' ∧ wpChain P ops (NoPanic Q) Y (fun a w => Q .normal a w) e a' w') a w) c a w.drew) : (Code.region id ops true).wp P Q a w := by
  simp only [Bool.and_eq_true] at hB
  obtain ⟨⟨⟨⟨⟨⟨⟨b1, b2⟩, b3⟩, b4⟩, b5⟩, b6⟩, b7⟩, b8⟩ := hB
  have l1 : c.length + d.length + 1 = ops.size := by simpa using b4
  have l2 : c.length + e.length + 1 = ops.size := by simpa using b7
  refine wp_region_noPanic (wp_region_held (S := Y w.drew) hm ?_)
  have := wpChain_sound (P := P) (ops := ops) (Q := NoPanic Q) (Y := Y) (R := fun a w => wpOp P ops (NoPanic Q) i (fun a' w' => Y w w' ∧ wpChain P ops (NoPanic Q) Y (fun a w => Q .normal a w) d a' w') a w ∧
      wpOp P ops (NoPanic Q) j (fun a' w' => Y w w' ∧ wpChain P ops (NoPanic Q) Y (fun a w => Q .normal a w) e a' w') a w) hy hs (fun _ _ _ h => h) (d.length + 1) c (Array.replicate ops.size false) a w.drew
    (fun a w hh => by
      refine wpAnyH_all (rs := [i, j]) (by simpa using b2) (by simp) ?_
      intro k hk
      by_cases hki : k = i
      · subst hki
        refine wpOp_mono (fun a' w' h' => ⟨h'.1, wpAnyH_weaken (fun W hW => hy.trans _ _ _ h'.1 hW) _ _ _ _ ?_⟩) hh.1
        have := wpChain_sound (P := P) (ops := ops) (Q := NoPanic Q) (Y := Y) (R := fun a w => Q .normal a w) hy hs (fun _ _ _ h => h) 0 d _ a' w' (fun a w h => ⟨by simpa using b5, h⟩) b3 h'.2
        rwa [Nat.zero_add] at this
      · obtain rfl : k = j := by
          rcases List.mem_cons.1 hk with e1 | e1
          · exact absurd e1 hki
          · simpa using e1
        refine wpOp_mono (fun a' w' h' => ⟨h'.1, wpAnyH_weaken (fun W hW => hy.trans _ _ _ h'.1 hW) _ _ _ _ ?_⟩) hh.2
        have := wpChain_sound (P := P) (ops := ops) (Q := NoPanic Q) (Y := Y) (R := fun a w => Q .normal a w) hy hs (fun _ _ _ h => h) 0 e _ a' w' (fun a w h => ⟨by simpa using b8, h⟩) b6 h'.2
        rw [Nat.zero_add, show e.length = d.length by omega] at this
        exact this) b1 h
  rw [show d.length + 1 + c.length = ops.size by omega] at this
  exact this

theorem wp_region_chain {id : Nat} {a : Act} {w : World} (c : Chain) (hm : P.follows .mixedOrders = true) (hs : Region.noSelect ops = true)
    (hB : (Chain.ok ops c (Array.replicate ops.size false) && (c.length == ops.size) && (Region.ready .any ops (Chain.after (Array.replicate ops.size false) c) == [])) = true)
    (h : wpChain P ops (NoPanic Q) Grow (fun a w => Q .normal a w) c a w.drew) : (Code.region id ops true).wp P Q a w := wp_region_leap leap_grow c hm hs hB h
theorem wp_region_fork {id : Nat} {a : Act} {w : World} (c : Chain) (i : Nat) (d : Chain) (j : Nat) (e : Chain) (hm : P.follows .mixedOrders = true) (hs : Region.noSelect ops = true)
    (hB : (Chain.ok ops c (Array.replicate ops.size false) && (Region.ready .any ops (Chain.after (Array.replicate ops.size false) c) == [i, j]) &&
      Chain.ok ops d ((Chain.after (Array.replicate ops.size false) c).setIfInBounds i true) && (c.length + d.length + 1 == ops.size) && (Region.ready .any ops (Chain.after ((Chain.after (Array.replicate ops.size false) c).setIfInBounds i true) d) == []) &&
      Chain.ok ops e ((Chain.after (Array.replicate ops.size false) c).setIfInBounds j true) && (c.length + e.length + 1 == ops.size) && (Region.ready .any ops (Chain.after ((Chain.after (Array.replicate ops.size false) c).setIfInBounds j true) e) == [])) = true)
    (h : wpChain P ops (NoPanic Q) Grow (fun a w => wpOp P ops (NoPanic Q) i (fun a' w' => Grow w w' ∧ wpChain P ops (NoPanic Q) Grow (fun a w => Q .normal a w) d a' w') a w ∧
      wpOp P ops (NoPanic Q) j (fun a' w' => Grow w w' ∧ wpChain P ops (NoPanic Q) Grow (fun a w => Q .normal a w) e a' w') a w) c a w.drew) : (Code.region id ops true).wp P Q a w := wp_region_leapfork leap_grow c i d j e hm hs hB h

theorem at_of_drop {l rest : List Oper} {i : Nat} {o : Oper} (h : l.drop i = o :: rest) : l.toArray[i]? = some o := by
  have : (l.drop i)[0]? = some o := by rw [h]; rfl
  simpa using this
theorem chain_take {l rest : List Oper} {i : Nat} {r : Chain} {a : Act} {w : World} {o : Oper} (hi : l.drop i = o :: rest) (hw : Region.wanted o (yielded l.toArray a.tmps) = true) (v : Value)
    (hv : ∀ W, Y w W → (execOp a.eval o).run P W = .ok (.value v) W) (h : wpChain P l.toArray Q Y R r (a.put o.dst v) w) : wpChain P l.toArray Q Y R ((i, true) :: r) a w := ⟨o, at_of_drop hi, .inl ⟨hw, v, hv, h⟩⟩
theorem chain_skip {l rest : List Oper} {i : Nat} {r : Chain} {a : Act} {w : World} {o : Oper} (hi : l.drop i = o :: rest) (hw : Region.wanted o (yielded l.toArray a.tmps) = false)
    (h : wpChain P l.toArray Q Y R r (a.put o.dst undef) w) : wpChain P l.toArray Q Y R ((i, true) :: r) a w := ⟨o, at_of_drop hi, .inr ⟨hw, h⟩⟩
theorem step_op {l rest : List Oper} {i : Nat} {a : Act} {w : World} {o : Oper} {M : Act → World → Prop} (hi : l.drop i = o :: rest) (hw : Region.wanted o (yielded l.toArray a.tmps) = true)
    (h : ∀ K : Act → World → Prop, (∀ a' w', Y w w' → M a' w' → K a' w') → o.wp P a w K Q) : wpOp P l.toArray Q i (fun a' w' => Y w w' ∧ M a' w') a w := by
  unfold wpOp
  simp only [at_of_drop hi, hw, if_true]
  exact .inl (h _ fun a' w' h1 h2 => ⟨h1, h2⟩)
theorem step_none (hy : Leap Y) {l rest : List Oper} {i : Nat} {a : Act} {w : World} {o : Oper} {M : Act → World → Prop} (hi : l.drop i = o :: rest) (hw : Region.wanted o (yielded l.toArray a.tmps) = false)
    (h : M (a.put o.dst undef) w) : wpOp P l.toArray Q i (fun a' w' => Y w w' ∧ M a' w') a w := by
  unfold wpOp
  simp only [at_of_drop hi, hw]
  exact ⟨hy.refl w, h⟩
theorem chain_only {l rest : List Oper} {i : Nat} {r : Chain} {a : Act} {w : World} {o : Oper} (hi : l.drop i = o :: rest) (hw : Region.wanted o (yielded l.toArray a.tmps) = true)
    (h : ∀ K : Act → World → Prop, (∀ a' w', Y w w' → wpChain P l.toArray Q Y R r a' w' → K a' w') → o.wp P a w K Q) : wpChain P l.toArray Q Y R ((i, false) :: r) a w := step_op hi hw h
theorem chain_none_of (hy : Leap Y) {l rest : List Oper} {i : Nat} {r : Chain} {a : Act} {w : World} {o : Oper} (hi : l.drop i = o :: rest) (hw : Region.wanted o (yielded l.toArray a.tmps) = false)
    (h : wpChain P l.toArray Q Y R r (a.put o.dst undef) w) : wpChain P l.toArray Q Y R ((i, false) :: r) a w := step_none hy hi hw h
theorem chain_none {l rest : List Oper} {i : Nat} {r : Chain} {a : Act} {w : World} {o : Oper} (hi : l.drop i = o :: rest) (hw : Region.wanted o (yielded l.toArray a.tmps) = false)
    (h : wpChain P l.toArray Q Grow R r (a.put o.dst undef) w) : wpChain P l.toArray Q Grow R ((i, false) :: r) a w := chain_none_of leap_grow hi hw h
theorem chain_done {a : Act} {w : World} (h : R a w) : wpChain P ops Q Y R [] a w := h
end
attribute [irreducible] wpChain
end Go.Proofs.Ythebemikhjglbaa

namespace Go.Proofs.Ythebemikhjglbaa
open Go.RowKit

/-- Block g holds the cells cs. -/
def Blk (w : World) (g : Nat) (t : TypeId) (cs : Array Value) : Prop := w.heap[g]? = some (.cells cs t (0, 0))

section
variable {w W : World} {g : Nat} {t : TypeId} {cs : Array Value}
theorem Blk.lt (h : Blk w g t cs) : g < w.heap.size := by
  rcases Nat.lt_or_ge g w.heap.size with h1 | h1
  · exact h1
  · rw [Blk, Array.getElem?_eq_none h1] at h; cases h
theorem Blk.new (w : World) (t : TypeId) (cs : Array Value) : Blk (w.alloc (.cells cs t)) w.heap.size t cs := heap_alloc_new w _
theorem Blk.grow (h : Blk w g t cs) (hg : Grow w W) : Blk W g t cs := by rw [Blk, hg.block g h.lt]; exact h
theorem Blk.bar {k : Nat} (h : Blk w g t cs) (hb : Bar k w W) (hk : g ≠ k) : Blk W g t cs := by rw [Blk, hb.2 g h.lt hk]; exact h
theorem Blk.alloc (h : Blk w g t cs) (o : Obj) : Blk (w.alloc o) g t cs := h.grow (Grow.of_alloc w o)
theorem Blk.drew (h : Blk w g t cs) : Blk w.drew g t cs := h
theorem Blk.drewN (h : Blk w g t cs) (n : Nat) : Blk (w.drewN n) g t cs := h
theorem Blk.at (h : Blk w g t cs) (j : Nat) : w.cell? ⟨g, j, none⟩ = cs[j]? := cell_of_row w g j cs t (0, 0) h
theorem Blk.soft (h : Blk w g t cs) (j : Nat) : w.frozen? ⟨g, j, none⟩ = false := by
  simp only [World.frozen?]; rw [h]; simp
theorem Blk.loads {P : Program} (h : Blk w g t cs) {n : Nat} (hn : cs.size = n) : (loadCellsFrom ⟨g, 0, none⟩ 0 n #[]).run P w = .ok cs w := by
  subst hn
  have := run_loadCells_list (P := P) w ⟨g, 0, none⟩ cs.toList (fun j v hv => by
    have hadd : (⟨g, 0, none⟩ : Addr).add j = ⟨g, j, none⟩ := by unfold Addr.add; split <;> simp_all
    rw [hadd, h.at]
    simpa using hv)
  simpa [loadCells] using this
theorem Blk.stores {P : Program} (h : Blk w g t cs) {cs' : Array Value} (hn : cs.size = cs'.size) (h1 : cs'.all (·.oneCell') = true) : (storeCells ⟨g, 0, none⟩ cs'.toList 0).run P w = .ok () (w.setRow g cs') := by
  exact run_storeCells_from (P := P) g t cs'.toList 0 cs w h (by simp; omega) (fun v hv => (Array.all_eq_true_iff_forall_mem.1 h1) v (by simpa using hv))
theorem Blk.var {P : Program} (h : Blk w g t cs) (ty : TypeId) (d : TypeDesc) (hu : P.underlying ty = some d) (hd : (match d with | .struct _ | .array _ _ => true | _ => false) = true) (hi : (P.info? ty).map (·.size) = some cs.size) :
    (loadVar ty ⟨g, 0, none⟩).run P w = .ok (.agg cs) w := run_loadVar_row w g t ty cs (0, 0) d h hu hd hi
/-- A whole block is read, as an operation. -/
theorem Blk.exec {P : Program} (h : Blk w g t cs) {o : Oper} {ev : Operand → Value} (ty : TypeId) (x : Operand) (ho : o.op = .load ty x) (hx : ev x = .pointer (some ⟨g, 0, none⟩))
    (d : TypeDesc) (hu : P.underlying ty = some d) (hd : (match d with | .struct _ | .array _ _ => true | _ => false) = true) (hi : (P.info? ty).map (·.size) = some cs.size) :
    (execOp ev o).run P w = .ok (.value (.agg cs)) w := by
  unfold execOp
  simp only [ho, hx, Instr.loadAt, Instr.sureAddr, Sem.run_bind, Sem.run_pure, Result.andThen_ok, run_loadVar_row w g t ty cs (0, 0) d h hu hd hi]
theorem Blk.set (h : Blk w g t cs) (cs' : Array Value) : Blk (w.setRow g cs') g t cs' := setRow_heap w g cs cs' t (0, 0) h
theorem Blk.other {k : Nat} (h : Blk w g t cs) (hk : g ≠ k) (cs' : Array Value) : Blk (w.setRow k cs') g t cs := by
  rw [Blk, setRow_other w k g cs' hk]; exact h
theorem Blk.cellset (h : Blk w g t cs) {a : Addr} (ha : g ≠ a.block) (v : Value) : Blk (w.setCell a v) g t cs := by rw [Blk, Deep.blk_setCell_other _ _ _ _ ha]; exact h
theorem Blk.same (h : Blk w g t cs) : w.setRow g cs = w := setRow_self w g cs t (0, 0) h
theorem Blk.row {f : Nat → Value} (h : Blk w g t cs) (hc : ∀ i, i < cs.size → cs[i]? = some (f i)) : w.rowIs g t cs.size f := ⟨cs, h, rfl, hc⟩
theorem Bar.set (w : World) (g : Nat) (cs' : Array Value) : Bar g w (w.setRow g cs') := ⟨by simp, fun k _ hk => setRow_other w g k cs' hk⟩
theorem Grow.set {w0 : World} (h : Grow w0 w) (hg : w0.heap.size ≤ g) (cs' : Array Value) : Grow w0 (w.setRow g cs') :=
  ⟨h.os, h.tape, h.output, by simpa using h.size, fun k hk => (setRow_other w g k cs' (by omega)).trans (h.block k hk)⟩
theorem Grow.cellset {w0 : World} (h : Grow w0 w) (hg : w0.heap.size ≤ g) (i : Nat) (v : Value) : Grow w0 (w.setCell ⟨g, i, none⟩ v) := Below.setCell h hg v
theorem Blk.c2 {a b : Value} (h : Blk w g t #[a, b]) : w.cell? ⟨g, 0, none⟩ = some a ∧ w.cell? ⟨g, 1, none⟩ = some b := ⟨h.at 0, h.at 1⟩
theorem Blk.c4 {a b c d : Value} (h : Blk w g t #[a, b, c, d]) : w.cell? ⟨g, 0, none⟩ = some a ∧ w.cell? ⟨g, 1, none⟩ = some b ∧ w.cell? ⟨g, 2, none⟩ = some c ∧ w.cell? ⟨g, 3, none⟩ = some d := ⟨h.at 0, h.at 1, h.at 2, h.at 3⟩
theorem Blk.c13 {a0 a1 a2 a3 a4 a5 a6 a7 a8 a9 a10 a11 a12 : Value} (h : Blk w g t #[a0, a1, a2, a3, a4, a5, a6, a7, a8, a9, a10, a11, a12]) :
    w.cell? ⟨g, 0, none⟩ = some a0 ∧ w.cell? ⟨g, 1, none⟩ = some a1 ∧ w.cell? ⟨g, 2, none⟩ = some a2 ∧ w.cell? ⟨g, 3, none⟩ = some a3 ∧ w.cell? ⟨g, 4, none⟩ = some a4 ∧ w.cell? ⟨g, 5, none⟩ = some a5 ∧ w.cell? ⟨g, 6, none⟩ = some a6 ∧ w.cell? ⟨g, 7, none⟩ = some a7 ∧ w.cell? ⟨g, 8, none⟩ = some a8 ∧ w.cell? ⟨g, 9, none⟩ = some a9 ∧ w.cell? ⟨g, 10, none⟩ = some a10 ∧ w.cell? ⟨g, 11, none⟩ = some a11 ∧ w.cell? ⟨g, 12, none⟩ = some a12 :=
  ⟨h.at 0, h.at 1, h.at 2, h.at 3, h.at 4, h.at 5, h.at 6, h.at 7, h.at 8, h.at 9, h.at 10, h.at 11, h.at 12⟩
end
/-- Blocks that were laid one behind the other. -/
theorem blk1 {w W : World} {t1 : TypeId} {c1 : Array Value} (h : w.alloc (.cells c1 t1) = W) : Blk W w.heap.size t1 c1 ∧ Grow w W := by
  subst h; exact ⟨Blk.new _ _ _, Grow.of_alloc _ _⟩
theorem blk2 {w W : World} {t1 t2 : TypeId} {c1 c2 : Array Value} (h : (w.alloc (.cells c1 t1)).alloc (.cells c2 t2) = W) : Blk W w.heap.size t1 c1 ∧ Blk W (w.heap.size + 1) t2 c2 ∧ Grow w W := by
  subst h
  have h2 := Blk.new (w.alloc (.cells c1 t1)) t2 c2
  rw [show (w.alloc (.cells c1 t1)).heap.size = w.heap.size + 1 by simp] at h2
  exact ⟨(Blk.new _ _ _).alloc _, h2, (Grow.of_alloc _ _).trans (Grow.of_alloc _ _)⟩
theorem blk3 {w W : World} {t1 t2 t3 : TypeId} {c1 c2 c3 : Array Value} (h : ((w.alloc (.cells c1 t1)).alloc (.cells c2 t2)).alloc (.cells c3 t3) = W) :
    Blk W w.heap.size t1 c1 ∧ Blk W (w.heap.size + 1) t2 c2 ∧ Blk W (w.heap.size + 1 + 1) t3 c3 ∧ Grow w W := by
  obtain ⟨h1, h2, h3⟩ := blk2 (w := w) (t1 := t1) (t2 := t2) (c1 := c1) (c2 := c2) rfl
  subst h
  have h4 := Blk.new ((w.alloc (.cells c1 t1)).alloc (.cells c2 t2)) t3 c3
  rw [show ((w.alloc (.cells c1 t1)).alloc (.cells c2 t2)).heap.size = w.heap.size + 1 + 1 by simp] at h4
  exact ⟨h1.alloc _, h2.alloc _, h4, h3.trans (Grow.of_alloc _ _)⟩

/-- The blocks of S are as they were. -/
def Kept (S : Nat → Prop) (w W : World) : Prop := w.heap.size ≤ W.heap.size ∧ ∀ k, k < w.heap.size → S k → W.heap[k]? = w.heap[k]?
theorem leap_kept (S : Nat → Prop) : Leap (Kept S) := ⟨fun _ => ⟨Nat.le_refl _, fun _ _ _ => rfl⟩, fun _ _ _ h k => ⟨Nat.le_trans h.1 k.1, fun i hi hg => (k.2 i (Nat.lt_of_lt_of_le hi h.1) hg).trans (h.2 i hi hg)⟩⟩
theorem Kept.of_grow {S : Nat → Prop} {w W : World} (h : Grow w W) : Kept S w W := ⟨h.size, fun k hk _ => h.block k hk⟩
theorem Blk.kept {S : Nat → Prop} {w W : World} {g : Nat} {t : TypeId} {cs : Array Value} (h : Blk w g t cs) (hb : Kept S w W) (hk : S g) : Blk W g t cs := by rw [Blk, hb.2 g h.lt hk]; exact h

/-- An element of an array that is a value. -/
theorem wpList_index {P : Program} {ops : Array Oper} {rest : List Oper} {o : Oper} {a : Act} {w : World} {Q : Exit → Act → World → Prop} (hgd : o.guard = none) (ty e : TypeId) (x y : Operand) (ho : o.op = .index ty x y)
    (n : Nat) (d : TypeDesc) (hu : P.underlying ty = some (.array n e)) (he : P.underlying e = some d) (hd : (match d with | .struct _ | .array _ _ => true | _ => false) = false) (hi : (P.info? e).map (·.size) = some 1)
    (cs : Array Value) (k : Nat) (v : Value) (hx : a.eval x = .agg cs) (hy : a.eval y = .int .i64 (k : Int)) (hk : k < n) (hv : cs[k]? = some v)
    (h : wpList P ops Q rest (a.put o.dst v) w) : wpList P ops Q (o :: rest) a w := by
  refine wpList_plain hgd fun K hK => ?_
  have hr : (Instr.index ty (.agg cs) (.int .i64 (k : Int))).run P w = .ok v w := by
    cases hq : P.info? e with
    | none => simp [hq] at hi
    | some i =>
      have hs : i.size = 1 := by simpa [hq] using hi
      have hagg : (isAgg e).run P w = .ok false w := by
        unfold isAgg
        rw [Sem.run_bind, run_underlying he w]
        cases d <;> simp_all
      have hkn : ¬ n ≤ k := by omega
      simp [Instr.index, asIntOf, run_underlying hu, hkn, part, sizeOf, typeInfo, hq, hs, hagg, hv]
  unfold Oper.wp execOp
  simp only [ho, hx, hy, hr, Sem.run_bind, Sem.run_pure, Result.andThen_ok]
  exact hK _ _ h
end Go.Proofs.Ythebemikhjglbaa

namespace Go.Proofs.Ythebemikhjglbaa
open Go.RowKit

/-- The slice (A, n, c) reads as the bytes l; its cells lie below block B. -/
structure RB (w : World) (B : Nat) (A : Option Addr) (n c : Nat) (l : List UInt8) : Prop where
  len : n = l.length
  cap : n ≤ c
  max : c ≤ maxLen
  pos : 0 < n → ∃ b off, A = some ⟨b, off, none⟩ ∧ b < B ∧ ∀ j (h : j < l.length), w.cell? ⟨b, off + j, none⟩ = some (.int .u8 (l[j].toNat : Int))

section
variable {w w' : World} {B B' : Nat} {A : Option Addr} {n c : Nat} {l : List UInt8}
theorem RB.keep (h : RB w B A n c l) (hk : ∀ p : Addr, p.block < B → w'.cell? p = w.cell? p) : RB w' B A n c l :=
  ⟨h.len, h.cap, h.max, fun hn => by
    obtain ⟨b, off, e, hb, hc⟩ := h.pos hn
    exact ⟨b, off, e, hb, fun j hj => (hk ⟨b, off + j, none⟩ hb).trans (hc j hj)⟩⟩
theorem RB.more (h : RB w B A n c l) (hB : B ≤ B') : RB w B' A n c l :=
  ⟨h.len, h.cap, h.max, fun hn => by
    obtain ⟨b, off, e, hb, hc⟩ := h.pos hn
    exact ⟨b, off, e, by omega, hc⟩⟩
theorem RB.below (h : RB w B A n c l) (hb : Below B w w') : RB w' B A n c l := h.keep fun _ hp => hb.cell hp
theorem RB.belowAt {B0 : Nat} (h : RB w B A n c l) (hb : Below B0 w w') (hB : B ≤ B0) : RB w' B A n c l := h.keep fun _ hp => hb.cell (by omega)
theorem RB.drewN (h : RB w B A n c l) (k : Nat) : RB (w.drewN k) B A n c l := ⟨h.len, h.cap, h.max, h.pos⟩
theorem RB.drew (h : RB w B A n c l) : RB w.drew B A n c l := ⟨h.len, h.cap, h.max, h.pos⟩
theorem RB.nil : RB w B none 0 0 [] := ⟨rfl, Nat.le_refl _, Nat.zero_le _, fun h => absurd h (by omega)⟩

/-- b[p:p+n], n not 0 -/
theorem RB.sub {b off p m : Nat} (h : RB w B (some ⟨b, off, none⟩) n c l) (hp : p + m ≤ n) (hm : 0 < m) : RB w B (some ⟨b, off + p, none⟩) m (c - p) ((l.drop p).take m) := by
  have hl := h.len
  have hcap := h.cap
  have hmax := h.max
  refine ⟨by simp; omega, by omega, by omega, fun _ => ?_⟩
  obtain ⟨b', off', e, hb, hc⟩ := h.pos (by omega)
  injection e with e
  injection e with e1 e2 _
  subst e1; subst e2
  refine ⟨b, off + p, rfl, hb, fun j hj => ?_⟩
  have hj' : j < m := by simp at hj; omega
  rw [Nat.add_assoc, hc (p + j) (by omega)]
  simp

/-- string(b) -/
theorem RB.str {P : Program} (h : RB w B A n c l) (src dst e : TypeId) (hs : P.underlying src = some (.slice e)) (he : P.underlying e = some (.int .u8)) (hd : P.underlying dst = some .string) :
    (convert src dst (.slice A n c)).run P w = .ok (.string ⟨l.toArray⟩) w := by
  obtain rfl := h.len
  rcases A with _ | a
  · have hl : l = [] := by
      rcases Nat.eq_zero_or_pos l.length with h0 | h0
      · exact List.eq_nil_of_length_eq_zero h0
      · obtain ⟨_, _, e, _⟩ := h.pos h0
        cases e
    subst hl
    exact run_convert_bytes_nil w src e hs he _ _ dst hd
  · refine run_convert_bytes_back w src dst e a c l hs he hd fun j hj => ?_
    obtain ⟨b, off, e, _, hc⟩ := h.pos (by omega)
    injection e with e
    subst e
    have e2 : (⟨b, off, none⟩ : Addr).add j = ⟨b, off + j, none⟩ := by unfold Addr.add; split <;> simp_all
    rw [e2]
    exact hc j hj

/-- What the call's own row holds. -/
theorem RB.of_own {base : Nat} {e : TypeId} (h : w.ownsRow base e 1 (.slice A n c) n (l.map fun b => Value.int .u8 (b.toNat : Int))) : RB w w.heap.size A n c l := by
  have hl : n = l.length := by have := h.1; simp at this; omega
  rcases h.2 with ⟨e0, h0⟩ | ⟨g, cap, cur, hv, _, hh, hnc, hcm, hsz, htk⟩
  · injection e0 with e1 e2 e3
    subst e1; subst e3
    exact ⟨hl, by omega, Nat.zero_le _, fun hp => by omega⟩
  · injection hv with hA _ hc
    subst hA; subst hc
    refine ⟨hl, hnc, hcm, fun _ => ⟨g, 0, rfl, ?_, fun j hj => ?_⟩⟩
    · rcases Nat.lt_or_ge g w.heap.size with h1 | h1
      · exact h1
      · rw [Array.getElem?_eq_none h1] at hh; cases hh
    · rw [cell_of_row w g (0 + j) cur e (0, 0) hh, Nat.zero_add]
      have e1 : (cur.toList.take (n * 1))[j]? = some (Value.int .u8 (l[j].toNat : Int)) := by
        rw [htk]; simp [hj]
      rw [List.getElem?_take_of_lt (by omega)] at e1
      simpa using e1
end
end Go.Proofs.Ythebemikhjglbaa

namespace Go.Proofs.Ythebemikhjglbaa
open Go.RowKit

/-- A byte's cell. -/
def byt (b : UInt8) : Value := .int .u8 (b.toNat : Int)

/-- The slice (A, n, c) is the call's own (its block is base or later) and holds the bytes l. -/
def OB (w : World) (base : Nat) (e : TypeId) (A : Option Addr) (n c : Nat) (l : List UInt8) : Prop :=
  w.ownsRow base e 1 (.slice A n c) n (l.map byt)

theorem OB.rb {w : World} {base : Nat} {e : TypeId} {A : Option Addr} {n c : Nat} {l : List UInt8} (h : OB w base e A n c l) : RB w w.heap.size A n c l := RB.of_own h
theorem OB.len {w : World} {base : Nat} {e : TypeId} {A : Option Addr} {n c : Nat} {l : List UInt8} (h : OB w base e A n c l) : n = l.length := h.rb.len
theorem OB.nil {w : World} {base : Nat} {e : TypeId} : OB w base e none 0 0 [] := World.ownsRow_nil _ _ _ _

/-- A new block that holds the bytes l. -/
theorem RB.lit (w : World) (t : TypeId) (l : List UInt8) (h : l.length ≤ maxLen) : RB (w.alloc (.cells (l.map byt).toArray t)) (w.heap.size + 1) (some ⟨w.heap.size, 0, none⟩) l.length l.length l :=
  ⟨rfl, Nat.le_refl _, h, fun _ => ⟨w.heap.size, 0, rfl, by omega, fun j hj => by
    rw [Nat.zero_add, World.cell?_alloc_mark]
    simp [hj, byt]⟩⟩
theorem OB.lit (w : World) (base : Nat) (t : TypeId) (l : List UInt8) (h : l.length ≤ maxLen) (hb : base ≤ w.heap.size) : OB (w.alloc (.cells (l.map byt).toArray t)) base t (some ⟨w.heap.size, 0, none⟩) l.length l.length l :=
  ⟨by simp, .inr ⟨w.heap.size, l.length, (l.map byt).toArray, rfl, hb, heap_alloc_new w _, Nat.le_refl _, h, by simp, by simp [List.take_of_length_le]⟩⟩

theorem OB.keep {w w' : World} {base : Nat} {e : TypeId} {A : Option Addr} {n c : Nat} {l : List UInt8} (h : OB w base e A n c l) (hb : Below w.heap.size w w') : OB w' base e A n c l := by
  refine ⟨h.1, ?_⟩
  rcases h.2 with h0 | ⟨g, cap, cur, hv, hg, hh, r⟩
  · exact .inl h0
  · refine .inr ⟨g, cap, cur, hv, hg, ?_, r⟩
    rw [hb.block g ?_]
    · exact hh
    · rcases Nat.lt_or_ge g w.heap.size with h1 | h1
      · exact h1
      · rw [Array.getElem?_eq_none h1] at hh; cases hh
theorem OB.alloc {w : World} {base : Nat} {e : TypeId} {A : Option Addr} {n c : Nat} {l : List UInt8} (h : OB w base e A n c l) (o : Obj) : OB (w.alloc o) base e A n c l :=
  h.keep (Below.alloc (Below.refl _ _) (Nat.le_refl _) o)
theorem OB.mono {w : World} {base base' : Nat} {e : TypeId} {A : Option Addr} {n c : Nat} {l : List UInt8} (h : OB w base e A n c l) (hb : base' ≤ base) : OB w base' e A n c l := by
  refine ⟨h.1, ?_⟩
  rcases h.2 with h0 | ⟨g, cap, cur, hv, hg, r⟩
  · exact .inl h0
  · exact .inr ⟨g, cap, cur, hv, by omega, r⟩

theorem byt_oneCell (l : List UInt8) : ∀ u ∈ l.map byt, u.oneCell' = true := by
  intro u hu
  obtain ⟨b, _, rfl⟩ := List.mem_map.1 hu
  rfl

/-- What the append of bytes leaves: bytes of the call's own; nothing below base has changed. -/
theorem run_appendB {P : Program} (w : World) (base : Nat) (t ty e : TypeId) (ht : P.underlying t = some (.slice e)) (hinfo : (P.info? e).map (fun i => (i.zero, i.size, i.bytes)) = some (some (.int .u8 0), 1, 1))
    (A : Option Addr) (n c : Nat) (l : List UInt8) (hown : OB w base e A n c l) (B : Nat) (A' : Option Addr) (m c' : Nat) (l' : List UInt8) (hr : RB w B A' m c' l')
    (hsz : n + m ≤ 140737488355328) (hbase : base ≤ w.heap.size) :
    ∃ A2 c2 w', (Builtin.append_ #[t, t] ty #[.slice A n c, .slice A' m c']).run P w = .ok (.slice A2 (n + m) c2) w' ∧ OB w' base e A2 (n + m) c2 (l ++ l') ∧ Below base w w' := by
  obtain ⟨i, hi, hz, hs, hby⟩ := info_parts hinfo
  have hbel : ∀ {w' : World}, w.grownBy w' (Value.ownBlock (.slice A n c)) → Below base w w' := fun hg =>
    (Below.refl base w).grown hg hbase fun k hk => (hown.lt k hk).1
  rcases A' with _ | a
  · have hm : m = 0 := by
      rcases Nat.eq_zero_or_pos m with h0 | h0
      · exact h0
      · obtain ⟨_, _, h, _⟩ := hr.pos h0
        cases h
    subst hm
    have hl' : l' = [] := List.eq_nil_of_length_eq_zero hr.len.symm
    subst hl'
    refine ⟨A, c, w, ?_, by simpa using hown, Below.refl _ _⟩
    rcases hown.2 with ⟨h0, h1⟩ | ⟨g, cap, cur, h0, _, _, hnc, _⟩
    · injection h0 with e1 e2 e3
      subst e1; subst e2; subst e3
      simp [Builtin.append_, run_underlying ht, sizeOf, typeInfo, hi, Builtin.lenOf, Builtin.firstCells]
    · injection h0 with e1 e2 e3
      subst e1; subst e3
      simp [Builtin.append_, run_underlying ht, sizeOf, typeInfo, hi, Builtin.lenOf, Builtin.firstCells, hnc, storeCells]
  · obtain ⟨v', w', hrun, h2, h3, _, _⟩ := run_append_own_at (P := P) w base t ty e i (.int .u8 0) 1 1 ht hi hz hs hby rfl (by omega) _ n _ hown a m c' (l'.map byt)
      (by simp [hr.len]) (fun j u hj => by
        have hjl : j < l'.length := by have := (List.getElem?_eq_some_iff.1 hj).1; simpa using this
        obtain ⟨b, off, e1, _, hc⟩ := hr.pos (by have := hr.len; omega)
        injection e1 with e1
        subst e1
        have e2 : (⟨b, off, none⟩ : Addr).add j = ⟨b, off + j, none⟩ := by unfold Addr.add; split <;> simp_all
        rw [e2, hc j hjl]
        simp [hjl, byt] at hj
        rw [← hj]) (byt_oneCell l') (by unfold maxLen; omega) (by omega) hbase
    have hv : ∃ A2 c2, v' = .slice A2 (n + m) c2 := by
      rcases h2.2 with ⟨h0, h1⟩ | ⟨g, cap, cur, h0, _⟩
      · exact ⟨none, 0, by rw [h0, h1]⟩
      · exact ⟨_, _, h0⟩
    obtain ⟨A2, c2, rfl⟩ := hv
    exact ⟨A2, c2, w', hrun, by simpa [OB] using h2, hbel h3⟩

/-- The block that a slice lies in. -/
def own (A : Option Addr) : Option Nat := A.map (·.block)
theorem own_slice (A : Option Addr) (n c : Nat) : (Value.slice A n c).ownBlock = own A := by cases A <;> rfl

/-- What the append of bytes leaves, block by block: every other block is as it was; the bytes lie where they lay, or in a new block. -/
theorem run_appendS {P : Program} (w : World) (base : Nat) (t ty e : TypeId) (ht : P.underlying t = some (.slice e)) (hinfo : (P.info? e).map (fun i => (i.zero, i.size, i.bytes)) = some (some (.int .u8 0), 1, 1))
    (A : Option Addr) (n c : Nat) (l : List UInt8) (hown : OB w base e A n c l) (B : Nat) (A' : Option Addr) (m c' : Nat) (l' : List UInt8) (hr : RB w B A' m c' l')
    (hsz : n + m ≤ 140737488355328) (hbase : base ≤ w.heap.size) :
    ∃ A2 c2 w', (Builtin.append_ #[t, t] ty #[.slice A n c, .slice A' m c']).run P w = .ok (.slice A2 (n + m) c2) w' ∧ OB w' base e A2 (n + m) c2 (l ++ l') ∧ Below base w w' ∧
      (∀ k, k < w.heap.size → own A ≠ some k → w'.heap[k]? = w.heap[k]?) ∧ (own A2 = own A ∨ own A2 = some w.heap.size) := by
  obtain ⟨i, hi, hz, hs, hby⟩ := info_parts hinfo
  rcases A' with _ | a
  · have hm : m = 0 := by
      rcases Nat.eq_zero_or_pos m with h0 | h0
      · exact h0
      · obtain ⟨_, _, h, _⟩ := hr.pos h0
        cases h
    subst hm
    have hl' : l' = [] := List.eq_nil_of_length_eq_zero hr.len.symm
    subst hl'
    refine ⟨A, c, w, ?_, by simpa using hown, Below.refl _ _, fun _ _ _ => rfl, .inl rfl⟩
    rcases hown.2 with ⟨h0, h1⟩ | ⟨g, cap, cur, h0, _, _, hnc, _⟩
    · injection h0 with e1 e2 e3
      subst e1; subst e2; subst e3
      simp [Builtin.append_, run_underlying ht, sizeOf, typeInfo, hi, Builtin.lenOf, Builtin.firstCells]
    · injection h0 with e1 e2 e3
      subst e1; subst e3
      simp [Builtin.append_, run_underlying ht, sizeOf, typeInfo, hi, Builtin.lenOf, Builtin.firstCells, hnc, storeCells]
  · obtain ⟨v', w', hrun, h2, h3, _, h5⟩ := run_append_own_at (P := P) w base t ty e i (.int .u8 0) 1 1 ht hi hz hs hby rfl (by omega) _ n _ hown a m c' (l'.map byt)
      (by simp [hr.len]) (fun j u hj => by
        have hjl : j < l'.length := by have := (List.getElem?_eq_some_iff.1 hj).1; simpa using this
        obtain ⟨b, off, e1, _, hc⟩ := hr.pos (by have := hr.len; omega)
        injection e1 with e1
        subst e1
        have e2 : (⟨b, off, none⟩ : Addr).add j = ⟨b, off + j, none⟩ := by unfold Addr.add; split <;> simp_all
        rw [e2, hc j hjl]
        simp [hjl, byt] at hj
        rw [← hj]) (byt_oneCell l') (by unfold maxLen; omega) (by omega) hbase
    have hv : ∃ A2 c2, v' = .slice A2 (n + m) c2 := by
      rcases h2.2 with ⟨h0, h1⟩ | ⟨g, cap, cur, h0, _⟩
      · exact ⟨none, 0, by rw [h0, h1]⟩
      · exact ⟨_, _, h0⟩
    obtain ⟨A2, c2, rfl⟩ := hv
    rw [own_slice, own_slice] at h5
    exact ⟨A2, c2, w', hrun, by simpa [OB] using h2, (Below.refl base w).grown h3 hbase fun k hk => (hown.lt k hk).1, fun k hk hne => h3.block k hk (by rw [own_slice]; exact Ne.symm hne), h5⟩

theorem wp_appendS {P : Program} (w : World) {o : Oper} {a : Act} {K : Act → World → Prop} {Q : Exit → Act → World → Prop} (s x : Operand) (t : TypeId)
    (ho : o.op = .call { callee := .builtin .append, args := #[s, x], argTypes := #[t, t] })
    (base : Nat) (e : TypeId) (ht : P.underlying t = some (.slice e)) (hinfo : (P.info? e).map (fun i => (i.zero, i.size, i.bytes)) = some (some (.int .u8 0), 1, 1))
    (A : Option Addr) (n c : Nat) (l : List UInt8) (hs : a.eval s = .slice A n c) (hown : OB w base e A n c l)
    (B : Nat) (A' : Option Addr) (m c' : Nat) (l' : List UInt8) (hx : a.eval x = .slice A' m c') (hr : RB w B A' m c' l')
    (hsz : n + m ≤ 140737488355328) (hbase : base ≤ w.heap.size)
    (h : ∀ A2 c2 w', OB w' base e A2 (n + m) c2 (l ++ l') → Below base w w' → (∀ k, k < w.heap.size → own A ≠ some k → w'.heap[k]? = w.heap[k]?) → (own A2 = own A ∨ own A2 = some w.heap.size) →
      K (a.put o.dst (.slice A2 (n + m) c2)) w') : o.wp P a w K Q := by
  obtain ⟨A2, c2, w', hrun, h2, h3, h4, h5⟩ := run_appendS (P := P) w base t o.type e ht hinfo A n c l hown B A' m c' l' hr hsz hbase
  unfold Oper.wp execOp
  simp only [ho, resolve, invoke, builtin, Sem.run_bind, Sem.run_pure, Result.andThen_ok, List.map_toArray, List.map_cons, List.map_nil, hs, hx, hrun]
  exact h A2 c2 w' h2 h3 h4 h5

/-- The same as one operation. -/
theorem wp_appendB {P : Program} (w : World) {o : Oper} {a : Act} {K : Act → World → Prop} {Q : Exit → Act → World → Prop} (s x : Operand) (t : TypeId)
    (ho : o.op = .call { callee := .builtin .append, args := #[s, x], argTypes := #[t, t] })
    (base : Nat) (e : TypeId) (ht : P.underlying t = some (.slice e)) (hinfo : (P.info? e).map (fun i => (i.zero, i.size, i.bytes)) = some (some (.int .u8 0), 1, 1))
    (A : Option Addr) (n c : Nat) (l : List UInt8) (hs : a.eval s = .slice A n c) (hown : OB w base e A n c l)
    (B : Nat) (A' : Option Addr) (m c' : Nat) (l' : List UInt8) (hx : a.eval x = .slice A' m c') (hr : RB w B A' m c' l')
    (hsz : n + m ≤ 140737488355328) (hbase : base ≤ w.heap.size)
    (h : ∀ A2 c2 w', OB w' base e A2 (n + m) c2 (l ++ l') → Below base w w' → K (a.put o.dst (.slice A2 (n + m) c2)) w') : o.wp P a w K Q := by
  obtain ⟨A2, c2, w', hrun, h2, h3⟩ := run_appendB (P := P) w base t o.type e ht hinfo A n c l hown B A' m c' l' hr hsz hbase
  unfold Oper.wp execOp
  simp only [ho, resolve, invoke, builtin, Sem.run_bind, Sem.run_pure, Result.andThen_ok, List.map_toArray, List.map_cons, List.map_nil, hs, hx, hrun]
  exact h A2 c2 w' h2 h3

theorem wpList_appendB {P : Program} (w : World) {ops : Array Oper} {rest : List Oper} {o : Oper} {a : Act} {Q : Exit → Act → World → Prop} (hgd : o.guard = none) (s x : Operand) (t : TypeId)
    (ho : o.op = .call { callee := .builtin .append, args := #[s, x], argTypes := #[t, t] })
    (base : Nat) (e : TypeId) (ht : P.underlying t = some (.slice e)) (hinfo : (P.info? e).map (fun i => (i.zero, i.size, i.bytes)) = some (some (.int .u8 0), 1, 1))
    (A : Option Addr) (n c : Nat) (l : List UInt8) (hs : a.eval s = .slice A n c) (hown : OB w base e A n c l)
    (B : Nat) (A' : Option Addr) (m c' : Nat) (l' : List UInt8) (hx : a.eval x = .slice A' m c') (hr : RB w B A' m c' l')
    (hsz : n + m ≤ 140737488355328) (hbase : base ≤ w.heap.size)
    (h : ∀ A2 c2 w', OB w' base e A2 (n + m) c2 (l ++ l') → Below base w w' → wpList P ops Q rest (a.put o.dst (.slice A2 (n + m) c2)) w') : wpList P ops Q (o :: rest) a w := by
  refine wpList_plain hgd fun K hK => ?_
  obtain ⟨A2, c2, w', hrun, h2, h3⟩ := run_appendB (P := P) w base t o.type e ht hinfo A n c l hown B A' m c' l' hr hsz hbase
  unfold Oper.wp execOp
  simp only [ho, resolve, invoke, builtin, Sem.run_bind, Sem.run_pure, Result.andThen_ok, List.map_toArray, List.map_cons, List.map_nil, hs, hx, hrun]
  exact hK _ _ (h A2 c2 w' h2 h3)
end Go.Proofs.Ythebemikhjglbaa

namespace Go.Proofs.Ythebemikhjglbaa
open Go.RowKit

theorem Blk.below {w W : World} {g B : Nat} {t : TypeId} {cs : Array Value} (h : Blk w g t cs) (hb : Below B w W) (hg : g < B) : Blk W g t cs := by rw [Blk, hb.block g hg]; exact h

/-- The slice (A, n, c) reads as the rows l, of z cells each; its cells lie below block B. -/
structure ZS (w : World) (B z : Nat) (A : Option Addr) (n c : Nat) (l : List (Array Value)) : Prop where
  len : n = l.length
  cap : n ≤ c
  max : c ≤ maxLen
  size : ∀ r ∈ l, r.size = z
  pos : 0 < n → ∃ b off, A = some ⟨b, off, none⟩ ∧ b < B ∧ ∀ j (h : j < l.length) i v, l[j][i]? = some v → w.cell? ⟨b, off + j * z + i, none⟩ = some v

section
variable {w w' : World} {B z : Nat} {A : Option Addr} {n c : Nat} {l : List (Array Value)}
theorem ZS.keep (h : ZS w B z A n c l) (hk : ∀ p : Addr, p.block < B → w'.cell? p = w.cell? p) : ZS w' B z A n c l :=
  ⟨h.len, h.cap, h.max, h.size, fun hn => by
    obtain ⟨b, off, e, hb, hc⟩ := h.pos hn
    exact ⟨b, off, e, hb, fun j hj i v hv => (hk ⟨b, off + j * z + i, none⟩ hb).trans (hc j hj i v hv)⟩⟩
theorem ZS.belowAt {B0 : Nat} (h : ZS w B z A n c l) (hb : Below B0 w w') (hB : B ≤ B0) : ZS w' B z A n c l := h.keep fun _ hp => hb.cell (by omega)
theorem ZS.more {B' : Nat} (h : ZS w B z A n c l) (hB : B ≤ B') : ZS w B' z A n c l :=
  ⟨h.len, h.cap, h.max, h.size, fun hn => by
    obtain ⟨b, off, e, hb, hc⟩ := h.pos hn
    exact ⟨b, off, e, by omega, hc⟩⟩
theorem ZS.grow (h : ZS w w.heap.size z A n c l) (hg : Grow w w') : ZS w' w'.heap.size z A n c l := (h.belowAt hg (Nat.le_refl _)).more hg.size
theorem ZS.nil : ZS w B z none 0 0 [] := ⟨rfl, Nat.le_refl _, Nat.zero_le _, fun _ h => absurd h (by simp), fun h => absurd h (by omega)⟩
/-- A new slice of one. -/
theorem ZS.one {g : Nat} {t : TypeId} {r : Array Value} (h : Blk w g t r) (hB : g < B) : ZS w B r.size (some ⟨g, 0, none⟩) 1 1 [r] :=
  ⟨rfl, Nat.le_refl _, by unfold maxLen; omega, fun x hx => by simp at hx; rw [hx], fun _ => ⟨g, 0, rfl, hB, fun j hj i v hv => by
    obtain rfl : j = 0 := by simpa using hj
    rw [Nat.zero_add, Nat.zero_mul, Nat.zero_add, h.at]
    simpa using hv⟩⟩
/-- One of them, read whole. -/
theorem ZS.exec {P : Program} {b off j : Nat} (h : ZS w B z (some ⟨b, off, none⟩) n c l) (hj : j < l.length) {o : Oper} {ev : Operand → Value} (ty : TypeId) (x : Operand) (ho : o.op = .load ty x) (hx : ev x = .pointer (some ⟨b, off + j * z, none⟩))
    (d : TypeDesc) (hu : P.underlying ty = some d) (hd : (match d with | .struct _ | .array _ _ => true | _ => false) = true) (hi : (P.info? ty).map (·.size) = some z) :
    (execOp ev o).run P w = .ok (.value (.agg l[j])) w := by
  have hz : l[j].size = z := h.size _ (List.getElem_mem hj)
  obtain ⟨b', off', e, _, hc⟩ := h.pos (by have := h.len; omega)
  injection e with e
  injection e with e1 e2
  subst e1; subst e2
  have hl : (loadCells ⟨b, off + j * z, none⟩ l[j].toList.length).run P w = .ok l[j].toList.toArray w :=
    run_loadCells_list (P := P) w ⟨b, off + j * z, none⟩ l[j].toList (fun i v hv => by
      have hadd : (⟨b, off + j * z, none⟩ : Addr).add i = ⟨b, off + j * z + i, none⟩ := by unfold Addr.add; split <;> simp_all
      rw [hadd]
      exact hc j hj i v (by simpa using hv))
  have hv : (loadVar ty ⟨b, off + j * z, none⟩).run P w = .ok (.agg l[j]) w := by
    cases hq : P.info? ty with
    | none => simp [hq] at hi
    | some i =>
      have hs : i.size = l[j].size := by rw [hz]; simpa [hq] using hi
      have hagg : (isAgg ty).run P w = .ok true w := by
        unfold isAgg
        rw [Sem.run_bind, run_underlying hu w]
        cases d <;> simp_all
      rw [Array.toArray_toList] at hl
      rw [Array.length_toList] at hl
      simp [loadVar, hagg, sizeOf, typeInfo, hq, hs, hl]
  unfold execOp
  simp only [ho, hx, Instr.loadAt, Instr.sureAddr, Sem.run_bind, Sem.run_pure, Result.andThen_ok, hv]
theorem wpList_load_zs {P : Program} {ops : Array Oper} {rest : List Oper} {o : Oper} {a : Act} {Q : Exit → Act → World → Prop} {b off j : Nat} (h : ZS w B z (some ⟨b, off, none⟩) n c l) (hj : j < l.length) (hgd : o.guard = none) (ty : TypeId) (x : Operand) (ho : o.op = .load ty x)
    (hx : a.eval x = .pointer (some ⟨b, off + j * z, none⟩)) (d : TypeDesc) (hu : P.underlying ty = some d) (hd : (match d with | .struct _ | .array _ _ => true | _ => false) = true) (hi : (P.info? ty).map (·.size) = some z)
    (r : Array Value) (hr : l[j] = r) (hn : wpList P ops Q rest (a.put o.dst (.agg r)) w) : wpList P ops Q (o :: rest) a w := by
  refine wpList_plain hgd fun K hK => ?_
  have := h.exec hj (ev := a.eval) ty x ho hx d hu hd hi
  unfold Oper.wp
  rw [this, hr]
  exact hK _ _ hn
end

theorem flat_at {z : Nat} : ∀ (l : List (Array Value)), (∀ r ∈ l, r.size = z) → ∀ (j : Nat) (h : j < l.length) (i : Nat), i < z → (l.flatMap Array.toList)[j * z + i]? = l[j][i]?
  | [], _, _, h, _, _ => absurd h (by simp)
  | r :: l, hs, 0, _, i, hi => by
    have hr := hs r (by simp)
    simp only [List.flatMap_cons, Nat.zero_mul, Nat.zero_add, List.getElem_cons_zero]
    rw [List.getElem?_append_left (by simpa [hr] using hi)]
    simp
  | r :: l, hs, j + 1, h, i, hi => by
    have hr := hs r (by simp)
    have ih := flat_at l (fun x hx => hs x (by simp [hx])) j (by simpa using h) i hi
    simp only [List.flatMap_cons, List.getElem_cons_succ]
    rw [List.getElem?_append_right (by simp [hr, Nat.succ_mul]; omega), ← ih]
    congr 1
    simp [hr, Nat.succ_mul]; omega

/-- The slice is the call's own, and holds the rows l, of z cells each. -/
def ZO (w : World) (base : Nat) (e : TypeId) (z : Nat) (A : Option Addr) (n c : Nat) (l : List (Array Value)) : Prop :=
  w.ownsRow base e z (.slice A n c) n (l.flatMap Array.toList) ∧ n = l.length ∧ ∀ r ∈ l, r.size = z
section
variable {w w' : World} {base : Nat} {e : TypeId} {z : Nat} {A : Option Addr} {n c : Nat} {l : List (Array Value)}
theorem ZO.nil : ZO w base e z none 0 0 [] := ⟨World.ownsRow_nil _ _ _ _, rfl, fun _ h => absurd h (by simp)⟩
theorem ZO.keep (h : ZO w base e z A n c l) (hb : Below w.heap.size w w') : ZO w' base e z A n c l := by
  refine ⟨⟨h.1.1, ?_⟩, h.2⟩
  rcases h.1.2 with h0 | ⟨g, cap, cur, hv, hg, hh, r⟩
  · exact .inl h0
  · refine .inr ⟨g, cap, cur, hv, hg, ?_, r⟩
    rw [hb.block g ?_]
    · exact hh
    · rcases Nat.lt_or_ge g w.heap.size with h1 | h1
      · exact h1
      · rw [Array.getElem?_eq_none h1] at hh; cases hh
theorem ZO.drew (h : ZO w base e z A n c l) : ZO w.drew base e z A n c l := h
theorem ZO.zs (h : ZO w base e z A n c l) : ZS w w.heap.size z A n c l := by
  rcases h.1.2 with ⟨e0, h0⟩ | ⟨g, cap, cur, hv, _, hh, hnc, hcm, hsz, htk⟩
  · injection e0 with e1 e2 e3
    subst e1; subst e3
    exact ⟨h.2.1, by omega, Nat.zero_le _, h.2.2, fun hp => by omega⟩
  · injection hv with hA _ hc
    subst hA; subst hc
    refine ⟨h.2.1, hnc, hcm, h.2.2, fun _ => ⟨g, 0, rfl, ?_, fun j hj i v hv => ?_⟩⟩
    · rcases Nat.lt_or_ge g w.heap.size with h1 | h1
      · exact h1
      · rw [Array.getElem?_eq_none h1] at hh; cases hh
    · have hiz : i < z := by
        have h1 := h.2.2 _ (List.getElem_mem hj)
        have h2 := (Array.getElem?_eq_some_iff.1 hv).1
        omega
      rw [cell_of_row w g (0 + j * z + i) cur e (0, 0) hh, Nat.zero_add]
      have e1 := flat_at l h.2.2 j hj i hiz
      rw [hv, ← htk] at e1
      have hlt : j * z + i < n * z := by
        have : j + 1 ≤ n := by rw [h.2.1]; exact hj
        have := Nat.mul_le_mul_right z this
        rw [Nat.succ_mul] at this
        omega
      rw [List.getElem?_take_of_lt hlt] at e1
      simpa using e1
theorem ZO.ge (h : ZO w base e z A n c l) {g : Nat} (hg : own A = some g) : base ≤ g := by
  rcases h.1.2 with ⟨hv, _⟩ | ⟨g', cap, cur, hv, hb, _⟩
  · injection hv with e1 _ _
    subst e1
    cases hg
  · injection hv with e1 _ _
    subst e1
    have e3 : g' = g := Option.some.inj hg
    omega
theorem ZO.mono {base' : Nat} (h : ZO w base e z A n c l) (hb : base' ≤ base) : ZO w base' e z A n c l := by
  refine ⟨⟨h.1.1, ?_⟩, h.2⟩
  rcases h.1.2 with h0 | ⟨g, cap, cur, hv, hg, r⟩
  · exact .inl h0
  · exact .inr ⟨g, cap, cur, hv, by omega, r⟩
/-- New memory of no rows yet. -/
theorem ZO.room (w : World) (base : Nat) (t : TypeId) (c z : Nat) (cs : Array Value) (h : c ≤ maxLen) (hb : base ≤ w.heap.size) (hs : cs.size = c * z) : ZO (w.alloc (.cells cs t)) base t z (some ⟨w.heap.size, 0, none⟩) 0 c [] :=
  ⟨⟨by simp, .inr ⟨w.heap.size, c, cs, rfl, hb, heap_alloc_new w _, Nat.zero_le _, h, hs, by simp⟩⟩, rfl, fun _ h => absurd h (by simp)⟩
end

theorem run_appendZ {P : Program} (w : World) (base : Nat) (t ty e : TypeId) (zv : Value) (z bytes : Nat) (ht : P.underlying t = some (.slice e))
    (hinfo : (P.info? e).map (fun i => (i.zero, i.size, i.bytes)) = some (some zv, z, bytes)) (hzs : zv.cells.size = z) (hz0 : 0 < z)
    (A : Option Addr) (n c : Nat) (l : List (Array Value)) (hown : ZO w base e z A n c l) (g : Nat) (t' : TypeId) (r : Array Value) (hr : Blk w g t' r) (hrz : r.size = z) (h1 : r.all (·.oneCell') = true)
    (h63 : n + 1 ≤ maxLen) (hsz : (n + 1) * bytes ≤ 140737488355328) (hbase : base ≤ w.heap.size) :
    ∃ A2 c2 w', (Builtin.append_ #[t, t] ty #[.slice A n c, .slice (some ⟨g, 0, none⟩) 1 1]).run P w = .ok (.slice A2 (n + 1) c2) w' ∧ ZO w' base e z A2 (n + 1) c2 (l ++ [r]) ∧ w.grownBy w' (own A) ∧ (own A2 = own A ∨ own A2 = some w.heap.size) := by
  obtain ⟨i, hi, hz, hs, hby⟩ := info_parts hinfo
  obtain ⟨v', w', hrun, h2, h3, _, h5⟩ := run_append_own_at (P := P) w base t ty e i zv z bytes ht hi hz hs hby hzs hz0 _ n _ hown.1 ⟨g, 0, none⟩ 1 1 r.toList
    (by simp [hrz]) (fun j u hj => by
      have e2 : (⟨g, 0, none⟩ : Addr).add j = ⟨g, j, none⟩ := by unfold Addr.add; split <;> simp_all
      rw [e2, hr.at]
      simpa using hj) (by intro u hu; exact (Array.all_eq_true_iff_forall_mem.1 h1) u (by simpa using hu)) h63 hsz hbase
  have hv : ∃ A2 c2, v' = .slice A2 (n + 1) c2 := by
    rcases h2.2 with ⟨h0, h1⟩ | ⟨g, cap, cur, h0, _⟩
    · omega
    · exact ⟨_, _, h0⟩
  obtain ⟨A2, c2, rfl⟩ := hv
  rw [own_slice, own_slice] at h5
  rw [own_slice] at h3
  refine ⟨A2, c2, w', hrun, ⟨?_, by simp [hown.2.1], fun x hx => ?_⟩, h3, h5⟩
  · rw [List.flatMap_append]
    simpa using h2
  · rcases List.mem_append.1 hx with h | h
    · exact hown.2.2 x h
    · obtain rfl : x = r := by simpa using h
      exact hrz

theorem wp_appendZ {P : Program} (w : World) {o : Oper} {a : Act} {K : Act → World → Prop} {Q : Exit → Act → World → Prop} (s x : Operand) (t : TypeId)
    (ho : o.op = .call { callee := .builtin .append, args := #[s, x], argTypes := #[t, t] })
    (base : Nat) (e : TypeId) (zv : Value) (z bytes : Nat) (ht : P.underlying t = some (.slice e)) (hinfo : (P.info? e).map (fun i => (i.zero, i.size, i.bytes)) = some (some zv, z, bytes)) (hzs : zv.cells.size = z) (hz0 : 0 < z)
    (A : Option Addr) (n c : Nat) (l : List (Array Value)) (hs : a.eval s = .slice A n c) (hown : ZO w base e z A n c l)
    (g : Nat) (t' : TypeId) (r : Array Value) (hx : a.eval x = .slice (some ⟨g, 0, none⟩) 1 1) (hr : Blk w g t' r) (hrz : r.size = z) (h1 : r.all (·.oneCell') = true)
    (h63 : n + 1 ≤ maxLen) (hsz : (n + 1) * bytes ≤ 140737488355328) (hbase : base ≤ w.heap.size)
    (h : ∀ A2 c2 w', ZO w' base e z A2 (n + 1) c2 (l ++ [r]) → w.grownBy w' (own A) → (own A2 = own A ∨ own A2 = some w.heap.size) → K (a.put o.dst (.slice A2 (n + 1) c2)) w') : o.wp P a w K Q := by
  obtain ⟨A2, c2, w', hrun, h2, h3, h4⟩ := run_appendZ (P := P) w base t o.type e zv z bytes ht hinfo hzs hz0 A n c l hown g t' r hr hrz h1 h63 hsz hbase
  unfold Oper.wp execOp
  simp only [ho, resolve, invoke, builtin, Sem.run_bind, Sem.run_pure, Result.andThen_ok, List.map_toArray, List.map_cons, List.map_nil, hs, hx, hrun]
  exact h A2 c2 w' h2 h3 h4
end Go.Proofs.Ythebemikhjglbaa

namespace Go.Proofs.Ythebemikhjglbaa
open Go.RowKit

theorem ret_int {k : IntKind} {a b : Int} (h : a = b) : Ending.returned (.int k a) = .returned (.int k b) := by rw [h]
theorem ret_bool {a b : Bool} (h : a = b) : Ending.returned (.bool a) = .returned (.bool b) := by rw [h]

end Go.Proofs.Ythebemikhjglbaa

namespace Go.Proofs.Ythebemikhjglbaa
open Go.RowKit

/-- The greatest number of a stretch that has one. -/
def lastN (a n : Nat) : Nat := min (a + n - 1) 18446744073709551615
/-- Whether a stretch may stand ahead of one from v on. -/
def belowN (a n v : Nat) : Bool := if n = 0 then decide (a ≤ v) else decide (lastN a n < v)

theorem last_any (a n : Nat) (w : World) (ha : a < 18446744073709551616) (hn : n < 18446744073709551616) (h0 : 0 < n) :
    Calls Try.prog 64 #[.agg #[.int .u64 a, .int .u64 n]] w fun e w' => e = .returned (.int .u64 (lastN a n : Nat)) ∧ Grow w w' := by
  have z1 : IntKind.u64.wrap ((n : Int) - 1) = (n : Int) - 1 := by rw [IntKind.wrap_u64]; omega
  have z2 : IntKind.u64.wrap (18446744073709551615 - (a : Int)) = 18446744073709551615 - (a : Int) := by rw [IntKind.wrap_u64]; omega
  by_cases h : (n : Int) - 1 ≤ 18446744073709551615 - (a : Int)
  · have E := Lib.hid (show (lastN a n : Int) = (a : Int) + (n - 1) by unfold lastN; omega)
    go_enter Try.func64, Try.ntmps64
    go_wp2
    go_ret
    exact ⟨ret_int E.out.symm, Grow.of_alloc _ _⟩
  · have E := Lib.hid (show (lastN a n : Int) = (a : Int) + (18446744073709551615 - (a : Int)) by unfold lastN; omega)
    go_enter Try.func64, Try.ntmps64
    go_wp2
    go_ret
    exact ⟨ret_int E.out.symm, Grow.of_alloc _ _⟩

theorem below_any (a n v : Nat) (w : World) (ha : a < 18446744073709551616) (hn : n < 18446744073709551616) :
    Calls Try.prog 55 #[.agg #[.int .u64 a, .int .u64 n], .int .u64 v] w fun e w' => e = .returned (.bool (belowN a n v)) ∧ Grow w w' := by
  by_cases n0 : n = 0
  · subst n0
    have E := Lib.hid (show belowN a 0 v = decide (a ≤ v) by simp [belowN])
    go_enter Try.func55, Try.ntmps55
    go_wp2
    go_ret
    exact ⟨ret_bool (by simp [E.out]), Grow.of_alloc _ _⟩
  · have E := Lib.hid (show belowN a n v = decide (lastN a n < v) by simp [belowN, n0])
    have d1 : ((n : Int) == 0) = false := by simp [n0]
    have hn0 := Lib.hid (Nat.pos_of_ne_zero n0)
    clear n0
    go_enter Try.func55, Try.ntmps55
    go_wp2_with (go_at_call 64; refine (last_any _ _ _ ha hn hn0.out).mono ?_; rintro e w' ⟨rfl, hb⟩; have HB := Lib.hid hb; clear hb)
    go_ret
    exact ⟨ret_bool (by simp [E.out]), (Grow.of_alloc _ _).trans HB.out⟩

/-- The cells of a stretch. -/
def spC (x : Nat × Nat) : Array Value := #[.int .u64 (x.1 : Nat), .int .u64 (x.2 : Nat)]
def belowAt (l : List (Nat × Nat)) (i k : Nat) : Bool := belowN (l.getD i (0, 0)).1 (l.getD i (0, 0)).2 (l.getD k (0, 0)).1
/-- Whether stretches rise. -/
def Up (l : List (Nat × Nat)) : Prop := ∀ k, 0 < k → k < l.length → belowAt l (k - 1) k = true
def rises (l : List (Nat × Nat)) : Bool := (List.range l.length).all fun k => decide (k = 0) || belowAt l (k - 1) k
theorem rises_iff (l : List (Nat × Nat)) : rises l = true ↔ Up l := by
  unfold rises Up
  rw [List.all_eq_true]
  constructor
  · intro h k h0 hk
    have := h k (by simpa using hk)
    rw [Bool.or_eq_true, decide_eq_true_iff] at this
    rcases this with h | h
    · omega
    · exact h
  · intro h k hk
    rw [Bool.or_eq_true, decide_eq_true_iff]
    rcases Nat.eq_zero_or_pos k with h0 | h0
    · exact .inl h0
    · exact .inr (h k h0 (by simpa using hk))

theorem up_no {l : List (Nat × Nat)} {k : Nat} (h0 : 0 < k) (hk : k < l.length) (h : belowAt l (k - 1) k = false) : rises l = false := by
  cases hr : rises l
  · rfl
  · have := (rises_iff l).1 hr k h0 hk
    rw [h] at this
    cases this
theorem up_step {l : List (Nat × Nat)} {k : Nat} (hu : ∀ j, 0 < j → j < k → belowAt l (j - 1) j = true) (h : belowAt l (k - 1) k = true) : ∀ j, 0 < j → j < k + 1 → belowAt l (j - 1) j = true := fun j h1 h2 => by
  rcases Nat.lt_or_ge j k with h3 | h3
  · exact hu j h1 h3
  · obtain rfl : j = k := by omega
    exact h

set_option maxHeartbeats 800000 in
theorem rising_any (A : Option Addr) (n c : Nat) (l : List (Nat × Nat)) (w : World) (h : ZS w w.heap.size 2 A n c (l.map spC)) (hs : ∀ x ∈ l, x.1 < 18446744073709551616 ∧ x.2 < 18446744073709551616) :
    Calls Try.prog 40 #[.slice A n c] w fun e w' => e = .returned (.bool (rises l)) ∧ Grow w w' := by
  have hc := h.cap
  have hm := h.max
  have hlen : n = l.length := by have := h.len; simpa using this
  have HL := Lib.hid hlen
  unfold maxLen at hm
  by_cases hn : n ≤ 1
  · have HU := Lib.hid (show rises l = true from (rises_iff l).2 (by intro k h1 h2; rw [← hlen] at h2; omega))
    clear h hlen
    go_enter Try.func40, Try.ntmps40
    go_wp2
    go_loop [3] (fun i => i = .int .i64 1) (fun _ => 0)
    case atStart => rfl
    case round =>
      obtain rfl := hrel
      go_wp2
      go_ret
      exact ⟨ret_bool HU.out.symm, Grow.refl _⟩
  · obtain ⟨b, off, rfl, hb, hcell⟩ := h.pos (by omega)
    have hat : ∀ j (_ : j < l.length), w.cell? ⟨b, off + j * 2, none⟩ = some (.int .u64 ((l.getD j (0, 0)).1 : Nat)) ∧ w.cell? ⟨b, off + j * 2 + 1, none⟩ = some (.int .u64 ((l.getD j (0, 0)).2 : Nat)) := by
      intro j hj
      have e : l.getD j (0, 0) = l[j] := by simp [List.getD_eq_getElem?_getD, hj]
      rw [e]
      exact ⟨hcell j (by simpa using hj) 0 _ (by simp [spC]), hcell j (by simpa using hj) 1 _ (by simp [spC])⟩
    have hsm : ∀ j (_ : j < l.length), (l.getD j (0, 0)).1 < 18446744073709551616 ∧ (l.getD j (0, 0)).2 < 18446744073709551616 := by
      intro j hj
      have e : l.getD j (0, 0) = l[j] := by simp [List.getD_eq_getElem?_getD, hj]
      rw [e]
      exact hs _ (List.getElem_mem hj)
    have HC := Lib.hid hat
    have HS := Lib.hid hsm
    have HB := Lib.hid (show b < w.heap.size by omega)
    clear h hcell hb hat hsm hs hlen
    go_enter Try.func40, Try.ntmps40
    go_wp2
    go_loopw [3] (fun i wr => ∃ k : Nat, 0 < k ∧ k ≤ n ∧ i = .int .i64 k ∧ (∀ j, 0 < j → j < k → belowAt l (j - 1) j = true) ∧ Grow w wr) (fun i _ => n - (intOf i).toNat)
    case atStart => exact ⟨1, by omega, by omega, rfl, fun j h1 h2 => by omega, Grow.refl _⟩
    case round =>
      obtain ⟨k, h0, hk, rfl, hup, hg⟩ := hrel
      have HG := Lib.hid hg
      have HU := Lib.hid hup
      clear hg hup
      by_cases hlt : k < n
      · obtain ⟨x, hx⟩ : ∃ x, x = l.getD (k - 1) (0, 0) := ⟨_, rfl⟩
        obtain ⟨y, hy⟩ : ∃ y, y = l.getD k (0, 0) := ⟨_, rfl⟩
        have hkl : k < l.length := by rw [← HL.out]; exact hlt
        have c0 : ∀ W, Grow wr.drew W → W.cell? ⟨b, off + (k - 1) * 2, none⟩ = some (.int .u64 (x.1 : Nat)) := fun W hW => by rw [Below.cell (HG.out.trans ((Grow.of_drew _).trans hW)) HB.out, hx]; exact (HC.out (k - 1) (by omega)).1
        have c1 : ∀ W, Grow wr.drew W → W.cell? ⟨b, off + (k - 1) * 2 + 1, none⟩ = some (.int .u64 (x.2 : Nat)) := fun W hW => by rw [Below.cell (HG.out.trans ((Grow.of_drew _).trans hW)) HB.out, hx]; exact (HC.out (k - 1) (by omega)).2
        have c2 : ∀ W, Grow wr.drew W → W.cell? ⟨b, off + k * 2, none⟩ = some (.int .u64 (y.1 : Nat)) := fun W hW => by rw [Below.cell (HG.out.trans ((Grow.of_drew _).trans hW)) HB.out, hy]; exact (HC.out k (by omega)).1
        have HE := Lib.hid (show belowAt l (k - 1) k = belowN x.1 x.2 y.1 by rw [hx, hy]; rfl)
        have sx := HS.out (k - 1) (by omega)
        rw [← hx] at sx
        clear hx hy
        go_wp2_with fail
        refine wp_region_chain [(0, true), (1, true), (2, true), (3, true), (4, true), (5, true), (6, true), (7, true), (8, true), (9, true), (10, false), (11, true)] (by kernel_rfl) (by kernel_rfl) (by kernel_rfl) ?_
        have HD : Hid (Grow w wr.drew) := HG.out.trans (Grow.of_drew _)
        generalize wr.drew = w1 at HD c0 c1 c2 ⊢
        have z1 : IntKind.i64.wrap ((k : Int) - 1) = (k : Int) - 1 := IntWalk.i64_in _ (by omega)
        have z2 : (1 : Int) ≤ (k : Int) := by omega
        have z3 : ((k : Int) - 1).toNat = k - 1 := by omega
        have z4 : (k : Int) - 1 < (n : Int) := by omega
        repeat (first | (refine chain_take rfl (by rfl) ?_ (fun W hG => ?_) ?_; rotate_left; (go_simp; rfl); simp only [Act.put, List.setIfInBounds_toArray, List.set_cons_zero, List.set_cons_succ]) | (refine chain_skip rfl (by rfl) ?_; simp only [Act.put, List.setIfInBounds_toArray, List.set_cons_zero, List.set_cons_succ]))
        refine chain_only rfl (by rfl) (fun K hK => ?_)
        go_simp
        refine (below_any _ _ _ _ sx.1 sx.2).mono ?_
        rintro e w2 ⟨rfl, hb⟩
        refine hK _ _ hb ?_
        have HF : Hid (Grow w w2) := HD.out.trans hb
        clear hK K hb z1 z2 z3 z4 c0 c1 c2 sx
        cases hr : belowN x.1 x.2 y.1
        · rw [hr] at HE
          clear hr
          repeat (first | (refine chain_take rfl (by rfl) ?_ (fun W hG => ?_) ?_; rotate_left; (go_simp; rfl); simp only [Act.put, List.setIfInBounds_toArray, List.set_cons_zero, List.set_cons_succ]) | (refine chain_skip rfl (by rfl) ?_; simp only [Act.put, List.setIfInBounds_toArray, List.set_cons_zero, List.set_cons_succ]))
          refine chain_done ?_
          go_wp2
          go_ret
          exact ⟨ret_bool (up_no h0 hkl HE.out).symm, HF.out⟩
        · rw [hr] at HE
          clear hr
          repeat (first | (refine chain_take rfl (by rfl) ?_ (fun W hG => ?_) ?_; rotate_left; (go_simp; rfl); simp only [Act.put, List.setIfInBounds_toArray, List.set_cons_zero, List.set_cons_succ]) | (refine chain_skip rfl (by rfl) ?_; simp only [Act.put, List.setIfInBounds_toArray, List.set_cons_zero, List.set_cons_succ]))
          refine chain_done ?_
          go_wp2
          go_roundw
          case rel => exact ⟨k + 1, by omega, by omega, by go_num, up_step HU.out HE.out, HF.out⟩
          case measure => simp [intOf]; omega
      · have HU2 := Lib.hid (show rises l = true from (rises_iff l).2 fun j h1 h2 => HU.out j h1 (by have := HL.out; omega))
        go_wp2
        go_ret
        exact ⟨ret_bool HU2.out.symm, HG.out⟩
end Go.Proofs.Ythebemikhjglbaa

namespace Go.Proofs.Ythebemikhjglbaa

/-- How many ones the first f bits have. -/
def onesF : Nat → Nat → Nat
  | 0, _ => 0
  | f + 1, x => x % 2 + onesF f (x / 2)
/-- How many ones a number has (of 64 bits). -/
def ones (x : Nat) : Nat := onesF 64 x

theorem and_split (k a m s : Nat) (hs : s < 2 ^ k) : a &&& (2 ^ k * m + s) = 2 ^ k * ((a / 2 ^ k) &&& m) + ((a % 2 ^ k) &&& s) := by
  have h1 : (a % 2 ^ k) &&& s < 2 ^ k := Nat.and_lt_two_pow _ hs
  have h2 : a % 2 ^ k < 2 ^ k := Nat.mod_lt _ (Nat.two_pow_pos k)
  apply Nat.eq_of_testBit_eq
  intro i
  rw [Nat.testBit_and, Nat.testBit_two_pow_mul_add _ hs, Nat.testBit_two_pow_mul_add _ h1]
  by_cases h : i < k
  · rw [if_pos h, if_pos h, Nat.testBit_and, Nat.testBit_mod_two_pow]
    simp [h]
  · rw [if_neg h, if_neg h, Nat.testBit_and, Nat.testBit_div_two_pow]
    have : i - k + k = i := by omega
    rw [this]

/-- A mask of n bytes m. -/
def mask (m : Nat) : Nat → Nat
  | 0 => 0
  | n + 1 => 256 * mask m n + m
/-- Each byte of n bytes, by f. -/
def bytesF (f : Nat → Nat) : Nat → Nat → Nat
  | 0, _ => 0
  | n + 1, x => 256 * bytesF f n (x / 256) + f (x % 256)

def s1 (r : Nat) : Nat := ((r / 2) &&& 85) + (r &&& 85)
def s2 (r : Nat) : Nat := ((r / 4) &&& 51) + (r &&& 51)
def s3 (r : Nat) : Nat := (r / 16 + r) &&& 15
theorem s1_lt : ∀ r : Fin 256, s1 r.val ≤ 170 := by decide +kernel
theorem s2_le : ∀ r : Fin 256, s2 (s1 r.val) % 16 ≤ 4 ∧ s2 (s1 r.val) / 16 ≤ 4 := by decide +kernel
theorem s3_eq : ∀ r : Fin 256, s2 (s1 r.val) % 16 + s2 (s1 r.val) / 16 = onesF 8 r.val := by decide +kernel
theorem s1_and (x : Nat) : ((x / 2) % 256) &&& 85 = ((x % 256) / 2) &&& 85 := by
  have h : ∀ r : Fin 512, ((r.val / 2) % 256) &&& 85 = ((r.val % 256) / 2) &&& 85 := by decide +kernel
  have := h ⟨x % 512, Nat.mod_lt _ (by decide)⟩
  simp only at this
  have e1 : x % 512 / 2 % 256 = x / 2 % 256 := by omega
  have e2 : x % 512 % 256 = x % 256 := by omega
  rw [e1, e2] at this
  exact this
theorem s2_and (x : Nat) : ((x / 4) % 256) &&& 51 = ((x % 256) / 4) &&& 51 := by
  have h : ∀ r : Fin 1024, ((r.val / 4) % 256) &&& 51 = ((r.val % 256) / 4) &&& 51 := by decide +kernel
  have := h ⟨x % 1024, Nat.mod_lt _ (by decide)⟩
  simp only at this
  have e1 : x % 1024 / 4 % 256 = x / 4 % 256 := by omega
  have e2 : x % 1024 % 256 = x % 256 := by omega
  rw [e1, e2] at this
  exact this

theorem step1 : ∀ n x, ((x / 2) &&& mask 85 n) + (x &&& mask 85 n) = bytesF s1 n x
  | 0, x => by simp [mask, bytesF]
  | n + 1, x => by
    have ih := step1 n (x / 256)
    have a1 := and_split 8 (x / 2) (mask 85 n) 85 (by decide)
    have a2 := and_split 8 x (mask 85 n) 85 (by decide)
    have e : x / 2 / 2 ^ 8 = x / 256 / 2 := by omega
    rw [e] at a1
    have e2 := s1_and x
    rw [show (2 : Nat) ^ 8 = 256 from rfl] at a1 a2
    rw [mask, bytesF, a1, a2, ← ih, s1, e2]
    omega
theorem step2 : ∀ n x, ((x / 4) &&& mask 51 n) + (x &&& mask 51 n) = bytesF s2 n x
  | 0, x => by simp [mask, bytesF]
  | n + 1, x => by
    have ih := step2 n (x / 256)
    have a1 := and_split 8 (x / 4) (mask 51 n) 51 (by decide)
    have a2 := and_split 8 x (mask 51 n) 51 (by decide)
    have e : x / 4 / 2 ^ 8 = x / 256 / 4 := by omega
    rw [e] at a1
    have e2 := s2_and x
    rw [show (2 : Nat) ^ 8 = 256 from rfl] at a1 a2
    rw [mask, bytesF, a1, a2, ← ih, s2, e2]
    omega
/-- Bytes of bytes. -/
theorem bytesF_div (f : Nat → Nat) (hf : ∀ r, r < 256 → f r < 256) (n x : Nat) : bytesF f (n + 1) x / 256 = bytesF f n (x / 256) ∧ bytesF f (n + 1) x % 256 = f (x % 256) := by
  have := hf (x % 256) (Nat.mod_lt _ (by decide))
  rw [bytesF]
  omega
theorem bytesF_comp (f g : Nat → Nat) (hf : ∀ r, r < 256 → f r < 256) : ∀ n x, bytesF g n (bytesF f n x) = bytesF (fun r => g (f r)) n x
  | 0, x => rfl
  | n + 1, x => by
    obtain ⟨h1, h2⟩ := bytesF_div f hf n x
    have ih := bytesF_comp f g hf n (x / 256)
    show 256 * bytesF g n (bytesF f (n + 1) x / 256) + g (bytesF f (n + 1) x % 256) = 256 * bytesF (fun r => g (f r)) n (x / 256) + g (f (x % 256))
    rw [h1, h2, ih]
def s21 (r : Nat) : Nat := s2 (s1 r)
theorem s1_lt' (r : Nat) (h : r < 256) : s1 r < 256 := by have := s1_lt ⟨r, h⟩; simp only at this; omega
theorem s21_le (r : Nat) (h : r < 256) : s21 r % 16 ≤ 4 ∧ s21 r / 16 ≤ 4 := s2_le ⟨r, h⟩
theorem s21_lt (r : Nat) (h : r < 256) : s21 r < 256 := by have := s21_le r h; omega
theorem s21_eq (r : Nat) (h : r < 256) : s21 r % 16 + s21 r / 16 = onesF 8 r := s3_eq ⟨r, h⟩
theorem fifteen (y : Nat) : y &&& 15 = y % 16 := Nat.and_two_pow_sub_one_eq_mod y 4
/-- The third step: no byte goes over. -/
theorem step3 : ∀ n x, (bytesF s21 n x / 16 + bytesF s21 n x) &&& mask 15 n = bytesF (fun r => onesF 8 r) n x
  | 0, x => by simp [mask, bytesF]
  | n + 1, x => by
    have ih := step3 n (x / 256)
    have hr : x % 256 < 256 := Nat.mod_lt _ (by decide)
    have hr2 : x / 256 % 256 < 256 := Nat.mod_lt _ (by decide)
    obtain ⟨l1, l2⟩ := s21_le _ hr
    have e1 := s21_eq _ hr
    obtain ⟨l3, -⟩ := s21_le _ hr2
    have hy : bytesF s21 n (x / 256) % 16 ≤ 4 := by
      cases n with
      | zero => simp [bytesF]
      | succ m => rw [bytesF]; omega
    have a1 := and_split 8 (bytesF s21 (n + 1) x / 16 + bytesF s21 (n + 1) x) (mask 15 n) 15 (by decide)
    rw [show (2 : Nat) ^ 8 = 256 from rfl] at a1
    have b1 : bytesF s21 (n + 1) x = 256 * bytesF s21 n (x / 256) + s21 (x % 256) := rfl
    have b2 : bytesF (fun r => onesF 8 r) (n + 1) x = 256 * bytesF (fun r => onesF 8 r) n (x / 256) + onesF 8 (x % 256) := rfl
    rw [mask, b2, a1]
    have e2 : (bytesF s21 (n + 1) x / 16 + bytesF s21 (n + 1) x) / 256 = bytesF s21 n (x / 256) / 16 + bytesF s21 n (x / 256) := by omega
    rw [e2, ih, fifteen]
    congr 1
    omega
theorem onesF_le : ∀ f x, onesF f x ≤ f
  | 0, _ => Nat.le_refl _
  | f + 1, x => by have := onesF_le f (x / 2); rw [onesF]; omega
theorem onesF_add : ∀ f g x, onesF (f + g) x = onesF f x + onesF g (x / 2 ^ f)
  | 0, g, x => by simp [onesF]
  | f + 1, g, x => by
    have := onesF_add f g (x / 2)
    rw [show f + 1 + g = f + g + 1 by omega, onesF, this, onesF, Nat.div_div_eq_div_mul, Nat.pow_succ, Nat.mul_comm 2 (2 ^ f)]
    omega
theorem onesF_mod : ∀ f x, onesF f (x % 2 ^ f) = onesF f x
  | 0, _ => rfl
  | f + 1, x => by
    have ih := onesF_mod f (x / 2)
    have e1 : x % 2 ^ (f + 1) % 2 = x % 2 := Nat.mod_mod_of_dvd _ ⟨2 ^ f, by rw [Nat.pow_succ, Nat.mul_comm]⟩
    have e2 : x % 2 ^ (f + 1) / 2 = x / 2 % 2 ^ f := by rw [Nat.pow_succ, Nat.mul_comm, Nat.mod_mul_right_div_self]
    rw [onesF, onesF, e1, e2, ih]

theorem bytesF_bit (x : Nat) : ∃ c0 c1 c2 c3 c4 c5 c6 c7 : Nat, c0 ≤ 8 ∧ c1 ≤ 8 ∧ c2 ≤ 8 ∧ c3 ≤ 8 ∧ c4 ≤ 8 ∧ c5 ≤ 8 ∧ c6 ≤ 8 ∧ c7 ≤ 8 ∧
    bytesF (fun r => onesF 8 r) 8 x = c0 + 256 * c1 + 65536 * c2 + 16777216 * c3 + 4294967296 * c4 + 1099511627776 * c5 + 281474976710656 * c6 + 72057594037927936 * c7 ∧ ones x = c0 + c1 + c2 + c3 + c4 + c5 + c6 + c7 := by
  have e : ∀ y, onesF 8 (y % 256) = onesF 8 y := onesF_mod 8
  have s : ∀ g y, onesF (8 + g) y = onesF 8 y + onesF g (y / 256) := fun g y => onesF_add 8 g y
  refine ⟨onesF 8 x, onesF 8 (x / 256), onesF 8 (x / 256 / 256), onesF 8 (x / 256 / 256 / 256), onesF 8 (x / 256 / 256 / 256 / 256), onesF 8 (x / 256 / 256 / 256 / 256 / 256), onesF 8 (x / 256 / 256 / 256 / 256 / 256 / 256), onesF 8 (x / 256 / 256 / 256 / 256 / 256 / 256 / 256),
    onesF_le _ _, onesF_le _ _, onesF_le _ _, onesF_le _ _, onesF_le _ _, onesF_le _ _, onesF_le _ _, onesF_le _ _, ?_, ?_⟩
  · simp only [bytesF, e]
    omega
  · unfold ones
    rw [show (64 : Nat) = 8 + (8 + (8 + (8 + (8 + (8 + (8 + (8 + 0))))))) from rfl]
    rw [s, s, s, s, s, s, s, s]
    simp only [onesF]
    omega

theorem div_of (q r k n : Nat) (h : n = r + k * q) (hr : r < k) : n / k = q := by
  subst h
  rw [Nat.add_mul_div_left _ _ (by omega), Nat.div_eq_of_lt hr, Nat.zero_add]
/-- The three sums. -/
theorem fold8 (c0 c1 c2 c3 c4 c5 c6 c7 : Nat) (k0 : c0 ≤ 8) (k1 : c1 ≤ 8) (k2 : c2 ≤ 8) (k3 : c3 ≤ 8) (k4 : c4 ≤ 8) (k5 : c5 ≤ 8) (k6 : c6 ≤ 8) (k7 : c7 ≤ 8) :
    ∃ d e f : Nat, (c0 + 256 * c1 + 65536 * c2 + 16777216 * c3 + 4294967296 * c4 + 1099511627776 * c5 + 281474976710656 * c6 + 72057594037927936 * c7) + (c0 + 256 * c1 + 65536 * c2 + 16777216 * c3 + 4294967296 * c4 + 1099511627776 * c5 + 281474976710656 * c6 + 72057594037927936 * c7) / 256 = d ∧ d + d / 65536 = e ∧ e + e / 4294967296 = f ∧ f % 128 = c0 + c1 + c2 + c3 + c4 + c5 + c6 + c7 ∧ d < 2305843009213693952 ∧ e < 2305843009213693952 ∧ f < 2305843009213693952 := by
  refine ⟨(c0 + c1) + 256 * (c1 + c2) + 65536 * (c2 + c3) + 16777216 * (c3 + c4) + 4294967296 * (c4 + c5) + 1099511627776 * (c5 + c6) + 281474976710656 * (c6 + c7) + 72057594037927936 * c7, (c0 + c1 + c2 + c3) + 256 * (c1 + c2 + c3 + c4) + 65536 * (c2 + c3 + c4 + c5) + 16777216 * (c3 + c4 + c5 + c6) + 4294967296 * (c4 + c5 + c6 + c7) + 1099511627776 * (c5 + c6 + c7) + 281474976710656 * (c6 + c7) + 72057594037927936 * c7, (c0 + c1 + c2 + c3 + c4 + c5 + c6 + c7) + 128 * (2 * ((c1 + c2 + c3 + c4 + c5 + c6 + c7) + 256 * (c2 + c3 + c4 + c5 + c6 + c7) + 65536 * (c3 + c4 + c5 + c6 + c7) + 16777216 * (c4 + c5 + c6 + c7) + 4294967296 * (c5 + c6 + c7) + 1099511627776 * (c6 + c7) + 281474976710656 * c7)), ?_, ?_, ?_, ?_, ?_, ?_, ?_⟩
  · have q : (c0 + 256 * c1 + 65536 * c2 + 16777216 * c3 + 4294967296 * c4 + 1099511627776 * c5 + 281474976710656 * c6 + 72057594037927936 * c7) / 256 = c1 + 256 * c2 + 65536 * c3 + 16777216 * c4 + 4294967296 * c5 + 1099511627776 * c6 + 281474976710656 * c7 := div_of _ c0 _ _ (by omega) (by omega)
    rw [q]
    clear q
    omega
  · have q : ((c0 + c1) + 256 * (c1 + c2) + 65536 * (c2 + c3) + 16777216 * (c3 + c4) + 4294967296 * (c4 + c5) + 1099511627776 * (c5 + c6) + 281474976710656 * (c6 + c7) + 72057594037927936 * c7) / 65536 = (c2 + c3) + 256 * (c3 + c4) + 65536 * (c4 + c5) + 16777216 * (c5 + c6) + 4294967296 * (c6 + c7) + 1099511627776 * c7 := div_of _ ((c0 + c1) + 256 * (c1 + c2)) _ _ (by omega) (by omega)
    rw [q]
    clear q
    omega
  · have q : ((c0 + c1 + c2 + c3) + 256 * (c1 + c2 + c3 + c4) + 65536 * (c2 + c3 + c4 + c5) + 16777216 * (c3 + c4 + c5 + c6) + 4294967296 * (c4 + c5 + c6 + c7) + 1099511627776 * (c5 + c6 + c7) + 281474976710656 * (c6 + c7) + 72057594037927936 * c7) / 4294967296 = (c4 + c5 + c6 + c7) + 256 * (c5 + c6 + c7) + 65536 * (c6 + c7) + 16777216 * c7 := div_of _ ((c0 + c1 + c2 + c3) + 256 * (c1 + c2 + c3 + c4) + 65536 * (c2 + c3 + c4 + c5) + 16777216 * (c3 + c4 + c5 + c6)) _ _ (by omega) (by omega)
    rw [q]
    clear q
    omega
  · rw [Nat.add_mul_mod_self_left, Nat.mod_eq_of_lt (by omega)]
  all_goals omega

/-- The numbers as they come: after the three steps, and after the three sums. -/
theorem ones_steps (x a b c : Nat) (ha : ((x / 2) &&& 6148914691236517205) + (x &&& 6148914691236517205) = a) (hb : ((a / 4) &&& 3689348814741910323) + (a &&& 3689348814741910323) = b) (hc : (b / 16 + b) &&& 1085102592571150095 = c) :
    ∃ d e f : Nat, c + c / 256 = d ∧ d + d / 65536 = e ∧ e + e / 4294967296 = f ∧ f % 128 = ones x ∧ c < 2305843009213693952 ∧ d < 2305843009213693952 ∧ e < 2305843009213693952 ∧ f < 2305843009213693952 ∧ b < 9223372036854775808 ∧ a < 13835058055282163712 := by
  have la : a < 13835058055282163712 := by
    have u : (x / 2) &&& 6148914691236517205 ≤ 6148914691236517205 := Nat.and_le_right
    have v : x &&& 6148914691236517205 ≤ 6148914691236517205 := Nat.and_le_right
    omega
  have lb : b < 9223372036854775808 := by
    have u : (a / 4) &&& 3689348814741910323 ≤ 3689348814741910323 := Nat.and_le_right
    have v : a &&& 3689348814741910323 ≤ 3689348814741910323 := Nat.and_le_right
    omega
  have lc : c < 2305843009213693952 := by
    have u : (b / 16 + b) &&& 1085102592571150095 ≤ 1085102592571150095 := Nat.and_le_right
    omega
  have m1 : mask 85 8 = 6148914691236517205 := by decide
  have m2 : mask 51 8 = 3689348814741910323 := by decide
  have m3 : mask 15 8 = 1085102592571150095 := by decide
  have h1 := step1 8 x
  rw [m1, ha] at h1
  have h2 := step2 8 a
  rw [m2, hb, h1, bytesF_comp s1 s2 s1_lt'] at h2
  have h3 := step3 8 x
  rw [m3] at h3
  have h2' : b = bytesF s21 8 x := h2
  rw [← h2', hc] at h3
  obtain ⟨c0, c1, c2, c3, c4, c5, c6, c7, k0, k1, k2, k3, k4, k5, k6, k7, hC, hO⟩ := bytesF_bit x
  rw [hC] at h3
  obtain ⟨d, e, f, hd, he, hf, hm, ld, le, lf⟩ := fold8 c0 c1 c2 c3 c4 c5 c6 c7 k0 k1 k2 k3 k4 k5 k6 k7
  rw [← h3] at hd
  exact ⟨d, e, f, hd, he, hf, hm.trans hO.symm, lc, ld, le, lf, lb, la⟩

theorem onesF_zero : ∀ f, onesF f 0 = 0
  | 0 => rfl
  | f + 1 => by rw [onesF, onesF_zero f]
theorem onesF_pos : ∀ f x, 0 < x → x < 2 ^ f → 0 < onesF f x
  | 0, x, h0, h => by simp at h; omega
  | f + 1, x, h0, h => by
    rw [onesF]
    by_cases e : x % 2 = 0
    · have := onesF_pos f (x / 2) (by omega) (by rw [Nat.pow_succ] at h; omega)
      omega
    · omega
/-- No more than one: 0, or a power of two. -/
theorem onesF_one : ∀ f x, x < 2 ^ f → (onesF f x ≤ 1 ↔ x = 0 ∨ ∃ k, x = 2 ^ k)
  | 0, x, h => by simp at h; subst h; simp [onesF]
  | f + 1, x, h => by
    have hx : x / 2 < 2 ^ f := by rw [Nat.pow_succ] at h; omega
    have ih := onesF_one f (x / 2) hx
    rw [onesF]
    by_cases e : x % 2 = 0
    · rw [e, Nat.zero_add, ih]
      constructor
      · rintro (h0 | ⟨k, hk⟩)
        · exact .inl (by omega)
        · exact .inr ⟨k + 1, by rw [Nat.pow_succ]; omega⟩
      · rintro (h0 | ⟨k, hk⟩)
        · exact .inl (by omega)
        · cases k with
          | zero => rw [Nat.pow_zero] at hk; omega
          | succ k => exact .inr ⟨k, by rw [Nat.pow_succ] at hk; omega⟩
    · have e1 : x % 2 = 1 := by omega
      rw [e1]
      constructor
      · intro hle
        by_cases h0 : x / 2 = 0
        · exact .inr ⟨0, by rw [Nat.pow_zero]; omega⟩
        · have := onesF_pos f (x / 2) (by omega) hx
          omega
      · rintro (h0 | ⟨k, hk⟩)
        · omega
        · cases k with
          | zero =>
            rw [Nat.pow_zero] at hk
            have : x / 2 = 0 := by omega
            rw [this, onesF_zero]
            omega
          | succ k => rw [Nat.pow_succ] at hk; omega
theorem ones_one (x : Nat) (h : x < 18446744073709551616) : ones x ≤ 1 ↔ x = 0 ∨ ∃ k, x = 2 ^ k := onesF_one 64 x h
theorem ones_even {x : Nat} (h : x < 18446744073709551616) (h1 : ones x ≤ 1) (h2 : 1 < x) : x % 2 = 0 := by
  rcases (ones_one x h).1 h1 with h0 | ⟨k, hk⟩
  · omega
  · cases k with
    | zero => rw [Nat.pow_zero] at hk; omega
    | succ k => rw [Nat.pow_succ] at hk; omega
theorem ones_le (x : Nat) : ones x ≤ 64 := onesF_le 64 x
end Go.Proofs.Ythebemikhjglbaa

namespace Go.Proofs.Ythebemikhjglbaa

abbrev Bs := List UInt8

/-- The bytes up to the first 0. -/
def cut0 : Bs → Option Bs
  | [] => none
  | b :: r => if b = 0 then some [] else (cut0 r).map (b :: ·)
/-- The name at a place. -/
def nameAt (l : Bs) (off : Nat) : Option Bs := cut0 (l.drop off)
/-- None has a 0 in it. -/
def noZero (s : Bs) : Bool := (cut0 s).isNone
def areN (L : List Bs) : Bool := L.all noZero

theorem cut0_some : ∀ {l s : Bs}, cut0 l = some s → s.length < l.length ∧ l.take s.length = s ∧ l[s.length]? = some 0
  | [], s, h => by cases h
  | b :: r, s, h => by
    unfold cut0 at h
    split at h
    · rename_i hb
      subst hb
      injection h with h
      subst h
      simp
    · obtain ⟨x, hx, rfl⟩ := Option.map_eq_some_iff.1 h
      obtain ⟨h1, h2, h3⟩ := cut0_some hx
      exact ⟨by simpa using h1, by simp [h2], by simpa using h3⟩
theorem cut0_none : ∀ {l : Bs}, cut0 l = none ↔ ∀ b ∈ l, b ≠ 0
  | [] => by simp [cut0]
  | b :: r => by
    unfold cut0
    split
    · rename_i hb; subst hb; simp
    · rename_i hb
      rw [Option.map_eq_none_iff, cut0_none]
      simp [hb]
theorem cut0_append {l s : Bs} (r : Bs) (h : cut0 l = some s) : cut0 (l ++ r) = some s := by
  induction l generalizing s with
  | nil => cases h
  | cons b l ih =>
    unfold cut0 at h
    rw [List.cons_append]
    unfold cut0
    split at h
    · rename_i hb; rw [if_pos hb]; exact h
    · rename_i hb
      rw [if_neg hb]
      obtain ⟨x, hx, rfl⟩ := Option.map_eq_some_iff.1 h
      rw [ih hx]; rfl
theorem cut0_name {s : Bs} (r : Bs) (h : noZero s = true) : cut0 (s ++ 0 :: r) = some s := by
  induction s with
  | nil => simp [cut0]
  | cons b s ih =>
    have hz := cut0_none.1 (Option.isNone_iff_eq_none.1 h)
    rw [List.cons_append]
    unfold cut0
    rw [if_neg (hz b (by simp)), ih (by rw [noZero, Option.isNone_iff_eq_none, cut0_none]; exact fun x hx => hz x (by simp [hx]))]
    rfl
/-- Up to a 0 that is the first. -/
theorem cut0_at {l : Bs} {k : Nat} (h0 : ∀ j, j < k → l[j]? ≠ some 0) (hk : l[k]? = some 0) : cut0 l = some (l.take k) := by
  induction l generalizing k with
  | nil => simp at hk
  | cons b l ih =>
    unfold cut0
    cases k with
    | zero =>
      have : b = 0 := by simpa using hk
      rw [if_pos this]; rfl
    | succ k =>
      have hb : b ≠ 0 := fun e => h0 0 (by omega) (by simp [e])
      rw [if_neg hb, ih (fun j hj => by have := h0 (j + 1) (Nat.succ_lt_succ hj); simpa using this) (by simpa using hk)]
      rfl
theorem indexByte_cut (l : Bs) : Lib.indexByte l 0 = match cut0 l with | some s => (s.length : Int) | none => -1 := by
  induction l with
  | nil => rfl
  | cons b r ih =>
    unfold Lib.indexByte cut0
    by_cases hb : b = 0
    · subst hb
      rfl
    · have e : (b == 0) = false := by simpa using hb
      rw [if_neg hb, e, ih]
      cases cut0 r with
      | none => rfl
      | some s =>
        have : ((s.length : Int) == -1) = false := by rw [beq_eq_false_iff_ne]; omega
        simp [this]
theorem indexByte_name (s : Bs) : (Lib.indexByte s 0 < 0) ↔ noZero s = true := by
  rw [indexByte_cut, noZero]
  cases cut0 s with
  | none => decide
  | some s =>
    have : ¬ ((s.length : Int) < 0) := by omega
    simp [this]

/-- Where a name that was there stands. -/
def find : List Bs → List Nat → Bs → Option Nat
  | x :: L, p :: a, s => if x = s then some p else find L a s
  | _, _, _ => none
def look (L : List Bs) (a : List Nat) (s : Bs) : Option Nat := if s = [] then some 0 else find L a s

theorem find_snoc : ∀ {L : List Bs} {a : List Nat} (x : Bs) (p : Nat) (s : Bs), L.length = a.length → find (L ++ [x]) (a ++ [p]) s = match find L a s with | some q => some q | none => if x = s then some p else none
  | [], [], x, p, s, _ => by simp [find]
  | y :: L, q :: a, x, p, s, h => by
    simp only [List.cons_append, find]
    split
    · rfl
    · exact find_snoc x p s (by simpa using h)
  | [], _ :: _, _, _, _, h => by cases h
  | _ :: _, [], _, _, _, h => by cases h
theorem look_snoc {L : List Bs} {a : List Nat} (x : Bs) (p : Nat) (s : Bs) (h : L.length = a.length) : look (L ++ [x]) (a ++ [p]) s = match look L a s with | some q => some q | none => if x = s then some p else none := by
  unfold look
  split
  · rfl
  · exact find_snoc x p s h
theorem look_nil (s : Bs) : look [] [] s = if s = [] then some 0 else none := by unfold look; split <;> simp_all [find]

/-- The table, and where each of the first k names stands. -/
def tabs (L : List Bs) : Nat → Bs × List Nat
  | 0 => ([0], [])
  | k + 1 => match look (L.take k) (tabs L k).2 (L.getD k []) with
    | some p => ((tabs L k).1, (tabs L k).2 ++ [p])
    | none => ((tabs L k).1 ++ (L.getD k [] ++ [0]), (tabs L k).2 ++ [(tabs L k).1.length])
def tab (L : List Bs) (k : Nat) : Bs := (tabs L k).1
def ats (L : List Bs) (k : Nat) : List Nat := (tabs L k).2

section
variable {L : List Bs} {k : Nat}
theorem tab_zero : tab L 0 = [0] := rfl
theorem ats_zero : ats L 0 = [] := rfl
theorem tab_old {p : Nat} (h : look (L.take k) (ats L k) (L.getD k []) = some p) : tab L (k + 1) = tab L k ∧ ats L (k + 1) = ats L k ++ [p] := by
  unfold tab ats at *
  simp only [tabs, h, and_self]
theorem tab_new (h : look (L.take k) (ats L k) (L.getD k []) = none) : tab L (k + 1) = tab L k ++ (L.getD k [] ++ [0]) ∧ ats L (k + 1) = ats L k ++ [(tab L k).length] := by
  unfold tab ats at *
  simp only [tabs, h, and_self]
theorem tab_step (L : List Bs) (k : Nat) : (∃ p, look (L.take k) (ats L k) (L.getD k []) = some p ∧ tab L (k + 1) = tab L k ∧ ats L (k + 1) = ats L k ++ [p]) ∨
    (look (L.take k) (ats L k) (L.getD k []) = none ∧ tab L (k + 1) = tab L k ++ (L.getD k [] ++ [0]) ∧ ats L (k + 1) = ats L k ++ [(tab L k).length]) := by
  cases h : look (L.take k) (ats L k) (L.getD k []) with
  | some p => exact .inl ⟨p, rfl, tab_old h⟩
  | none => exact .inr ⟨rfl, tab_new h⟩
theorem ats_len : ∀ k, (ats L k).length = k
  | 0 => rfl
  | k + 1 => by
    rcases tab_step L k with ⟨p, _, _, e⟩ | ⟨_, _, e⟩ <;> rw [e, List.length_append, ats_len k] <;> rfl
theorem tab_le {m : Nat} (hm : ∀ s ∈ L, s.length ≤ m) : ∀ k, (tab L k).length ≤ 1 + k * (m + 1)
  | 0 => by simp [tab_zero]
  | k + 1 => by
    have ih := tab_le hm k
    rw [Nat.add_mul, Nat.one_mul]
    rcases tab_step L k with ⟨p, _, e, _⟩ | ⟨_, e, _⟩
    · rw [e]; omega
    · have hs : (L.getD k []).length ≤ m := by
        by_cases hk : k < L.length
        · rw [List.getD_eq_getElem?_getD, List.getElem?_eq_getElem hk]
          exact hm _ (List.getElem_mem hk)
        · rw [List.getD_eq_getElem?_getD, List.getElem?_eq_none (by omega)]; simp
      rw [e, List.length_append, List.length_append]
      simp only [List.length_singleton]
      omega
theorem tab_pos : ∀ k, 0 < (tab L k).length
  | 0 => by simp [tab_zero]
  | k + 1 => by
    have ih := tab_pos k
    rcases tab_step L k with ⟨p, _, e, _⟩ | ⟨_, e, _⟩ <;> rw [e]
    · exact ih
    · rw [List.length_append]; omega
theorem tab_first : ∀ k, (tab L k)[0]? = some 0
  | 0 => by simp [tab_zero]
  | k + 1 => by
    have ih := tab_first k
    rcases tab_step L k with ⟨p, _, e, _⟩ | ⟨_, e, _⟩ <;> rw [e]
    · exact ih
    · rw [List.getElem?_append_left (tab_pos k)]; exact ih
theorem tab_last : ∀ k, (tab L k)[(tab L k).length - 1]? = some 0
  | 0 => by simp [tab_zero]
  | k + 1 => by
    have ih := tab_last k
    rcases tab_step L k with ⟨p, _, e, _⟩ | ⟨_, e, _⟩ <;> rw [e]
    · exact ih
    · rw [← List.append_assoc]
      simp
theorem take_snoc (hk : k < L.length) : L.take (k + 1) = L.take k ++ [L.getD k []] := by
  rw [List.take_succ_eq_append_getElem hk, List.getD_eq_getElem?_getD, List.getElem?_eq_getElem hk]; rfl
/-- What was looked up stays; the newest one stands where it was told to. -/
theorem look_keep (hk : k < L.length) {s : Bs} {p : Nat} (h : look (L.take k) (ats L k) s = some p) : look (L.take (k + 1)) (ats L (k + 1)) s = some p := by
  have hl : (L.take k).length = (ats L k).length := by rw [ats_len, List.length_take]; omega
  rw [take_snoc hk]
  rcases tab_step L k with ⟨q, _, _, e⟩ | ⟨_, _, e⟩ <;> rw [e, look_snoc _ _ _ hl, h]
theorem look_new (hk : k < L.length) (h : look (L.take k) (ats L k) (L.getD k []) = none) (s : Bs) : look (L.take (k + 1)) (ats L (k + 1)) s = if L.getD k [] = s then some (tab L k).length else look (L.take k) (ats L k) s := by
  have hl : (L.take k).length = (ats L k).length := by rw [ats_len, List.length_take]; omega
  rw [take_snoc hk, (tab_new h).2, look_snoc _ _ _ hl]
  generalize L.getD k [] = x at h ⊢
  by_cases e : x = s
  · subst e
    rw [h]
  · simp only [if_neg e]
    cases look (L.take k) (ats L k) s <;> rfl
theorem look_old (hk : k < L.length) {p : Nat} (h : look (L.take k) (ats L k) (L.getD k []) = some p) (s : Bs) : look (L.take (k + 1)) (ats L (k + 1)) s = look (L.take k) (ats L k) s := by
  have hl : (L.take k).length = (ats L k).length := by rw [ats_len, List.length_take]; omega
  rw [take_snoc hk, (tab_old h).2, look_snoc _ _ _ hl]
  generalize L.getD k [] = x at h ⊢
  by_cases e : x = s
  · subst e
    rw [h]
  · simp only [if_neg e]
    cases look (L.take k) (ats L k) s <;> rfl

theorem ats_pre : ∀ {m k j : Nat}, k ≤ m → j < k → (ats L m)[j]? = (ats L k)[j]?
  | 0, _, _, h1, h2 => by omega
  | m + 1, k, j, h1, h2 => by
    by_cases e : k = m + 1
    · rw [e]
    · rw [← ats_pre (m := m) (k := k) (by omega) h2]
      have hlen := ats_len (L := L) m
      rcases tab_step L m with ⟨q, _, _, e2⟩ | ⟨_, _, e2⟩ <;> rw [e2, List.getElem?_append_left (by omega)]
/-- Where number k stands, as it is known once it was looked up. -/
theorem ats_at_old {m p : Nat} (hk : k < m) (h : look (L.take k) (ats L k) (L.getD k []) = some p) : (ats L m)[k]? = some p := by
  rw [ats_pre (k := k + 1) hk (by omega), (tab_old h).2, List.getElem?_append_right (by rw [ats_len]; omega), ats_len]; simp
theorem ats_at_new {m : Nat} (hk : k < m) (h : look (L.take k) (ats L k) (L.getD k []) = none) : (ats L m)[k]? = some (tab L k).length := by
  rw [ats_pre (k := k + 1) hk (by omega), (tab_new h).2, List.getElem?_append_right (by rw [ats_len]; omega), ats_len]; simp

theorem find_in : ∀ {L : List Bs} {a : List Nat} {s : Bs} {p : Nat}, find L a s = some p → p ∈ a
  | x :: L, q :: a, s, p, h => by
    unfold find at h
    split at h
    · injection h with h
      subst h
      simp
    · exact List.mem_cons_of_mem _ (find_in h)
  | [], _, _, _, h => by simp [find] at h
  | _ :: _, [], _, _, h => by simp [find] at h
theorem ats_lt : ∀ {k p : Nat}, p ∈ ats L k → p < (tab L k).length
  | 0, _, h => by simp [ats_zero] at h
  | k + 1, p, h => by
    rcases tab_step L k with ⟨q, hq, e1, e2⟩ | ⟨_, e1, e2⟩
    · rw [e2, List.mem_append] at h
      rw [e1]
      rcases h with h | h
      · exact ats_lt h
      · have : p = q := by simpa using h
        subst this
        unfold look at hq
        split at hq
        · injection hq with hq
          subst hq
          exact tab_pos k
        · exact ats_lt (find_in hq)
    · rw [e2, List.mem_append] at h
      rw [e1, List.length_append, List.length_append]
      rcases h with h | h
      · have := ats_lt h
        omega
      · have : p = (tab L k).length := by simpa using h
        simp
        omega

/-- The search, as far as it has come. -/
def lk (L : List Bs) (k m : Nat) (s : Bs) : Option Nat := look (L.take m) ((ats L k).take m) s
theorem lk_zero (L : List Bs) (k : Nat) (s : Bs) : lk L k 0 s = if s = [] then some 0 else none := by unfold lk; rw [List.take_zero, List.take_zero, look_nil]
theorem lk_all (L : List Bs) (k : Nat) (s : Bs) : lk L k k s = look (L.take k) (ats L k) s := by
  unfold lk
  rw [List.take_of_length_le (l := ats L k) (by rw [ats_len]; exact Nat.le_refl _)]
theorem lk_succ {m : Nat} (hk : k ≤ L.length) (hm : m < k) (s : Bs) : lk L k (m + 1) s = match lk L k m s with | some q => some q | none => if L.getD m [] = s then (ats L k)[m]? else none := by
  have h1 : m < (ats L k).length := by rw [ats_len]; exact hm
  unfold lk
  rw [take_snoc (by omega), List.take_succ_eq_append_getElem h1, look_snoc _ _ _ (by rw [List.length_take, List.length_take]; omega), List.getElem?_eq_getElem h1]
theorem lk_keep {m p : Nat} (hk : k ≤ L.length) {s : Bs} (h : lk L k m s = some p) : ∀ d, m + d ≤ k → lk L k (m + d) s = some p
  | 0, _ => h
  | d + 1, hd => by
    have ih := lk_keep hk h d (by omega)
    rw [← Nat.add_assoc, lk_succ hk (by omega), ih]
theorem lk_found {m p : Nat} (hk : k ≤ L.length) (hm : m ≤ k) {s : Bs} (h : lk L k m s = some p) : look (L.take k) (ats L k) s = some p := by
  have := lk_keep hk h (k - m) (by omega)
  rw [show m + (k - m) = k by omega, lk_all] at this
  exact this
theorem look_lt {s : Bs} {p : Nat} (h : look (L.take k) (ats L k) s = some p) : p < (tab L k).length := by
  unfold look at h
  split at h
  · injection h with h
    subst h
    exact tab_pos k
  · exact ats_lt (find_in h)

/-- Each of the first ones is found where it stands. -/
theorem look_at : ∀ k, k ≤ L.length → ∀ j, j < k → look (L.take k) (ats L k) (L.getD j []) = (ats L k)[j]?
  | 0, _, _, hj => absurd hj (by omega)
  | k + 1, hk, j, hj => by
    have hlen := ats_len (L := L) k
    by_cases e : j < k
    · have ih := look_at k (by omega) j e
      have hp : (ats L k)[j]? = some (ats L k)[j] := List.getElem?_eq_getElem (by omega)
      rw [hp] at ih
      rw [look_keep (by omega) ih]
      rcases tab_step L k with ⟨q, _, _, e2⟩ | ⟨_, _, e2⟩ <;> rw [e2, List.getElem?_append_left (by omega), hp]
    · obtain rfl : j = k := by omega
      rcases tab_step L j with ⟨q, h1, _, e2⟩ | ⟨h1, _, e2⟩
      · rw [look_keep (by omega) h1, e2, List.getElem?_append_right (by omega), hlen]; simp
      · rw [look_new (by omega) h1, if_pos rfl, e2, List.getElem?_append_right (by omega), hlen]; simp

theorem find_mem : ∀ {L : List Bs} {a : List Nat} {s : Bs} {p : Nat}, find L a s = some p → ∃ i : Nat, a[i]? = some p ∧ L[i]? = some s
  | x :: L, q :: a, s, p, h => by
    unfold find at h
    split at h
    · rename_i e
      injection h with h
      subst h; subst e
      exact ⟨0, rfl, rfl⟩
    · obtain ⟨i, h1, h2⟩ := find_mem h
      exact ⟨i + 1, by simpa using h1, by simpa using h2⟩
  | [], _, _, _, h => by simp [find] at h
  | _ :: _, [], _, _, h => by simp [find] at h

/-- Where one stands, it is got. -/
theorem got_at (hz : areN L = true) : ∀ k, k ≤ L.length → ∀ j p, (ats L k)[j]? = some p → p < (tab L k).length ∧ nameAt (tab L k) p = some (L.getD j [])
  | 0, _, _, _, h => by simp [ats_zero] at h
  | k + 1, hk, j, p, h => by
    have hlen := ats_len (L := L) k
    have hs : noZero (L.getD k []) = true := by
      rw [List.getD_eq_getElem?_getD, List.getElem?_eq_getElem (by omega)]
      exact List.all_eq_true.1 hz _ (List.getElem_mem _)
    have keep : ∀ (r : Bs) j p, (ats L k)[j]? = some p → p < (tab L k ++ r).length ∧ nameAt (tab L k ++ r) p = some (L.getD j []) := by
      intro r j p h
      obtain ⟨h1, h2⟩ := got_at hz k (by omega) j p h
      refine ⟨by rw [List.length_append]; omega, ?_⟩
      unfold nameAt at h2 ⊢
      rw [List.drop_append_of_le_length (by omega)]
      exact cut0_append r h2
    rcases tab_step L k with ⟨q, hq, e1, e2⟩ | ⟨hq, e1, e2⟩
    · rw [e1]
      rw [e2] at h
      have keep0 : ∀ j p, (ats L k)[j]? = some p → p < (tab L k).length ∧ nameAt (tab L k) p = some (L.getD j []) := fun j p h => by simpa using keep [] j p h
      by_cases ej : j < k
      · exact keep0 j p (by rwa [List.getElem?_append_left (by omega)] at h)
      · have ejk : j = k := by
          have := (List.getElem?_eq_some_iff.1 h).1
          rw [List.length_append, hlen] at this
          simp at this
          omega
        subst ejk
        rw [List.getElem?_append_right (by omega), hlen] at h
        have hp : q = p := by simpa using h
        subst hp
        unfold look at hq
        split at hq
        · rename_i hnil
          injection hq with hq
          subst hq
          rw [hnil]
          refine ⟨tab_pos j, ?_⟩
          have hf := tab_first (L := L) j
          unfold nameAt
          rw [List.drop_zero]
          revert hf
          cases tab L j with
          | nil => intro hf; simp at hf
          | cons b r => intro hf; have : b = 0 := by simpa using hf
                        subst this; simp [cut0]
        · obtain ⟨i, hi, hx⟩ := find_mem hq
          have hij : (L.take j)[i]? = some (L.getD j []) := hx
          have hi2 := keep0 i q hi
          rw [List.getElem?_take] at hij
          split at hij
          · rw [show L.getD i [] = L.getD j [] from by rw [List.getD_eq_getElem?_getD, hij]; rfl] at hi2
            exact hi2
          · cases hij
    · rw [e1]
      rw [e2] at h
      by_cases ej : j < k
      · exact keep _ j p (by rwa [List.getElem?_append_left (by omega)] at h)
      · have ejk : j = k := by
          have := (List.getElem?_eq_some_iff.1 h).1
          rw [List.length_append, hlen] at this
          simp at this
          omega
        subst ejk
        rw [List.getElem?_append_right (by omega), hlen] at h
        have hp : (tab L j).length = p := by simpa using h
        subst hp
        refine ⟨by rw [List.length_append, List.length_append]; simp, ?_⟩
        unfold nameAt
        rw [List.drop_append_of_le_length (Nat.le_refl _), List.drop_length, List.nil_append]
        exact cut0_name [] hs
/-- Alike ones stand alike, others don't. -/
theorem ats_alike (hz : areN L = true) {i j : Nat} (hi : i < L.length) (hj : j < L.length) : ((ats L L.length).getD i 0 = (ats L L.length).getD j 0) ↔ L.getD i [] = L.getD j [] := by
  have hlen := ats_len (L := L) L.length
  have h1 : (ats L L.length)[i]? = some ((ats L L.length).getD i 0) := by rw [List.getD_eq_getElem?_getD, List.getElem?_eq_getElem (by omega)]; rfl
  have h2 : (ats L L.length)[j]? = some ((ats L L.length).getD j 0) := by rw [List.getD_eq_getElem?_getD, List.getElem?_eq_getElem (by omega)]; rfl
  constructor
  · intro e
    have g1 := (got_at hz _ (Nat.le_refl _) i _ h1).2
    have g2 := (got_at hz _ (Nat.le_refl _) j _ h2).2
    rw [e, g2] at g1
    injection g1 with g1
    exact g1.symm
  · intro e
    have g1 := look_at _ (Nat.le_refl _) i hi
    have g2 := look_at _ (Nat.le_refl _) j hj
    rw [e, g2, h1, h2] at g1
    injection g1 with g1
    exact g1.symm
end
end Go.Proofs.Ythebemikhjglbaa

namespace Go.Proofs.Ythebemikhjglbaa
open Go.RowKit

/-- A name as a string. -/
def bstr (s : Bs) : ByteArray := ⟨s.toArray⟩
theorem bstr_size (s : Bs) : (bstr s).size = s.length := by simp [bstr, ByteArray.size]
theorem bstr_list (s : Bs) : (bstr s).data.toList = s := by simp [bstr]
theorem bstr_inj {a b : Bs} (h : bstr a = bstr b) : a = b := by rw [← bstr_list a, h, bstr_list]
theorem bstr_of (s : ByteArray) : bstr s.data.toList = s := by cases s; simp [bstr]

theorem bstr_toList (s : Bs) : (bstr s).toList = s := by rw [ByteArray.toList_eq, bstr_list]
theorem bstr_at {S : ByteArray} {s : Bs} (hS : S = bstr s) (m : Nat) (h : m < S.size) : s[m]? = some S[m] := by
  subst hS
  have h' : m < s.length := by rw [← bstr_size]; exact h
  rw [List.getElem?_eq_getElem h']
  rfl
theorem bstr_empty {S : ByteArray} {s : Bs} (hS : S = bstr s) : S.toList.isEmpty = s.isEmpty := by rw [hS, bstr_toList]
theorem bstr_eq {S S' : ByteArray} {s s' : Bs} (hS : S = bstr s) (hS' : S' = bstr s') (h : s = s') : (S.toList == S'.toList) = true := by rw [hS, hS', bstr_toList, bstr_toList, h]; exact beq_self_eq_true _
theorem bstr_ne {S S' : ByteArray} {s s' : Bs} (hS : S = bstr s) (hS' : S' = bstr s') (h : s ≠ s') : (S.toList == S'.toList) = false := by rw [hS, hS', bstr_toList, bstr_toList]; exact beq_eq_false_iff_ne.2 h

/-- The slice (A, n, c) reads as the names L; its cells lie below block B. -/
structure SS (w : World) (B : Nat) (A : Option Addr) (n c : Nat) (L : List Bs) : Prop where
  len : n = L.length
  cap : n ≤ c
  max : c ≤ maxLen
  each : ∀ s ∈ L, s.length ≤ maxLen
  pos : 0 < n → ∃ b off, A = some ⟨b, off, none⟩ ∧ b < B ∧ ∀ j, j < L.length → w.cell? ⟨b, off + j, none⟩ = some (.string (bstr (L.getD j [])))

section
variable {w w' : World} {B : Nat} {A : Option Addr} {n c : Nat} {L : List Bs}
theorem SS.keep (h : SS w B A n c L) (hk : ∀ p : Addr, p.block < B → w'.cell? p = w.cell? p) : SS w' B A n c L :=
  ⟨h.len, h.cap, h.max, h.each, fun hn => by
    obtain ⟨b, off, e, hb, hc⟩ := h.pos hn
    exact ⟨b, off, e, hb, fun j hj => (hk ⟨b, off + j, none⟩ hb).trans (hc j hj)⟩⟩
theorem SS.belowAt {B0 : Nat} (h : SS w B A n c L) (hb : Below B0 w w') (hB : B ≤ B0) : SS w' B A n c L := h.keep fun _ hp => hb.cell (by omega)
theorem SS.more {B' : Nat} (h : SS w B A n c L) (hB : B ≤ B') : SS w B' A n c L :=
  ⟨h.len, h.cap, h.max, h.each, fun hn => by
    obtain ⟨b, off, e, hb, hc⟩ := h.pos hn
    exact ⟨b, off, e, by omega, hc⟩⟩
theorem SS.grow (h : SS w w.heap.size A n c L) (hg : Grow w w') : SS w' w'.heap.size A n c L := (h.belowAt hg (Nat.le_refl _)).more hg.size
theorem SS.size (h : SS w B A n c L) (j : Nat) : (L.getD j []).length ≤ maxLen := by
  by_cases hj : j < L.length
  · rw [List.getD_eq_getElem?_getD, List.getElem?_eq_getElem hj]
    exact h.each _ (List.getElem_mem hj)
  · rw [List.getD_eq_getElem?_getD, List.getElem?_eq_none (by omega)]
    exact Nat.zero_le _
end
theorem all_of_getD {L : List Bs} {p : Bs → Prop} (h : ∀ j, j < L.length → p (L.getD j [])) : ∀ s ∈ L, p s := by
  intro s hs
  obtain ⟨j, hj⟩ := List.getElem?_of_mem hs
  have h1 := (List.getElem?_eq_some_iff.1 hj).1
  have := h j h1
  rw [List.getD_eq_getElem?_getD, hj] at this
  exact this
theorem getD_mem {L : List Bs} {j : Nat} (hj : j < L.length) : L.getD j [] ∈ L := by
  rw [List.getD_eq_getElem?_getD, List.getElem?_eq_getElem hj]
  exact List.getElem_mem hj
end Go.Proofs.Ythebemikhjglbaa

namespace Go.Proofs.Ythebemikhjglbaa

/-- The number of bytes, the lowest first. -/
def num : List UInt8 → Nat
  | [] => 0
  | b :: r => b.toNat + 256 * num r
/-- The n lowest bytes of a number, the lowest first. -/
def low : Nat → Nat → List UInt8
  | 0, _ => []
  | n + 1, v => UInt8.ofNat v :: low n (v / 256)
def ord (big : Bool) (l : List UInt8) : List UInt8 := if big then l.reverse else l
def getB (l : List UInt8) (big : Bool) : Nat := num (ord big l)
def putB (v n : Nat) (big : Bool) : List UInt8 := ord big (low n v)
/-- The place of byte i of n, counted from the lowest. -/
def rank (i n : Nat) (big : Bool) : Nat := if big then n - 1 - i else i

theorem length_low : ∀ n v : Nat, (low n v).length = n
  | 0, _ => rfl
  | n + 1, v => by simp [low, length_low n]
theorem length_ord (big : Bool) (l : List UInt8) : (ord big l).length = l.length := by cases big <;> simp [ord]
theorem length_putB (v n : Nat) (big : Bool) : (putB v n big).length = n := by simp [putB, length_ord, length_low]

theorem toNat_ofNat8 (v : Nat) : (UInt8.ofNat v).toNat = v % 256 := by simp [UInt8.toNat_ofNat']

theorem num_lt : ∀ l : List UInt8, num l < 256 ^ l.length
  | [] => by simp [num]
  | b :: r => by
    have h1 := num_lt r
    have h2 : b.toNat < 256 := b.toNat_lt
    simp only [num, List.length_cons, Nat.pow_succ]
    omega

theorem num_low : ∀ n v : Nat, num (low n v) = v % 256 ^ n
  | 0, v => by simp [low, num, Nat.mod_one]
  | n + 1, v => by
    simp only [low, num, num_low n, toNat_ofNat8]
    rw [Nat.pow_succ, Nat.mul_comm (256 ^ n) 256, Nat.mod_mul]

theorem low_num : ∀ l : List UInt8, low l.length (num l) = l
  | [] => rfl
  | b :: r => by
    have h2 : b.toNat < 256 := b.toNat_lt
    have e1 : (b.toNat + 256 * num r) / 256 = num r := by omega
    have e2 : UInt8.ofNat (b.toNat + 256 * num r) = b := by
      apply UInt8.toNat_inj.1
      rw [toNat_ofNat8]; omega
    simp only [List.length_cons, low, num, e1, e2, low_num r]

theorem num_append : ∀ a b : List UInt8, num (a ++ b) = num a + 256 ^ a.length * num b
  | [], b => by simp [num]
  | x :: a, b => by
    simp only [List.cons_append, num, num_append a b, List.length_cons, Nat.pow_succ, Nat.mul_add]
    rw [Nat.mul_comm (256 ^ a.length) 256, Nat.mul_assoc]
    omega

theorem low_at : ∀ (n v i : Nat), i < n → (low n v)[i]? = some (UInt8.ofNat (v / 256 ^ i))
  | 0, _, _, h => by omega
  | n + 1, v, 0, _ => by simp [low]
  | n + 1, v, i + 1, h => by
    rw [low, List.getElem?_cons_succ, low_at n (v / 256) i (by omega), Nat.div_div_eq_div_mul, Nat.pow_succ, Nat.mul_comm 256]

theorem putB_at (v n i : Nat) (big : Bool) (h : i < n) : (putB v n big)[i]? = some (UInt8.ofNat (v / 256 ^ rank i n big)) := by
  cases big
  · simp [putB, ord, rank, low_at n v i h]
  · simp only [putB, ord, rank, if_true]
    rw [List.getElem?_reverse (by rw [length_low]; exact h), length_low, low_at n v _ (by omega)]

theorem rank_lt (i n : Nat) (big : Bool) (h : i < n) : rank i n big < n := by unfold rank; split <;> omega

/-- What was put is got, modulo what has no room. -/
theorem getB_putB (v n : Nat) (big : Bool) : getB (putB v n big) big = v % 256 ^ n := by
  cases big <;> simp [getB, putB, ord, num_low]
/-- What is got, put, is those bytes. -/
theorem putB_getB (l : List UInt8) (big : Bool) : putB (getB l big) l.length big = l := by
  cases big
  · simp [getB, putB, ord, low_num]
  · have := low_num l.reverse
    rw [List.length_reverse] at this
    simp [getB, putB, ord, this]
theorem getB_lt (l : List UInt8) (big : Bool) : getB l big < 256 ^ l.length := by
  have := num_lt (ord big l)
  rwa [length_ord] at this
/-- One order's bytes are the other's, turned round. -/
theorem putB_turn (v n : Nat) (big : Bool) : putB v n (!big) = (putB v n big).reverse := by
  cases big <;> simp [putB, ord]

/-- The sum over the first k bytes, each at its place. -/
def part (l : List UInt8) (big : Bool) (k : Nat) : Nat := if big then 256 ^ (l.length - k) * num (l.take k).reverse else num (l.take k)

theorem part_zero (l : List UInt8) (big : Bool) : part l big 0 = 0 := by cases big <;> simp [part, num]
theorem part_all (l : List UInt8) (big : Bool) : part l big l.length = getB l big := by
  cases big <;> simp [part, getB, ord]

theorem pow256 (n : Nat) : 256 ^ n = 2 ^ (8 * n) := by rw [Nat.pow_mul]

theorem or_low (x y i : Nat) (hx : x < 2 ^ i) (hy : y % 2 ^ i = 0) : x ||| y = x + y := by
  have e : y = 2 ^ i * (y / 2 ^ i) := by have := Nat.div_add_mod y (2 ^ i); omega
  rw [Nat.or_comm, e, ← Nat.two_pow_add_eq_or_of_lt hx]; omega

theorem take_snoc' (l : List UInt8) (k : Nat) (h : k < l.length) : l.take (k + 1) = l.take k ++ [l[k]] := by
  rw [List.take_succ_eq_append_getElem h]

theorem part_succ (l : List UInt8) (big : Bool) (k : Nat) (h : k < l.length) :
    part l big (k + 1) = part l big k ||| (l[k].toNat * 2 ^ (8 * rank k l.length big)) := by
  have hb : l[k].toNat < 256 := l[k].toNat_lt
  cases big
  · have e : (l.take k).length = k := by simp; omega
    have hlt := num_lt (l.take k)
    rw [e, pow256] at hlt
    simp only [part, rank, Bool.false_eq_true, if_false]
    rw [or_low _ _ (8 * k) hlt (Nat.mul_mod_left _ _), take_snoc' l k h, num_append, e, pow256]
    simp [num, Nat.mul_comm]
  · have e : l.length - k = l.length - 1 - k + 1 := by omega
    have hsmall : l[k].toNat * 2 ^ (8 * (l.length - 1 - k)) < 2 ^ (8 * (l.length - k)) := by
      rw [e, Nat.mul_add, Nat.pow_add, Nat.mul_comm]
      exact Nat.mul_lt_mul_of_pos_left hb (Nat.two_pow_pos _)
    simp only [part, rank, if_true]
    rw [Nat.or_comm, or_low _ _ (8 * (l.length - k)) hsmall (by rw [pow256]; exact Nat.mul_mod_right _ _), take_snoc' l k h, List.reverse_append]
    simp only [List.reverse_cons, List.reverse_nil, List.nil_append, List.singleton_append, num]
    rw [show l.length - (k + 1) = l.length - 1 - k by omega, pow256, pow256, e, Nat.mul_add 8, Nat.pow_add, Nat.mul_add, ← Nat.mul_assoc, Nat.mul_comm (l[k].toNat)]
    

theorem part_lt (l : List UInt8) (big : Bool) (k : Nat) (h : k ≤ l.length) : part l big k < 256 ^ l.length := by
  cases big
  · have := num_lt (l.take k)
    simp only [part, Bool.false_eq_true, if_false]
    exact Nat.lt_of_lt_of_le this (Nat.pow_le_pow_right (by omega) (by simp; omega))
  · have := num_lt (l.take k).reverse
    simp only [part, if_true]
    rw [List.length_reverse, List.length_take, Nat.min_eq_left h] at this
    have e : (256 : Nat) ^ l.length = 256 ^ (l.length - k) * 256 ^ k := by rw [← Nat.pow_add]; congr 1; omega
    rw [e]
    exact Nat.mul_lt_mul_of_pos_left this (Nat.pow_pos (by omega))

end Go.Proofs.Ythebemikhjglbaa

namespace Go.Proofs.Ythebemikhjglbaa

/-- How many bytes a row has. -/
def sumN : List Nat → Nat
  | [] => 0
  | n :: r => n + sumN r
/-- The bytes of numbers, each of so many: (number, how many). -/
def rowB (big : Bool) : List (Nat × Nat) → List UInt8
  | [] => []
  | q :: r => putB q.1 q.2 big ++ rowB big r
/-- All numbers fit. -/
def rowF : List (Nat × Nat) → Bool
  | [] => true
  | q :: r => decide (q.1 < 256 ^ q.2) && rowF r
/-- The numbers from a place on. -/
def nums (l : List UInt8) (big : Bool) : Nat → List Nat → List Nat
  | _, [] => []
  | p, n :: r => getB ((l.drop p).take n) big :: nums l big (p + n) r

theorem rowB_append (big : Bool) : ∀ a b : List (Nat × Nat), rowB big (a ++ b) = rowB big a ++ rowB big b
  | [], _ => rfl
  | q :: a, b => by simp [rowB, rowB_append big a b]
theorem rowF_append : ∀ a b : List (Nat × Nat), rowF (a ++ b) = (rowF a && rowF b)
  | [], _ => by simp [rowF]
  | q :: a, b => by simp [rowF, rowF_append a b, Bool.and_assoc]
theorem length_rowB (big : Bool) : ∀ q : List (Nat × Nat), (rowB big q).length = sumN (q.map (·.2))
  | [] => rfl
  | x :: q => by simp [rowB, length_putB, sumN, length_rowB big q]
theorem length_nums (l : List UInt8) (big : Bool) : ∀ (n : List Nat) (p : Nat), (nums l big p n).length = n.length
  | [], _ => rfl
  | n :: r, p => by simp [nums, length_nums l big r]

theorem take_snoc_pair (q : List (Nat × Nat)) (k : Nat) (h : k < q.length) : q.take (k + 1) = q.take k ++ [q[k]] := by
  rw [List.take_succ_eq_append_getElem h]
theorem rowB_succ (big : Bool) (q : List (Nat × Nat)) (k : Nat) (h : k < q.length) : rowB big (q.take (k + 1)) = rowB big (q.take k) ++ putB q[k].1 q[k].2 big := by
  rw [take_snoc_pair q k h, rowB_append]; simp [rowB]
theorem rowF_succ (q : List (Nat × Nat)) (k : Nat) (h : k < q.length) : rowF (q.take (k + 1)) = (rowF (q.take k) && decide (q[k].1 < 256 ^ q[k].2)) := by
  rw [take_snoc_pair q k h, rowF_append]; simp [rowF]

theorem nums_append (l : List UInt8) (big : Bool) : ∀ (a b : List Nat) (p : Nat), nums l big p (a ++ b) = nums l big p a ++ nums l big (p + sumN a) b
  | [], b, p => by simp [nums, sumN]
  | n :: a, b, p => by simp [nums, nums_append l big a b, sumN, Nat.add_assoc]
theorem sumN_append : ∀ a b : List Nat, sumN (a ++ b) = sumN a + sumN b
  | [], b => by simp [sumN]
  | n :: a, b => by simp [sumN, sumN_append a b, Nat.add_assoc]
theorem take_snoc_nat (q : List Nat) (k : Nat) (h : k < q.length) : q.take (k + 1) = q.take k ++ [q[k]] := by
  rw [List.take_succ_eq_append_getElem h]
theorem nums_succ (l : List UInt8) (big : Bool) (n : List Nat) (p k : Nat) (h : k < n.length) : nums l big p (n.take (k + 1)) = nums l big p (n.take k) ++ [getB ((l.drop (p + sumN (n.take k))).take n[k]) big] := by
  rw [take_snoc_nat n k h, nums_append]; simp [nums]
theorem sumN_succ (n : List Nat) (k : Nat) (h : k < n.length) : sumN (n.take (k + 1)) = sumN (n.take k) + n[k] := by
  rw [take_snoc_nat n k h, sumN_append]; simp [sumN]
theorem sumN_le (n : List Nat) (k : Nat) : sumN (n.take k) ≤ sumN n := by
  have := sumN_append (n.take k) (n.drop k)
  rw [List.take_append_drop] at this
  omega

/-- Numbers of a row that stands there are the row's. -/
theorem nums_rowB (big : Bool) (post : List UInt8) : ∀ (q : List (Nat × Nat)) (pre : List UInt8), rowF q = true → nums (pre ++ rowB big q ++ post) big pre.length (q.map (·.2)) = q.map (·.1)
  | [], _, _ => rfl
  | x :: q, pre, h => by
    simp only [rowF, Bool.and_eq_true, decide_eq_true_eq] at h
    have h1 := nums_rowB big post q (pre ++ putB x.1 x.2 big) h.2
    have e : pre ++ rowB big (x :: q) ++ post = pre ++ putB x.1 x.2 big ++ rowB big q ++ post := by simp [rowB]
    rw [List.length_append, length_putB] at h1
    simp only [List.map_cons, nums, e, h1]
    congr 1
    rw [List.append_assoc, List.append_assoc, List.drop_append_of_le_length (Nat.le_refl _), List.drop_length, List.nil_append, List.take_append_of_le_length (by rw [length_putB]; exact Nat.le_refl _), List.take_of_length_le (by rw [length_putB]; exact Nat.le_refl _), getB_putB, Nat.mod_eq_of_lt h.1]

/-- What is got, put, is those bytes. -/
theorem rowB_nums (l : List UInt8) (big : Bool) : ∀ (n : List Nat) (p : Nat), p + sumN n ≤ l.length → rowB big ((nums l big p n).zip n) = (l.drop p).take (sumN n)
  | [], p, _ => by simp [nums, rowB, sumN]
  | n :: r, p, h => by
    simp only [sumN] at h
    have h1 := rowB_nums l big r (p + n) (by omega)
    simp only [nums, List.zip_cons_cons, rowB, h1, sumN]
    have hl : ((l.drop p).take n).length = n := by simp; omega
    have h2 := putB_getB ((l.drop p).take n) big
    rw [hl] at h2
    rw [h2, ← List.drop_drop, List.take_add]

theorem nums_lt (l : List UInt8) (big : Bool) : ∀ (n : List Nat) (p k : Nat) (h : k < (nums l big p n).length), (nums l big p n)[k] < 256 ^ (n.getD k 0)
  | [], _, _, h => absurd h (by simp [nums])
  | n :: r, p, 0, _ => by
    simp only [nums, List.getElem_cons_zero, List.getD_cons_zero]
    have := getB_lt ((l.drop p).take n) big
    refine Nat.lt_of_lt_of_le this (Nat.pow_le_pow_right (by omega) (by simp; omega))
  | n :: r, p, k + 1, h => by
    simp only [nums, List.getElem_cons_succ, List.getD_cons_succ]
    exact nums_lt l big r (p + n) k _
end Go.Proofs.Ythebemikhjglbaa

namespace Go.Proofs.Ythebemikhjglbaa
open Go.RowKit

def ival (k : IntKind) (n : Nat) : Value := .int k (n : Int)

/-- The slice (A, n, c) reads as the numbers l; its cells lie below block B. -/
structure NS (w : World) (B : Nat) (k : IntKind) (A : Option Addr) (n c : Nat) (l : List Nat) : Prop where
  len : n = l.length
  cap : n ≤ c
  max : c ≤ maxLen
  pos : 0 < n → ∃ b off, A = some ⟨b, off, none⟩ ∧ b < B ∧ ∀ j (h : j < l.length), w.cell? ⟨b, off + j, none⟩ = some (.int k (l[j] : Int))

section
variable {w w' : World} {B : Nat} {k : IntKind} {A : Option Addr} {n c : Nat} {l : List Nat}
theorem NS.keep (h : NS w B k A n c l) (hk : ∀ p : Addr, p.block < B → w'.cell? p = w.cell? p) : NS w' B k A n c l :=
  ⟨h.len, h.cap, h.max, fun hn => by
    obtain ⟨b, off, e, hb, hc⟩ := h.pos hn
    exact ⟨b, off, e, hb, fun j hj => (hk ⟨b, off + j, none⟩ hb).trans (hc j hj)⟩⟩
theorem NS.belowAt {B0 : Nat} (h : NS w B k A n c l) (hb : Below B0 w w') (hB : B ≤ B0) : NS w' B k A n c l := h.keep fun _ hp => hb.cell (by omega)
theorem NS.more {B' : Nat} (h : NS w B k A n c l) (hB : B ≤ B') : NS w B' k A n c l :=
  ⟨h.len, h.cap, h.max, fun hn => by
    obtain ⟨b, off, e, hb, hc⟩ := h.pos hn
    exact ⟨b, off, e, by omega, hc⟩⟩
theorem NS.of_blk {g : Nat} {t : TypeId} {cs : Array Value} (h : Blk w g t cs) (hcs : cs = (l.map (ival k)).toArray) (hB : g < B) (hm : l.length ≤ maxLen) : NS w B k (some ⟨g, 0, none⟩) l.length l.length l :=
  ⟨rfl, Nat.le_refl _, hm, fun _ => ⟨g, 0, rfl, hB, fun j hj => by rw [Nat.zero_add, h.at, hcs]; simp [hj, ival]⟩⟩
/-- The first m of them. -/
theorem NS.first {m : Nat} (h : NS w B k A n c l) (hm : m ≤ n) : NS w B k A m c (l.take m) :=
  ⟨by have := h.len; simp; omega, by have := h.cap; omega, h.max, fun hp => by
    obtain ⟨b, off, e, hb, hc⟩ := h.pos (by omega)
    exact ⟨b, off, e, hb, fun j hj => by
      have hj2 : j < l.length := by simp at hj; omega
      rw [hc j hj2]; simp⟩⟩
end

/-- The slice is the call's own, and holds the numbers l. -/
def ON (w : World) (base : Nat) (e : TypeId) (k : IntKind) (A : Option Addr) (n c : Nat) (l : List Nat) : Prop :=
  w.ownsRow base e 1 (.slice A n c) n (l.map (ival k))
section
variable {w : World} {base : Nat} {e : TypeId} {k : IntKind} {A : Option Addr} {n c : Nat} {l : List Nat}
theorem ON.nil : ON w base e k none 0 0 [] := World.ownsRow_nil _ _ _ _
theorem ON.keep {w' : World} (h : ON w base e k A n c l) (hb : Below w.heap.size w w') : ON w' base e k A n c l := by
  refine ⟨h.1, ?_⟩
  rcases h.2 with h0 | ⟨g, cap, cur, hv, hg, hh, r⟩
  · exact .inl h0
  · refine .inr ⟨g, cap, cur, hv, hg, ?_, r⟩
    rw [hb.block g ?_]
    · exact hh
    · rcases Nat.lt_or_ge g w.heap.size with h1 | h1
      · exact h1
      · rw [Array.getElem?_eq_none h1] at hh; cases hh
theorem ON.ns (h : ON w base e k A n c l) : NS w w.heap.size k A n c l := by
  have hl : n = l.length := by have := h.1; simp at this; omega
  rcases h.2 with ⟨e0, h0⟩ | ⟨g, cap, cur, hv, _, hh, hnc, hcm, hsz, htk⟩
  · injection e0 with e1 e2 e3
    subst e1; subst e3
    exact ⟨hl, by omega, Nat.zero_le _, fun hp => by omega⟩
  · injection hv with hA _ hc
    subst hA; subst hc
    refine ⟨hl, hnc, hcm, fun _ => ⟨g, 0, rfl, ?_, fun j hj => ?_⟩⟩
    · rcases Nat.lt_or_ge g w.heap.size with h1 | h1
      · exact h1
      · rw [Array.getElem?_eq_none h1] at hh; cases hh
    · rw [cell_of_row w g (0 + j) cur e (0, 0) hh, Nat.zero_add]
      have e1 : (cur.toList.take (n * 1))[j]? = some (Value.int k (l[j] : Int)) := by
        rw [htk]; simp [hj, ival]
      rw [List.getElem?_take_of_lt (by omega)] at e1
      simpa using e1
end

theorem run_append1 {P : Program} (w : World) (base : Nat) (t ty e : TypeId) (k : IntKind) (bytes : Nat) (ht : P.underlying t = some (.slice e))
    (hinfo : (P.info? e).map (fun i => (i.zero, i.size, i.bytes)) = some (some (.int k 0), 1, bytes))
    (A : Option Addr) (n c : Nat) (l : List Nat) (hown : ON w base e k A n c l) (g : Nat) (t' : TypeId) (x : Nat) (hr : Blk w g t' #[.int k (x : Int)])
    (h63 : n + 1 ≤ maxLen) (hsz : (n + 1) * bytes ≤ 140737488355328) (hbase : base ≤ w.heap.size) :
    ∃ A2 c2 w', (Builtin.append_ #[t, t] ty #[.slice A n c, .slice (some ⟨g, 0, none⟩) 1 1]).run P w = .ok (.slice A2 (n + 1) c2) w' ∧ ON w' base e k A2 (n + 1) c2 (l ++ [x]) ∧ Below base w w' := by
  obtain ⟨i, hi, hz, hs, hby⟩ := info_parts hinfo
  obtain ⟨v', w', hrun, h2, h3, _, _⟩ := run_append_own_at (P := P) w base t ty e i (.int k 0) 1 bytes ht hi hz hs hby rfl (by omega) _ n _ hown ⟨g, 0, none⟩ 1 1 [.int k (x : Int)]
    rfl (fun j u hj => by
      have hj0 : j = 0 := by
        rcases Nat.eq_zero_or_pos j with h0 | h0
        · exact h0
        · rw [List.getElem?_eq_none (by simp; omega)] at hj; cases hj
      subst hj0
      have e2 : (⟨g, 0, none⟩ : Addr).add 0 = ⟨g, 0, none⟩ := by unfold Addr.add; split <;> simp_all
      rw [e2, hr.at]
      simpa using hj) (by intro u hu; simp at hu; subst hu; rfl) h63 hsz hbase
  have hv : ∃ A2 c2, v' = .slice A2 (n + 1) c2 := by
    rcases h2.2 with ⟨h0, h1⟩ | ⟨g, cap, cur, h0, _⟩
    · omega
    · exact ⟨_, _, h0⟩
  obtain ⟨A2, c2, rfl⟩ := hv
  exact ⟨A2, c2, w', hrun, by simpa [ON, ival] using h2, (Below.refl base w).grown h3 hbase fun k hk => (World.ownsRow.lt hown k hk).1⟩

theorem wpList_append1 {P : Program} (w : World) {ops : Array Oper} {rest : List Oper} {o : Oper} {a : Act} {Q : Exit → Act → World → Prop} (hgd : o.guard = none) (s x : Operand) (t : TypeId)
    (ho : o.op = .call { callee := .builtin .append, args := #[s, x], argTypes := #[t, t] })
    (base : Nat) (e : TypeId) (k : IntKind) (bytes : Nat) (ht : P.underlying t = some (.slice e)) (hinfo : (P.info? e).map (fun i => (i.zero, i.size, i.bytes)) = some (some (.int k 0), 1, bytes))
    (A : Option Addr) (n c : Nat) (l : List Nat) (hs : a.eval s = .slice A n c) (hown : ON w base e k A n c l)
    (g : Nat) (t' : TypeId) (y : Nat) (hx : a.eval x = .slice (some ⟨g, 0, none⟩) 1 1) (hr : Blk w g t' #[.int k (y : Int)])
    (h63 : n + 1 ≤ maxLen) (hsz : (n + 1) * bytes ≤ 140737488355328) (hbase : base ≤ w.heap.size)
    (h : ∀ A2 c2 w', ON w' base e k A2 (n + 1) c2 (l ++ [y]) → Below base w w' → wpList P ops Q rest (a.put o.dst (.slice A2 (n + 1) c2)) w') : wpList P ops Q (o :: rest) a w := by
  refine wpList_plain hgd fun K hK => ?_
  obtain ⟨A2, c2, w', hrun, h2, h3⟩ := run_append1 (P := P) w base t o.type e k bytes ht hinfo A n c l hown g t' y hr h63 hsz hbase
  unfold Oper.wp execOp
  simp only [ho, resolve, invoke, builtin, Sem.run_bind, Sem.run_pure, Result.andThen_ok, List.map_toArray, List.map_cons, List.map_nil, hs, hx, hrun]
  exact hK _ _ (h A2 c2 w' h2 h3)
end Go.Proofs.Ythebemikhjglbaa

namespace Go.Proofs.Ythebemikhjglbaa
open Go.RowKit

/-- A number by the class. -/
def byWide (wide : Bool) (x y : Nat) : Nat := if wide then y else x
def hSize (wide : Bool) : Nat := byWide wide 52 64
def ifSome (b : Bool) (n : Nat) : Nat := if b then n else 0
def u64s (l : List Nat) : Array Value := (l.map fun n : Nat => Value.int .u64 (n : Int)).toArray
def i64s (l : List Nat) : Array Value := (l.map fun n : Nat => Value.int .i64 (n : Int)).toArray

theorem one_u64s (l : List Nat) : (u64s l).all (·.oneCell') = true := by simp [u64s, Value.oneCell']
theorem one_i64s (l : List Nat) : (i64s l).all (·.oneCell') = true := by simp [i64s, Value.oneCell']
theorem ifSome_le (b : Bool) (n : Nat) : ifSome b n ≤ n := by cases b <;> simp [ifSome]
theorem byWide_le (b : Bool) (x y m : Nat) (hx : x ≤ m) (hy : y ≤ m) : byWide b x y ≤ m := by cases b <;> simp [byWide, *]
theorem byWide_pow (b : Bool) (x : Nat) (h : x < 256 ^ byWide b 4 8) : x < 18446744073709551616 := by
  cases b
  · exact Nat.lt_of_lt_of_le h (by decide)
  · exact h
theorem some_of {x : Nat} (h : x ≠ 0) : ((x : Int) != 0) = true := by simp; omega
theorem idx_u64s (l : List Nat) (k : Nat) (h : k < l.length) : (u64s l)[k]? = some (.int .u64 (l.getD k 0 : Nat)) := by simp [u64s, h]
theorem idx_i64s (l : List Nat) (k : Nat) (h : k < l.length) : (i64s l)[k]? = some (.int .i64 (l.getD k 0 : Nat)) := by simp [i64s, h]

theorem list13 {l : List Nat} (h : l.length = 13) : ∃ x0 x1 x2 x3 x4 x5 x6 x7 x8 x9 x10 x11 x12, l = [x0, x1, x2, x3, x4, x5, x6, x7, x8, x9, x10, x11, x12] := by
  match l, h with
  | [x0, x1, x2, x3, x4, x5, x6, x7, x8, x9, x10, x11, x12], _ => exact ⟨_, _, _, _, _, _, _, _, _, _, _, _, _, rfl⟩

theorem arr13 {R : Array Value} (h : R.size = 13) : ∃ r0 r1 r2 r3 r4 r5 r6 r7 r8 r9 r10 r11 r12, R = #[r0, r1, r2, r3, r4, r5, r6, r7, r8, r9, r10, r11, r12] := by
  match R, h with
  | ⟨[r0, r1, r2, r3, r4, r5, r6, r7, r8, r9, r10, r11, r12]⟩, _ => exact ⟨_, _, _, _, _, _, _, _, _, _, _, _, _, rfl⟩
theorem NS.of_blkN {w : World} {B g n : Nat} {k : IntKind} {t : TypeId} {cs : Array Value} {l : List Nat} (h : Blk w g t cs) (hl : l.length = n) (hm : n ≤ maxLen) (hB : g < B) (hcs : cs = (l.map (ival k)).toArray) : NS w B k (some ⟨g, 0, none⟩) n n l := by
  subst hl
  exact NS.of_blk (B := B) h hcs hB hm
theorem NS.of_blk13 {w : World} {B g : Nat} {k : IntKind} {t : TypeId} {cs : Array Value} {l : List Nat} (h : Blk w g t cs) (hl : l.length = 13) (hB : g < B) (hcs : cs = (l.map (ival k)).toArray) : NS w B k (some ⟨g, 0, none⟩) 13 13 l := by
  have := NS.of_blk (B := B) h hcs hB (by rw [hl]; decide)
  rwa [hl] at this

theorem OB.of_blk {w : World} {base g : Nat} {e : TypeId} {l : List UInt8} (h : Blk w g e (l.map byt).toArray) (hb : base ≤ g) (hm : l.length ≤ maxLen) : OB w base e (some ⟨g, 0, none⟩) l.length l.length l :=
  ⟨by simp, .inr ⟨g, l.length, (l.map byt).toArray, rfl, hb, h, Nat.le_refl _, hm, by simp, by simp [List.take_of_length_le]⟩⟩

/-- New memory of no bytes yet. -/
theorem OB.room (w : World) (base : Nat) (t : TypeId) (c : Nat) (v : Value) (h : c ≤ maxLen) (hb : base ≤ w.heap.size) : OB (w.alloc (.cells (Array.replicate c v) t)) base t (some ⟨w.heap.size, 0, none⟩) 0 c [] :=
  ⟨by simp, .inr ⟨w.heap.size, c, Array.replicate c v, rfl, hb, heap_alloc_new w _, Nat.zero_le _, h, by simp, by simp⟩⟩

theorem blk4 {w W : World} {t1 t2 t3 t4 : TypeId} {c1 c2 c3 c4 : Array Value} (h : (((w.alloc (.cells c1 t1)).alloc (.cells c2 t2)).alloc (.cells c3 t3)).alloc (.cells c4 t4) = W) :
    Blk W w.heap.size t1 c1 ∧ Blk W (w.heap.size + 1) t2 c2 ∧ Blk W (w.heap.size + 1 + 1) t3 c3 ∧ Blk W (w.heap.size + 1 + 1 + 1) t4 c4 ∧ Grow w W := by
  obtain ⟨h1, h2, h3, h4⟩ := blk3 (w := w) (t1 := t1) (t2 := t2) (t3 := t3) (c1 := c1) (c2 := c2) (c3 := c3) rfl
  subst h
  have h5 := Blk.new (((w.alloc (.cells c1 t1)).alloc (.cells c2 t2)).alloc (.cells c3 t3)) t4 c4
  rw [show (((w.alloc (.cells c1 t1)).alloc (.cells c2 t2)).alloc (.cells c3 t3)).heap.size = w.heap.size + 1 + 1 + 1 by simp] at h5
  exact ⟨h1.alloc _, h2.alloc _, h3.alloc _, h5, h4.trans (Grow.of_alloc _ _)⟩

theorem rowF_false {q : List (Nat × Nat)} {k : Nat} (hk : k < q.length) (h : decide (q[k].1 < 256 ^ q[k].2) = false) : rowF q = false := by
  have e : q = q.take (k + 1) ++ q.drop (k + 1) := (List.take_append_drop _ _).symm
  rw [e, rowF_append, rowF_succ q k hk, h]
  simp

theorem RB.grow {w w' : World} {A : Option Addr} {n c : Nat} {l : List UInt8} (h : RB w w.heap.size A n c l) (hg : Grow w w') : RB w' w'.heap.size A n c l := (h.belowAt hg (Nat.le_refl _)).more hg.size

/-- b[:m] -/
theorem RB.first {w : World} {B : Nat} {A : Option Addr} {n c m : Nat} {l : List UInt8} (h : RB w B A n c l) (hm : m ≤ n) : RB w B A m c (l.take m) :=
  ⟨by have := h.len; simp; omega, by have := h.cap; omega, h.max, fun hp => by
    obtain ⟨b, off, e, hb, hc⟩ := h.pos (by omega)
    exact ⟨b, off, e, hb, fun j hj => by
      have hj2 : j < l.length := by simp at hj; omega
      rw [hc j hj2]; simp⟩⟩

theorem nums_at (l : List UInt8) (big : Bool) : ∀ (ns : List Nat) (p k : Nat) (h : k < ns.length), (nums l big p ns)[k]? = some (getB ((l.drop (p + sumN (ns.take k))).take ns[k]) big)
  | [], _, _, h => absurd h (by simp)
  | n :: r, p, 0, _ => by simp [nums, sumN]
  | n :: r, p, k + 1, h => by
    have := nums_at l big r (p + n) k (by simpa using h)
    simp only [nums, List.getElem?_cons_succ, this, List.take_succ_cons, sumN, List.getElem_cons_succ, Nat.add_assoc]

/-- The first k of them are laid. -/
def laidTo (kd : IntKind) (l : List Nat) (k j : Nat) : Value := .int kd (if j < k then l.getD j 0 else 0 : Nat)
theorem laidTo_succ {kd : IntKind} {l : List Nat} {k v : Nat} (hv : l[k]? = some v) (j : Nat) : (if j = k then Value.int kd (v : Int) else laidTo kd l k j) = laidTo kd l (k + 1) j := by
  by_cases e : j = k
  · subst e
    simp [laidTo, hv]
  · rw [if_neg e]
    by_cases e2 : j < k
    · simp only [laidTo, if_pos e2, if_pos (show j < k + 1 by omega)]
    · simp only [laidTo, if_neg e2, if_neg (show ¬ j < k + 1 by omega)]
theorem blk_of_rowIs {w : World} {g : Nat} {t : TypeId} {kd : IntKind} {l : List Nat} {n : Nat} (h : w.rowIs g t n (laidTo kd l n)) (hl : l.length = n) : Blk w g t ((l.map fun x : Nat => Value.int kd (x : Int)).toArray) := by
  obtain ⟨c, hb, hn, hc⟩ := h
  have e : c = (l.map fun x : Nat => Value.int kd (x : Int)).toArray := by
    apply Array.ext_getElem?
    intro i
    by_cases hi : i < n
    · rw [hc i hi]
      simp [laidTo, hi, show i < l.length by omega]
    · rw [Array.getElem?_eq_none (by omega), Array.getElem?_eq_none (by simp; omega)]
  rw [Blk, hb, e]

theorem results_cell2 {fn : Func} {p q : Tmp} {ty ty' : TypeId} (h : fn.results = #[.cell p ty, .cell q ty']) (tmps : Array Value) {P : Program} (w : World) (g g' : Nat) (u v : Value)
    (hp : tmps.getD p undef = .pointer (some ⟨g, 0, none⟩)) (hq : tmps.getD q undef = .pointer (some ⟨g', 0, none⟩)) (hu : (loadVar ty ⟨g, 0, none⟩).run P w = .ok u w) (hv : (loadVar ty' ⟨g', 0, none⟩).run P w = .ok v w) :
    (results fn tmps).run P w = .ok (.tuple #[u, v]) w := by
  have hp' : tmps[p]?.getD undef = .pointer (some ⟨g, 0, none⟩) := by simpa using hp
  have hq' : tmps[q]?.getD undef = .pointer (some ⟨g', 0, none⟩) := by simpa using hq
  simp [results, h, hp', hq', asAddr, hu, hv]

theorem leap_eq : Leap (fun w W : World => W = w) := ⟨fun _ => rfl, fun _ _ _ h k => k.trans h⟩

theorem list2 {l : List Nat} (h : l.length = 2) : ∃ x0 x1, l = [x0, x1] := by
  match l, h with
  | [x0, x1], _ => exact ⟨_, _, rfl⟩
theorem arr2 {R : Array Value} (h : R.size = 2) : ∃ r0 r1, R = #[r0, r1] := by
  match R, h with
  | ⟨[r0, r1]⟩, _ => exact ⟨_, _, rfl⟩
theorem list3 {l : List Nat} (h : l.length = 3) : ∃ x0 x1 x2, l = [x0, x1, x2] := by
  match l, h with
  | [x0, x1, x2], _ => exact ⟨_, _, _, rfl⟩
theorem arr3 {R : Array Value} (h : R.size = 3) : ∃ r0 r1 r2, R = #[r0, r1, r2] := by
  match R, h with
  | ⟨[r0, r1, r2]⟩, _ => exact ⟨_, _, _, rfl⟩
theorem list6 {l : List Nat} (h : l.length = 6) : ∃ x0 x1 x2 x3 x4 x5, l = [x0, x1, x2, x3, x4, x5] := by
  match l, h with
  | [x0, x1, x2, x3, x4, x5], _ => exact ⟨_, _, _, _, _, _, rfl⟩
theorem arr6 {R : Array Value} (h : R.size = 6) : ∃ r0 r1 r2 r3 r4 r5, R = #[r0, r1, r2, r3, r4, r5] := by
  match R, h with
  | ⟨[r0, r1, r2, r3, r4, r5]⟩, _ => exact ⟨_, _, _, _, _, _, rfl⟩
theorem list8 {l : List Nat} (h : l.length = 8) : ∃ x0 x1 x2 x3 x4 x5 x6 x7, l = [x0, x1, x2, x3, x4, x5, x6, x7] := by
  match l, h with
  | [x0, x1, x2, x3, x4, x5, x6, x7], _ => exact ⟨_, _, _, _, _, _, _, _, rfl⟩
theorem arr8 {R : Array Value} (h : R.size = 8) : ∃ r0 r1 r2 r3 r4 r5 r6 r7, R = #[r0, r1, r2, r3, r4, r5, r6, r7] := by
  match R, h with
  | ⟨[r0, r1, r2, r3, r4, r5, r6, r7]⟩, _ => exact ⟨_, _, _, _, _, _, _, _, rfl⟩
theorem list10 {l : List Nat} (h : l.length = 10) : ∃ x0 x1 x2 x3 x4 x5 x6 x7 x8 x9, l = [x0, x1, x2, x3, x4, x5, x6, x7, x8, x9] := by
  match l, h with
  | [x0, x1, x2, x3, x4, x5, x6, x7, x8, x9], _ => exact ⟨_, _, _, _, _, _, _, _, _, _, rfl⟩
theorem arr10 {R : Array Value} (h : R.size = 10) : ∃ r0 r1 r2 r3 r4 r5 r6 r7 r8 r9, R = #[r0, r1, r2, r3, r4, r5, r6, r7, r8, r9] := by
  match R, h with
  | ⟨[r0, r1, r2, r3, r4, r5, r6, r7, r8, r9]⟩, _ => exact ⟨_, _, _, _, _, _, _, _, _, _, rfl⟩
theorem Blk.c6 {w : World} {g : Nat} {t : TypeId} {a0 a1 a2 a3 a4 a5 : Value} (h : Blk w g t #[a0, a1, a2, a3, a4, a5]) :
    w.cell? ⟨g, 0, none⟩ = some a0 ∧ w.cell? ⟨g, 1, none⟩ = some a1 ∧ w.cell? ⟨g, 2, none⟩ = some a2 ∧ w.cell? ⟨g, 3, none⟩ = some a3 ∧ w.cell? ⟨g, 4, none⟩ = some a4 ∧ w.cell? ⟨g, 5, none⟩ = some a5 :=
  ⟨h.at 0, h.at 1, h.at 2, h.at 3, h.at 4, h.at 5⟩
theorem Blk.c8 {w : World} {g : Nat} {t : TypeId} {a0 a1 a2 a3 a4 a5 a6 a7 : Value} (h : Blk w g t #[a0, a1, a2, a3, a4, a5, a6, a7]) :
    w.cell? ⟨g, 0, none⟩ = some a0 ∧ w.cell? ⟨g, 1, none⟩ = some a1 ∧ w.cell? ⟨g, 2, none⟩ = some a2 ∧ w.cell? ⟨g, 3, none⟩ = some a3 ∧ w.cell? ⟨g, 4, none⟩ = some a4 ∧ w.cell? ⟨g, 5, none⟩ = some a5 ∧ w.cell? ⟨g, 6, none⟩ = some a6 ∧ w.cell? ⟨g, 7, none⟩ = some a7 :=
  ⟨h.at 0, h.at 1, h.at 2, h.at 3, h.at 4, h.at 5, h.at 6, h.at 7⟩
theorem Blk.c10 {w : World} {g : Nat} {t : TypeId} {a0 a1 a2 a3 a4 a5 a6 a7 a8 a9 : Value} (h : Blk w g t #[a0, a1, a2, a3, a4, a5, a6, a7, a8, a9]) :
    w.cell? ⟨g, 0, none⟩ = some a0 ∧ w.cell? ⟨g, 1, none⟩ = some a1 ∧ w.cell? ⟨g, 2, none⟩ = some a2 ∧ w.cell? ⟨g, 3, none⟩ = some a3 ∧ w.cell? ⟨g, 4, none⟩ = some a4 ∧ w.cell? ⟨g, 5, none⟩ = some a5 ∧ w.cell? ⟨g, 6, none⟩ = some a6 ∧ w.cell? ⟨g, 7, none⟩ = some a7 ∧ w.cell? ⟨g, 8, none⟩ = some a8 ∧ w.cell? ⟨g, 9, none⟩ = some a9 :=
  ⟨h.at 0, h.at 1, h.at 2, h.at 3, h.at 4, h.at 5, h.at 6, h.at 7, h.at 8, h.at 9⟩
/-- The cells of numbers of the call's own, in every world that keeps their block. -/
theorem ON.cells {w : World} {base : Nat} {e : TypeId} {k : IntKind} {A : Option Addr} {n c : Nat} {l : List Nat} (h : ON w base e k A n c l) (hn : 0 < n) :
    ∃ g cs, A = some ⟨g, 0, none⟩ ∧ base ≤ g ∧ Blk w g e cs ∧ n ≤ c ∧ ∀ W, Blk W g e cs → ∀ (j : Nat) (y : Nat), j < n → l[j]? = some y → W.cell? ⟨g, j, none⟩ = some (.int k (y : Int)) := by
  rcases h.2 with ⟨_, h0⟩ | ⟨g, cap, cur, hv, hg, hh, hnc, hcm, hsz, htk⟩
  · omega
  · injection hv with hA _ hc
    refine ⟨g, cur, hA, hg, hh, by omega, fun W hW j y hj hy => ?_⟩
    rw [hW.at]
    have e1 : (cur.toList.take (n * 1))[j]? = some (Value.int k (y : Int)) := by
      rw [htk, List.getElem?_map, hy]; rfl
    rw [List.getElem?_take_of_lt (by omega)] at e1
    simpa using e1
end Go.Proofs.Ythebemikhjglbaa

namespace Go.Proofs.Ythebemikhjglbaa

structure Pl where
  inn : Int
  off : Nat
  size : Nat
  own : List UInt8
structure Sg where
  typ : Nat
  flags : Nat
  vaddr : Nat
  paddr : Nat
  memsz : Nat
  align : Nat
  pl : Pl
structure Se where
  name : Nat
  typ : Nat
  flags : Nat
  addr : Nat
  size : Nat
  link : Nat
  info : Nat
  align : Nat
  entsize : Nat
  pl : Pl
structure Md where
  wide : Bool
  big : Bool
  osabi : Nat
  abi : Nat
  typ : Nat
  mach : Nat
  flags : Nat
  entry : Nat
  segs : List Sg
  secs : List Se
  str : Int
def pl0 : Pl := ⟨0, 0, 0, []⟩
def sg0 : Sg := ⟨0, 0, 0, 0, 0, 0, pl0⟩
def se0 : Se := ⟨0, 0, 0, 0, 0, 0, 0, 0, 0, pl0⟩
instance : Inhabited Sg := ⟨sg0⟩
instance : Inhabited Se := ⟨se0⟩

/-- The numbers fit their types. -/
def I64 (i : Int) : Prop := -9223372036854775808 ≤ i ∧ i ≤ 9223372036854775807
structure Pl.Ok (p : Pl) : Prop where
  inn : I64 p.inn
  off : p.off < 18446744073709551616
  size : p.size < 18446744073709551616
structure Sg.Ok (s : Sg) : Prop where
  typ : s.typ < 4294967296
  flags : s.flags < 4294967296
  vaddr : s.vaddr < 18446744073709551616
  paddr : s.paddr < 18446744073709551616
  memsz : s.memsz < 18446744073709551616
  align : s.align < 18446744073709551616
  pl : s.pl.Ok
structure Se.Ok (s : Se) : Prop where
  name : s.name < 4294967296
  typ : s.typ < 4294967296
  flags : s.flags < 18446744073709551616
  addr : s.addr < 18446744073709551616
  size : s.size < 18446744073709551616
  link : s.link < 4294967296
  info : s.info < 4294967296
  align : s.align < 18446744073709551616
  entsize : s.entsize < 18446744073709551616
  pl : s.pl.Ok
structure Md.Ok (m : Md) : Prop where
  osabi : m.osabi < 256
  abi : m.abi < 256
  typ : m.typ < 65536
  mach : m.mach < 65536
  flags : m.flags < 4294967296
  entry : m.entry < 18446744073709551616
  segs : ∀ s ∈ m.segs, s.Ok
  secs : ∀ s ∈ m.secs, s.Ok
  str : I64 m.str

/-- Whether there is a segment of that number; that one. -/
def isSegN (n : Nat) (i : Int) : Bool := decide (0 ≤ i ∧ i < n)
def Md.seg (m : Md) (i : Int) : Sg := m.segs.getD i.toNat sg0
/-- Whether a place's bytes are within n. -/
def Pl.within (p : Pl) (n : Nat) : Bool := decide (p.off + p.size ≤ n)
/-- A place may be. -/
def Pl.ownMay (p : Pl) : Bool := decide (p.off = 0) && decide (p.size = p.own.length)
def Pl.inMay (p : Pl) (n : Nat) : Bool := decide (p.own.length = 0) && decide (0 < p.size) && p.within n
def Md.may (m : Md) (p : Pl) : Bool :=
  if p.inn = -1 then p.ownMay else isSegN m.segs.length p.inn && decide ((m.seg p.inn).typ = 1) && p.inMay (m.seg p.inn).pl.own.length
/-- The bytes at a place. -/
def Md.bytes (m : Md) (p : Pl) : List UInt8 :=
  if p.inn = -1 then p.own else if isSegN m.segs.length p.inn && p.within (m.seg p.inn).pl.own.length then (((m.seg p.inn).pl.own).drop p.off).take p.size else []

/-- The last address. -/
def lastA (wide : Bool) : Nat := byWide wide 4294967295 18446744073709551615
/-- A segment goes on beyond it. -/
def Sg.wraps (s : Sg) (wide : Bool) : Bool := decide (0 < s.memsz) && !decide (s.vaddr + (s.memsz - 1) ≤ lastA wide)
/-- What is wrong with a segment first (0: nothing). -/
def Md.segC (m : Md) (s : Sg) : Nat :=
  if 1 < ones s.align then 6 else if m.may s.pl = false then 1 else if s.typ ≠ 1 then 0 else if s.pl.inn ≠ -1 then 1 else if s.memsz < s.pl.size then 5 else if s.wraps m.wide = true then 12 else 0
/-- The first of a list that isn't 0. -/
def fstC {α : Type} (f : α → Nat) : List α → Nat
  | [] => 0
  | a :: r => if f a = 0 then fstC f r else f a
/-- The stretches that are loaded. -/
def loadOf (s : Sg) : List (Nat × Nat) := if s.typ = 1 then [(s.vaddr, s.memsz)] else []
def loads (l : List Sg) : List (Nat × Nat) := l.flatMap loadOf
def Md.segsC (m : Md) : Nat := if fstC m.segC m.segs = 0 then (if rises (loads m.segs) then 0 else 7) else fstC m.segC m.segs
/-- How many bytes a section has in the file. -/
def Se.held (s : Se) : Nat := if s.typ = 0 ∨ s.typ = 8 then 0 else s.size
def Md.secC (m : Md) (s : Se) : Nat := if m.may s.pl = false then 1 else if s.pl.size ≠ s.held then 1 else if m.secs.length < s.link then 10 else 0
def Md.secsC (m : Md) : Nat := fstC m.secC m.secs
def Md.tab (m : Md) : Se := m.secs.getD (m.str - 1).toNat se0
def Md.named (m : Md) : Bool :=
  if m.str = 0 then m.secs.all fun s => decide (s.name = 0)
  else decide (m.tab.typ = 3) && decide (m.tab.pl.inn = -1) && m.secs.all fun s => (nameAt m.tab.pl.own s.name).isSome
def Md.namesC (m : Md) : Nat := if m.str < 0 then 10 else if (m.secs.length : Int) < m.str then 10 else if m.named then 0 else 9
def Md.large (m : Md) : Bool := decide (16 < m.segs.length) || decide (64 < m.secs.length)
/-- The numbers that must fit the class. -/
def Sg.nums (s : Sg) : List Nat := [s.vaddr, s.paddr, s.memsz, s.align]
def Se.nums (s : Se) : List Nat := [s.flags, s.addr, s.size, s.align, s.entsize]
def Md.nums (m : Md) : List Nat := m.entry :: (m.segs.flatMap Sg.nums ++ m.secs.flatMap Se.nums)
def fitW (wide : Bool) (v : Nat) : Bool := decide (v < 256 ^ byWide wide 4 8)
def Md.fits (m : Md) : Bool := m.nums.all (fitW m.wide)
/-- What is wrong with a model first (0: nothing). -/
def Md.chk (m : Md) : Nat :=
  if m.large then 8 else if m.fits = false then 1 else if m.segsC ≠ 0 then m.segsC else if m.secsC ≠ 0 then m.secsC else m.namesC

theorem fstC_zero {α : Type} {f : α → Nat} : ∀ {l : List α}, fstC f l = 0 ↔ ∀ a ∈ l, f a = 0
  | [] => by simp [fstC]
  | a :: r => by
    rw [fstC]
    have ih := fstC_zero (f := f) (l := r)
    by_cases h : f a = 0
    · rw [if_pos h, ih]
      constructor
      · intro h1 x hx
        rcases List.mem_cons.1 hx with e | e
        · exact e ▸ h
        · exact h1 x e
      · intro h1 x hx
        exact h1 x (List.mem_cons_of_mem _ hx)
    · rw [if_neg h]
      exact ⟨fun h1 => absurd h1 h, fun h1 => absurd (h1 a (by simp)) h⟩
/-- The first that isn't 0 is the one behind k that are. -/
theorem fstC_at {α : Type} {f : α → Nat} : ∀ {l : List α} {k : Nat} (h : k < l.length), (∀ a ∈ l.take k, f a = 0) → f l[k] ≠ 0 → fstC f l = f l[k]
  | a :: r, 0, _, _, h2 => by rw [fstC, if_neg (by simpa using h2)]; rfl
  | a :: r, k + 1, h, h1, h2 => by
    rw [fstC, if_pos (h1 a (by simp))]
    exact fstC_at (by simpa using h) (fun x hx => h1 x (by simp [hx])) (by simpa using h2)
theorem takeS {α : Type} (l : List α) (k : Nat) (h : k < l.length) : l.take (k + 1) = l.take k ++ [l[k]] := by
  rw [List.take_add_one, List.getElem?_eq_getElem h]; rfl

theorem loads_snoc (l : List Sg) (k : Nat) (h : k < l.length) : loads (l.take (k + 1)) = loads (l.take k) ++ loadOf l[k] := by
  rw [takeS l k h, loads, List.flatMap_append]
  simp [loads]

/-- What a model that may be is. -/
theorem Md.chk_zero {m : Md} (h : m.chk = 0) : (∀ s ∈ m.segs, m.segC s = 0) ∧ rises (loads m.segs) = true ∧ (∀ s ∈ m.secs, m.secC s = 0) := by
  unfold Md.chk at h
  split at h
  · omega
  split at h
  · omega
  split at h
  · rename_i h1
    omega
  split at h
  · rename_i h1
    omega
  · rename_i h1 h2
    have h1 : m.segsC = 0 := by omega
    have h2 : m.secsC = 0 := by omega
    unfold Md.segsC at h1
    split at h1
    · rename_i h3
      refine ⟨fstC_zero.1 h3, ?_, fstC_zero.1 h2⟩
      split at h1
      · assumption
      · omega
    · rename_i h3
      exact absurd h1 h3
theorem Md.may_len {m : Md} {p : Pl} (h : m.may p = true) : (m.bytes p).length = p.size := by
  unfold Md.may at h
  unfold Md.bytes
  split
  · rename_i h0
    rw [if_pos h0] at h
    unfold Pl.ownMay at h
    simp at h
    exact h.2.symm
  · rename_i h0
    rw [if_neg h0] at h
    unfold Pl.inMay at h
    simp only [Bool.and_eq_true] at h
    rw [if_pos (by rw [Bool.and_eq_true]; exact ⟨h.1.1, h.2.2⟩)]
    have := h.2.2
    unfold Pl.within at this
    simp at this
    rw [List.length_take, List.length_drop]
    omega
theorem Md.segC_zero {m : Md} {s : Sg} (ok : s.Ok) (h : m.segC s = 0) : m.may s.pl = true ∧ (s.typ = 1 → (1 < s.align → s.align % 2 = 0) ∧ s.pl.own.length ≤ s.memsz) := by
  unfold Md.segC at h
  split at h
  · omega
  split at h
  · omega
  rename_i h1 h2
  have hm : m.may s.pl = true := by simpa using h2
  refine ⟨hm, fun ht => ⟨fun ha => ones_even ok.align (by omega) ha, ?_⟩⟩
  rw [if_neg (by simp [ht])] at h
  split at h
  · omega
  split at h
  · omega
  · rename_i h3 h4
    have hl := Md.may_len hm
    unfold Md.bytes at hl
    rw [if_pos (by omega)] at hl
    omega
theorem Md.secC_zero {m : Md} {s : Se} (h : m.secC s = 0) : m.may s.pl = true ∧ s.pl.size = s.held := by
  unfold Md.secC at h
  split at h
  · omega
  split at h
  · omega
  · rename_i h1 h2
    exact ⟨by simpa using h1, by omega⟩

/-- Of rising stretches each begins at or behind the one ahead of it. -/
theorem belowN_le {a n v : Nat} (ha : a < 18446744073709551616) (h : belowN a n v = true) : a ≤ v := by
  unfold belowN lastN at h
  split at h
  · simpa using h
  · simp at h
    omega
theorem mem_loads {l : List Sg} {x : Nat × Nat} (h : x ∈ loads l) : ∃ s ∈ l, s.typ = 1 ∧ x = (s.vaddr, s.memsz) := by
  unfold loads at h
  obtain ⟨s, hs, hx⟩ := List.mem_flatMap.1 h
  unfold loadOf at hx
  split at hx
  · rename_i ht
    exact ⟨s, hs, ht, by simpa using hx⟩
  · simp at hx
/-- The last of the first k that are loaded. -/
def lastV (l : List Sg) (k : Nat) : Nat := ((loads (l.take k)).getLast?.getD (0, 0)).1
theorem lastV_step (l : List Sg) (k : Nat) (h : k < l.length) : lastV l (k + 1) = if l[k].typ = 1 then l[k].vaddr else lastV l k := by
  unfold lastV
  rw [loads_snoc l k h, loadOf]
  split
  · simp
  · simp
theorem lastV_le {l : List Sg} {k : Nat} (ok : ∀ s ∈ l, s.Ok) (hu : rises (loads l) = true) (h : k < l.length) (ht : l[k].typ = 1) : lastV l k ≤ l[k].vaddr := by
  unfold lastV
  have hU := (rises_iff _).1 hu
  have e : l = l.take k ++ l[k] :: l.drop (k + 1) := by
    rw [List.getElem_cons_drop, List.take_append_drop]
  have e2 : loads l = loads (l.take k) ++ (l[k].vaddr, l[k].memsz) :: loads (l.drop (k + 1)) := by
    conv => lhs; rw [e]
    unfold loads
    rw [List.flatMap_append, List.flatMap_cons]
    simp [loadOf, ht]
  have hmem : ∀ x ∈ loads (l.take k), x.1 < 18446744073709551616 := fun x hx => by
    obtain ⟨s, hs, _, rfl⟩ := mem_loads hx
    exact (ok s (List.mem_of_mem_take hs)).vaddr
  rw [e2] at hU
  generalize loads (l.take k) = L at hU hmem ⊢
  rcases Nat.eq_zero_or_pos L.length with h0 | h0
  · rw [List.eq_nil_of_length_eq_zero h0]
    simp
  · have hb := hU L.length h0 (by simp)
    unfold belowAt at hb
    rw [List.getD_eq_getElem?_getD, List.getElem?_append_left (by omega), List.getD_eq_getElem?_getD, List.getElem?_append_right (Nat.le_refl _)] at hb
    simp only [Nat.sub_self, List.getElem?_cons_zero, Option.getD_some] at hb
    rw [List.getLast?_eq_getElem?]
    have hm2 := hmem (L[L.length - 1]) (List.getElem_mem _)
    rw [List.getElem?_eq_getElem (by omega)] at hb ⊢
    exact belowN_le hm2 hb
/-- A model without segments, sections and Str. -/
theorem Md.chk_bare {m : Md} (h1 : m.segs = []) (h2 : m.secs = []) (h3 : m.str = 0) : m.chk = if fitW m.wide m.entry then 0 else 1 := by
  unfold Md.chk Md.large Md.fits Md.nums Md.segsC Md.secsC Md.namesC Md.named
  rw [h1, h2, h3]
  cases hf : fitW m.wide m.entry <;> simp [fstC, loads, rises, hf]
end Go.Proofs.Ythebemikhjglbaa

namespace Go.Proofs.Ythebemikhjglbaa
open Go.RowKit

theorem wpList_appendZ {P : Program} (w : World) {ops : Array Oper} {rest : List Oper} {o : Oper} {a : Act} {Q : Exit → Act → World → Prop} (hgd : o.guard = none) (s x : Operand) (t : TypeId)
    (ho : o.op = .call { callee := .builtin .append, args := #[s, x], argTypes := #[t, t] })
    (base : Nat) (e : TypeId) (zv : Value) (z bytes : Nat) (ht : P.underlying t = some (.slice e)) (hinfo : (P.info? e).map (fun i => (i.zero, i.size, i.bytes)) = some (some zv, z, bytes)) (hzs : zv.cells.size = z) (hz0 : 0 < z)
    (A : Option Addr) (n c : Nat) (l : List (Array Value)) (hs : a.eval s = .slice A n c) (hown : ZO w base e z A n c l)
    (g : Nat) (t' : TypeId) (r : Array Value) (hx : a.eval x = .slice (some ⟨g, 0, none⟩) 1 1) (hr : Blk w g t' r) (hrz : r.size = z) (h1 : r.all (·.oneCell') = true)
    (h63 : n + 1 ≤ maxLen) (hsz : (n + 1) * bytes ≤ 140737488355328) (hbase : base ≤ w.heap.size)
    (h : ∀ A2 c2 w', ZO w' base e z A2 (n + 1) c2 (l ++ [r]) → w.grownBy w' (own A) → (own A2 = own A ∨ own A2 = some w.heap.size) → wpList P ops Q rest (a.put o.dst (.slice A2 (n + 1) c2)) w') : wpList P ops Q (o :: rest) a w := by
  refine wpList_plain hgd fun K hK => ?_
  refine wp_appendZ w s x t ho base e zv z bytes ht hinfo hzs hz0 A n c l hs hown g t' r hx hr hrz h1 h63 hsz hbase fun A2 c2 w' h2 h3 h4 => ?_
  exact hK _ _ (h A2 c2 w' h2 h3 h4)
/-- A store into another block leaves rows of the call's own. -/
theorem ZO.other {w : World} {base : Nat} {e : TypeId} {z : Nat} {A : Option Addr} {n c : Nat} {l : List (Array Value)} (h : ZO w base e z A n c l) {g : Nat} (hg : own A ≠ some g) (cs : Array Value) : ZO (w.setRow g cs) base e z A n c l := by
  refine ⟨⟨h.1.1, ?_⟩, h.2⟩
  rcases h.1.2 with h0 | ⟨g', cap, cur, hv, hb, hh, r⟩
  · exact .inl h0
  · refine .inr ⟨g', cap, cur, hv, hb, ?_, r⟩
    injection hv with e1 _ _
    subst e1
    have hne : g' ≠ g := fun e => hg (by rw [e]; rfl)
    rw [setRow_other w g g' cs (by omega)]
    exact hh
end Go.Proofs.Ythebemikhjglbaa

namespace Go.Proofs.Ythebemikhjglbaa
open Go.RowKit

/-- A kind of struct that holds one slice of bytes: how many cells, the cells, the bytes. -/
structure RK (α : Type) where
  z : Nat
  cs : α → Value → Array Value
  by_ : α → List UInt8
def sgC (g : Sg) (s : Value) : Array Value := #[.int .u32 (g.typ : Nat), .int .u32 (g.flags : Nat), .int .u64 (g.vaddr : Nat), .int .u64 (g.paddr : Nat), .int .u64 (g.memsz : Nat), .int .u64 (g.align : Nat), .int .i64 g.pl.inn, .int .u64 (g.pl.off : Nat), .int .u64 (g.pl.size : Nat), s]
def seC (g : Se) (s : Value) : Array Value := #[.int .u32 (g.name : Nat), .int .u32 (g.typ : Nat), .int .u64 (g.flags : Nat), .int .u64 (g.addr : Nat), .int .u64 (g.size : Nat), .int .u32 (g.link : Nat), .int .u32 (g.info : Nat), .int .u64 (g.align : Nat), .int .u64 (g.entsize : Nat), .int .i64 g.pl.inn, .int .u64 (g.pl.off : Nat), .int .u64 (g.pl.size : Nat), s]
def plC (p : Pl) (s : Value) : Array Value := #[.int .i64 p.inn, .int .u64 (p.off : Nat), .int .u64 (p.size : Nat), s]
def mdC (m : Md) (s t : Value) : Array Value := #[.bool m.wide, .bool m.big, .int .u8 (m.osabi : Nat), .int .u8 (m.abi : Nat), .int .u16 (m.typ : Nat), .int .u16 (m.mach : Nat), .int .u32 (m.flags : Nat), .int .u64 (m.entry : Nat), s, t, .int .i64 m.str]
def sgK : RK Sg := ⟨10, sgC, fun g => g.pl.own⟩
def seK : RK Se := ⟨13, seC, fun g => g.pl.own⟩

/-- The row r reads as a. -/
def RR {α : Type} (K : RK α) (w : World) (B : Nat) (r : Array Value) (a : α) : Prop := ∃ A n c, r = K.cs a (.slice A n c) ∧ RB w B A n c (K.by_ a)
/-- The slice (A, n, c) reads as L. -/
def ZR {α : Type} (K : RK α) (w : World) (B : Nat) (A : Option Addr) (n c : Nat) (L : List α) : Prop := ∃ R, ZS w B K.z A n c R ∧ R.length = L.length ∧ ∀ j (h : j < R.length) (h' : j < L.length), RR K w B R[j] L[j]

section
variable {α : Type} {K : RK α} {w w' : World} {B B0 B' : Nat} {A : Option Addr} {n c : Nat} {L : List α} {r : Array Value} {s : α}
theorem RR.belowAt (h : RR K w B r s) (hb : Below B0 w w') (hB : B ≤ B0) : RR K w' B r s := by
  obtain ⟨A, n, c, e, h1⟩ := h
  exact ⟨A, n, c, e, h1.belowAt hb hB⟩
theorem RR.more (h : RR K w B r s) (hB : B ≤ B') : RR K w B' r s := by
  obtain ⟨A, n, c, e, h1⟩ := h
  exact ⟨A, n, c, e, h1.more hB⟩
theorem ZR.belowAt (h : ZR K w B A n c L) (hb : Below B0 w w') (hB : B ≤ B0) : ZR K w' B A n c L := by
  obtain ⟨R, h1, h2, h3⟩ := h
  exact ⟨R, h1.belowAt hb hB, h2, fun j h h' => (h3 j h h').belowAt hb hB⟩
theorem ZR.more (h : ZR K w B A n c L) (hB : B ≤ B') : ZR K w B' A n c L := by
  obtain ⟨R, h1, h2, h3⟩ := h
  exact ⟨R, h1.more hB, h2, fun j h h' => (h3 j h h').more hB⟩
theorem ZR.grow (h : ZR K w w.heap.size A n c L) (hg : Grow w w') : ZR K w' w'.heap.size A n c L := (h.belowAt hg (Nat.le_refl _)).more hg.size
theorem ZR.len (h : ZR K w B A n c L) : n = L.length := by
  obtain ⟨R, h1, h2, _⟩ := h
  exact h1.len.trans h2
theorem ZR.cap (h : ZR K w B A n c L) : n ≤ c := by
  obtain ⟨R, h1, h2, _⟩ := h
  exact h1.cap
theorem ZR.max (h : ZR K w B A n c L) : c ≤ maxLen := by
  obtain ⟨R, h1, h2, _⟩ := h
  exact h1.max
theorem ZR.nil : ZR K w B none 0 0 [] := ⟨[], ZS.nil, rfl, fun j h => absurd h (by simp)⟩
theorem ZR.pos (h : ZR K w B A n c L) (hn : 0 < n) : ∃ b off, A = some ⟨b, off, none⟩ ∧ b < B := by
  obtain ⟨R, h1, h2, _⟩ := h
  obtain ⟨b, off, e, hb, _⟩ := h1.pos hn
  exact ⟨b, off, e, hb⟩
/-- One of them: its cells, and its bytes; and the row for a load of the whole. -/
theorem ZR.row (h : ZR K w B A n c L) : ∃ R, ZS w B K.z A n c R ∧ ∀ k (hk : k < L.length), ∃ (hR : k < R.length), ∃ A1 n1 c1, R[k] = K.cs L[k] (.slice A1 n1 c1) ∧ RB w B A1 n1 c1 (K.by_ L[k]) := by
  obtain ⟨R, h1, h2, h3⟩ := h
  refine ⟨R, h1, fun k hk => ?_⟩
  have hkR : k < R.length := by rw [h2]; exact hk
  exact ⟨hkR, h3 k hkR hk⟩
theorem ZR.at {b off k : Nat} (h : ZR K w B (some ⟨b, off, none⟩) n c L) (hk : k < L.length) : ∃ A1 n1 c1, b < B ∧
    (∀ i v, (K.cs L[k] (.slice A1 n1 c1))[i]? = some v → w.cell? ⟨b, off + k * K.z + i, none⟩ = some v) ∧ RB w B A1 n1 c1 (K.by_ L[k]) := by
  obtain ⟨R, h1, h2, h3⟩ := h
  have hkR : k < R.length := by rw [h2]; exact hk
  obtain ⟨A1, n1, c1, e, r1⟩ := h3 k hkR hk
  obtain ⟨b', off', e', hb, hc⟩ := h1.pos (by have := h1.len; omega)
  injection e' with e'
  injection e' with e1 e2
  subst e1; subst e2
  exact ⟨A1, n1, c1, hb, fun i v hv => hc k hkR i v (by rw [e]; exact hv), r1⟩
end

/-- The slices of a model read as its segments and its sections. -/
structure MR (w : World) (m : Md) (A1 : Option Addr) (n1 c1 : Nat) (A2 : Option Addr) (n2 c2 : Nat) : Prop where
  segs : ZR sgK w w.heap.size A1 n1 c1 m.segs
  secs : ZR seK w w.heap.size A2 n2 c2 m.secs
theorem MR.grow {w w' : World} {m : Md} {A1 A2 : Option Addr} {n1 c1 n2 c2 : Nat} (h : MR w m A1 n1 c1 A2 n2 c2) (hg : Grow w w') : MR w' m A1 n1 c1 A2 n2 c2 := ⟨h.segs.grow hg, h.secs.grow hg⟩

/-- The number of an error as a value. -/
def eC (c : Nat) : Value := if c = 0 then .nilIface else .iface 61 (.int .i64 (c : Int))
theorem eC_zero : eC 0 = .nilIface := rfl
theorem eC_some {c : Nat} (h : c ≠ 0) : eC c = .iface 61 (.int .i64 (c : Int)) := if_neg h

theorem Blk.c11 {w : World} {g : Nat} {t : TypeId} {a0 a1 a2 a3 a4 a5 a6 a7 a8 a9 a10 : Value} (h : Blk w g t #[a0, a1, a2, a3, a4, a5, a6, a7, a8, a9, a10]) :
    w.cell? ⟨g, 0, none⟩ = some a0 ∧ w.cell? ⟨g, 1, none⟩ = some a1 ∧ w.cell? ⟨g, 2, none⟩ = some a2 ∧ w.cell? ⟨g, 3, none⟩ = some a3 ∧ w.cell? ⟨g, 4, none⟩ = some a4 ∧ w.cell? ⟨g, 5, none⟩ = some a5 ∧ w.cell? ⟨g, 6, none⟩ = some a6 ∧ w.cell? ⟨g, 7, none⟩ = some a7 ∧ w.cell? ⟨g, 8, none⟩ = some a8 ∧ w.cell? ⟨g, 9, none⟩ = some a9 ∧ w.cell? ⟨g, 10, none⟩ = some a10 :=
  ⟨h.at 0, h.at 1, h.at 2, h.at 3, h.at 4, h.at 5, h.at 6, h.at 7, h.at 8, h.at 9, h.at 10⟩
end Go.Proofs.Ythebemikhjglbaa
