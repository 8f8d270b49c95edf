/-
  Several texts in one: A region that draws its order, walked along a given order of its operations; Blocks of cells, whole; A slice of bytes that reads as a list, and what keeps it so.
-/
import Derived.OrdersHeld
import Derived.Deep.RegionHeld3
import Derived.WalkKit
import Derived.Deep.Draws
import Derived.Deep.OwnRows
import Derived.Deep.WholeRow
import Derived.Laws.CopyRow
import Derived.Laws.Tables
import Derived.Laws.IdiomStrings
import Derived.Laws.BytesArg
import Derived.Lib.Hide
namespace Go.Proofs.Ytaianmonokeimaa
open Go.RowKit
def Grow (w w' : World) : Prop := Below w.heap.size w w'
theorem Grow.refl (w : World) : Grow w w := Below.refl _ _
theorem Grow.trans {a b c : World} (h : Grow a b) (k : Grow b c) : Grow a c := Below.trans h (Below.mono k h.size)
theorem Grow.trans' {w a b : World} (h : Grow w a) (k : Below w.heap.size a b) : Below w.heap.size w b := Below.trans h k
theorem Grow.of_drewN (w : World) (n : Nat) : Grow w (w.drewN n) := ⟨rfl, rfl, rfl, Nat.le_refl _, fun _ _ => rfl⟩
theorem Grow.of_drew (w : World) : Grow w w.drew := ⟨rfl, rfl, rfl, Nat.le_refl _, fun _ _ => rfl⟩
theorem Grow.of_alloc (w : World) (o : Obj) : Grow w (w.alloc o) := Below.alloc (Below.refl _ _) (Nat.le_refl _) o
theorem wpAnyH_weaken {P : Program} {md : Region.Mode} {ops : Array Oper} {Q : Exit → Act → World → Prop} {S S' : World → Prop} (hS : ∀ w, S' w → S w) :
  ∀ (fuel : Nat) (listed : Array Bool) (a : Act) (w : World), wpAnyH P md ops Q S' fuel listed a w → wpAnyH P md ops Q S fuel listed a w
 | 0, _, _, _, h => h
 | fuel + 1, _, _, _, h => ⟨h.1, fun i hi => wpOp_mono (fun a' w' h' => ⟨hS w' h'.1, wpAnyH_weaken hS fuel _ a' w' h'.2⟩) (h.2 i hi)⟩
abbrev Chain := List (Nat × Bool)
def Chain.after (listed : Array Bool) : Chain → Array Bool
 | [] => listed
 | p :: r => Chain.after (listed.setIfInBounds p.1 true) r
def Chain.ok (ops : Array Oper) : Chain → Array Bool → Bool
 | [], _ => true
 | (i, true) :: r, listed => Region.free .any ops listed i && (Region.ready .any ops listed).contains i && Chain.ok ops r (listed.setIfInBounds i true)
 | (i, false) :: r, listed => Region.ready .any ops listed == [i] && Chain.ok ops r (listed.setIfInBounds i true)
structure Leap (Y : World → World → Prop) : Prop where
 refl : ∀ w, Y w w
 trans : ∀ a b c, Y a b → Y b c → Y a c
theorem leap_grow : Leap Grow := ⟨Grow.refl, fun _ _ _ => Grow.trans⟩
def Bar (g : Nat) (w W : World) : Prop := w.heap.size ≤ W.heap.size ∧ ∀ k, k < w.heap.size → k ≠ g → W.heap[k]? = w.heap[k]?
theorem leap_bar (g : Nat) : Leap (Bar g) := ⟨fun _ => ⟨Nat.le_refl _, fun _ _ _ => rfl⟩, fun _ _ _ h k => ⟨Nat.le_trans h.1 k.1, fun i hi hg => (k.2 i (Nat.lt_of_lt_of_le hi h.1) hg).trans (h.2 i hi hg)⟩⟩
theorem leap_below (B : Nat) : Leap (Below B) := ⟨Below.refl B, fun _ _ _ => Below.trans⟩
theorem Bar.of_grow {g : Nat} {w W : World} (h : Grow w W) : Bar g w W := ⟨h.size, fun k hk _ => h.block k hk⟩
def wpChain (P : Program) (ops : Array Oper) (Q : Exit → Act → World → Prop) (Y : World → World → Prop) (R : Act → World → Prop) : Chain → Act → World → Prop
 | [], a, w => R a w
 | (i, true) :: r, a, w => ∃ o, ops[i]? = some o ∧ ((Region.wanted o (yielded ops a.tmps) = true ∧ ∃ v, (∀ W, Y w W → (execOp a.eval o).run P W = .ok (.value v) W) ∧ wpChain P ops Q Y R r (a.put o.dst v) w) ∨
   (Region.wanted o (yielded ops a.tmps) = false ∧ wpChain P ops Q Y R r (a.put o.dst undef) w))
 | (i, false) :: r, a, w => wpOp P ops Q i (fun a' w' => Y w w' ∧ wpChain P ops Q Y R r a' w') a w
section
variable {P : Program} {ops : Array Oper} {Q : Exit → Act → World → Prop} {Y : World → World → Prop} {R : Act → World → Prop}
theorem wpChain_sound (hy : Leap Y) (hs : Region.noSelect ops = true) (hQ : ∀ c a w, ¬ Q (.panic c) a w) (n : Nat) : ∀ (c : Chain) (listed : Array Bool) (a : Act) (w : World),
  (∀ a w, R a w → wpAnyH P .any ops Q (Y w) n (Chain.after listed c) a w) →
  Chain.ok ops c listed = true → wpChain P ops Q Y R c a w → wpAnyH P .any ops Q (Y w) (n + c.length) listed a w
 | [], listed, a, w, hR, _, h => hR a w h
 | (i, true) :: r, listed, a, w, hR, hB, h => by
  simp only [Chain.ok, Bool.and_eq_true] at hB
  obtain ⟨o, ho, hh⟩ := h
  rw [List.length_cons, ← Nat.add_assoc]
  rcases hh with ⟨hw, v, hv, hr⟩ | ⟨hw, hr⟩
  ·exact wpAnyH_take ho hs hB.1.1 hB.1.2 (fun c a w h => absurd h (hQ _ _ _)) (.inl ⟨hw, hv⟩) (hy.refl w) (wpChain_sound hy hs hQ n r _ _ w hR hB.2 hr)
  ·exact wpAnyH_take ho hs hB.1.1 hB.1.2 (fun c a w h => absurd h (hQ _ _ _)) (.inr ⟨hw, rfl⟩) (hy.refl w) (wpChain_sound hy hs hQ n r _ _ w hR hB.2 hr)
 | (i, false) :: r, listed, a, w, hR, hB, h => by
  simp only [Chain.ok, Bool.and_eq_true] at hB
  rw [List.length_cons, ← Nat.add_assoc]
  refine wpAnyH_all (rs := [i]) (by simpa using hB.1) (by simp) ?_
  intro k hk
  obtain rfl : k = i := by simpa using hk
  exact wpOp_mono (fun a' w' h' => ⟨h'.1, wpAnyH_weaken (fun W hW => hy.trans _ _ _ h'.1 hW) _ _ _ _ (wpChain_sound hy hs hQ n r _ a' w' hR hB.2 h'.2)⟩) h
theorem wp_region_leap (hy : Leap Y) {id : Nat} {a : Act} {w : World} (c : Chain) (hm : P.follows .mixedOrders = true) (hs : Region.noSelect ops = true)
  (hB : (Chain.ok ops c (Array.replicate ops.size false) && (c.length == ops.size) && (Region.ready .any ops (Chain.after (Array.replicate ops.size false) c) == [])) = true)
  (h : wpChain P ops (NoPanic Q) Y (fun a w => Q .normal a w) c a w.drew) : (Code.region id ops true).wp P Q a w := by
 simp only [Bool.and_eq_true] at hB
 have hl : c.length = ops.size := by simpa using hB.1.2
 refine wp_region_noPanic (wp_region_held (S := Y w.drew) hm ?_)
 have := wpChain_sound (P := P) (ops := ops) (Q := NoPanic Q) (Y := Y) (R := fun a w => Q .normal a w) hy hs (fun _ _ _ h => h) 0 c (Array.replicate ops.size false) a w.drew
  (fun a w h => ⟨by simpa using hB.2, h⟩) hB.1.1 h
 rw [Nat.zero_add, hl] at this
 exact this
theorem wp_region_leapfork (hy : Leap Y) {id : Nat} {a : Act} {w : World} (c : Chain) (i : Nat) (d : Chain) (j : Nat) (e : Chain) (hm : P.follows .mixedOrders = true) (hs : Region.noSelect ops = true)
  (hB : (Chain.ok ops c (Array.replicate ops.size false) && (Region.ready .any ops (Chain.after (Array.replicate ops.size false) c) == [i, j]) &&
   Chain.ok ops d ((Chain.after (Array.replicate ops.size false) c).setIfInBounds i true) && (c.length + d.length + 1 == ops.size) && (Region.ready .any ops (Chain.after ((Chain.after (Array.replicate ops.size false) c).setIfInBounds i true) d) == []) &&
   Chain.ok ops e ((Chain.after (Array.replicate ops.size false) c).setIfInBounds j true) && (c.length + e.length + 1 == ops.size) && (Region.ready .any ops (Chain.after ((Chain.after (Array.replicate ops.size false) c).setIfInBounds j true) e) == [])) = true)
  (h : wpChain P ops (NoPanic Q) Y (fun a w => wpOp P ops (NoPanic Q) i (fun a' w' => Y w w' ∧ wpChain P ops (NoPanic Q) Y (fun a w => Q .normal a w) d a' w') a w ∧
   wpOp P ops (NoPanic Q) j (fun a' w' => Y w w' ∧ wpChain P ops (NoPanic Q) Y (fun a w => Q .normal a w) e a' w') a w) c a w.drew) : (Code.region id ops true).wp P Q a w := by
 simp only [Bool.and_eq_true] at hB
 obtain ⟨⟨⟨⟨⟨⟨⟨b1, b2⟩, b3⟩, b4⟩, b5⟩, b6⟩, b7⟩, b8⟩ := hB
 have l1 : c.length + d.length + 1 = ops.size := by simpa using b4
 have l2 : c.length + e.length + 1 = ops.size := by simpa using b7
 refine wp_region_noPanic (wp_region_held (S := Y w.drew) hm ?_)
 have := wpChain_sound (P := P) (ops := ops) (Q := NoPanic Q) (Y := Y) (R := fun a w => wpOp P ops (NoPanic Q) i (fun a' w' => Y w w' ∧ wpChain P ops (NoPanic Q) Y (fun a w => Q .normal a w) d a' w') a w ∧
   wpOp P ops (NoPanic Q) j (fun a' w' => Y w w' ∧ wpChain P ops (NoPanic Q) Y (fun a w => Q .normal a w) e a' w') a w) hy hs (fun _ _ _ h => h) (d.length + 1) c (Array.replicate ops.size false) a w.drew
  (fun a w hh => by
   refine wpAnyH_all (rs := [i, j]) (by simpa using b2) (by simp) ?_
   intro k hk
   by_cases hki : k = i
   ·subst hki
    refine wpOp_mono (fun a' w' h' => ⟨h'.1, wpAnyH_weaken (fun W hW => hy.trans _ _ _ h'.1 hW) _ _ _ _ ?_⟩) hh.1
    have := wpChain_sound (P := P) (ops := ops) (Q := NoPanic Q) (Y := Y) (R := fun a w => Q .normal a w) hy hs (fun _ _ _ h => h) 0 d _ a' w' (fun a w h => ⟨by simpa using b5, h⟩) b3 h'.2
    rwa [Nat.zero_add] at this
   ·obtain rfl : k = j := by
     rcases List.mem_cons.1 hk with e1 | e1
     ·exact absurd e1 hki
     ·simpa using e1
    refine wpOp_mono (fun a' w' h' => ⟨h'.1, wpAnyH_weaken (fun W hW => hy.trans _ _ _ h'.1 hW) _ _ _ _ ?_⟩) hh.2
    have := wpChain_sound (P := P) (ops := ops) (Q := NoPanic Q) (Y := Y) (R := fun a w => Q .normal a w) hy hs (fun _ _ _ h => h) 0 e _ a' w' (fun a w h => ⟨by simpa using b8, h⟩) b6 h'.2
    rw [Nat.zero_add, show e.length = d.length by omega] at this
    exact this) b1 h
 rw [show d.length + 1 + c.length = ops.size by omega] at this
 exact this
theorem wp_region_chain {id : Nat} {a : Act} {w : World} (c : Chain) (hm : P.follows .mixedOrders = true) (hs : Region.noSelect ops = true)
  (hB : (Chain.ok ops c (Array.replicate ops.size false) && (c.length == ops.size) && (Region.ready .any ops (Chain.after (Array.replicate ops.size false) c) == [])) = true)
  (h : wpChain P ops (NoPanic Q) Grow (fun a w => Q .normal a w) c a w.drew) : (Code.region id ops true).wp P Q a w := wp_region_leap leap_grow c hm hs hB h
theorem wp_region_fork {id : Nat} {a : Act} {w : World} (c : Chain) (i : Nat) (d : Chain) (j : Nat) (e : Chain) (hm : P.follows .mixedOrders = true) (hs : Region.noSelect ops = true)
  (hB : (Chain.ok ops c (Array.replicate ops.size false) && (Region.ready .any ops (Chain.after (Array.replicate ops.size false) c) == [i, j]) &&
   Chain.ok ops d ((Chain.after (Array.replicate ops.size false) c).setIfInBounds i true) && (c.length + d.length + 1 == ops.size) && (Region.ready .any ops (Chain.after ((Chain.after (Array.replicate ops.size false) c).setIfInBounds i true) d) == []) &&
   Chain.ok ops e ((Chain.after (Array.replicate ops.size false) c).setIfInBounds j true) && (c.length + e.length + 1 == ops.size) && (Region.ready .any ops (Chain.after ((Chain.after (Array.replicate ops.size false) c).setIfInBounds j true) e) == [])) = true)
  (h : wpChain P ops (NoPanic Q) Grow (fun a w => wpOp P ops (NoPanic Q) i (fun a' w' => Grow w w' ∧ wpChain P ops (NoPanic Q) Grow (fun a w => Q .normal a w) d a' w') a w ∧
   wpOp P ops (NoPanic Q) j (fun a' w' => Grow w w' ∧ wpChain P ops (NoPanic Q) Grow (fun a w => Q .normal a w) e a' w') a w) c a w.drew) : (Code.region id ops true).wp P Q a w := wp_region_leapfork leap_grow c i d j e hm hs hB h
theorem at_of_drop {l rest : List Oper} {i : Nat} {o : Oper} (h : l.drop i = o :: rest) : l.toArray[i]? = some o := by
 have : (l.drop i)[0]? = some o := by rw [h]; rfl
 simpa using this
theorem chain_take {l rest : List Oper} {i : Nat} {r : Chain} {a : Act} {w : World} {o : Oper} (hi : l.drop i = o :: rest) (hw : Region.wanted o (yielded l.toArray a.tmps) = true) (v : Value)
  (hv : ∀ W, Y w W → (execOp a.eval o).run P W = .ok (.value v) W) (h : wpChain P l.toArray Q Y R r (a.put o.dst v) w) : wpChain P l.toArray Q Y R ((i, true) :: r) a w := ⟨o, at_of_drop hi, .inl ⟨hw, v, hv, h⟩⟩
theorem chain_skip {l rest : List Oper} {i : Nat} {r : Chain} {a : Act} {w : World} {o : Oper} (hi : l.drop i = o :: rest) (hw : Region.wanted o (yielded l.toArray a.tmps) = false)
  (h : wpChain P l.toArray Q Y R r (a.put o.dst undef) w) : wpChain P l.toArray Q Y R ((i, true) :: r) a w := ⟨o, at_of_drop hi, .inr ⟨hw, h⟩⟩
theorem step_op {l rest : List Oper} {i : Nat} {a : Act} {w : World} {o : Oper} {M : Act → World → Prop} (hi : l.drop i = o :: rest) (hw : Region.wanted o (yielded l.toArray a.tmps) = true)
  (h : ∀ K : Act → World → Prop, (∀ a' w', Y w w' → M a' w' → K a' w') → o.wp P a w K Q) : wpOp P l.toArray Q i (fun a' w' => Y w w' ∧ M a' w') a w := by
 unfold wpOp
 simp only [at_of_drop hi, hw, if_true]
 exact .inl (h _ fun a' w' h1 h2 => ⟨h1, h2⟩)
theorem step_none (hy : Leap Y) {l rest : List Oper} {i : Nat} {a : Act} {w : World} {o : Oper} {M : Act → World → Prop} (hi : l.drop i = o :: rest) (hw : Region.wanted o (yielded l.toArray a.tmps) = false)
  (h : M (a.put o.dst undef) w) : wpOp P l.toArray Q i (fun a' w' => Y w w' ∧ M a' w') a w := by
 unfold wpOp
 simp only [at_of_drop hi, hw]
 exact ⟨hy.refl w, h⟩
theorem chain_only {l rest : List Oper} {i : Nat} {r : Chain} {a : Act} {w : World} {o : Oper} (hi : l.drop i = o :: rest) (hw : Region.wanted o (yielded l.toArray a.tmps) = true)
  (h : ∀ K : Act → World → Prop, (∀ a' w', Y w w' → wpChain P l.toArray Q Y R r a' w' → K a' w') → o.wp P a w K Q) : wpChain P l.toArray Q Y R ((i, false) :: r) a w := step_op hi hw h
theorem chain_none_of (hy : Leap Y) {l rest : List Oper} {i : Nat} {r : Chain} {a : Act} {w : World} {o : Oper} (hi : l.drop i = o :: rest) (hw : Region.wanted o (yielded l.toArray a.tmps) = false)
  (h : wpChain P l.toArray Q Y R r (a.put o.dst undef) w) : wpChain P l.toArray Q Y R ((i, false) :: r) a w := step_none hy hi hw h
theorem chain_none {l rest : List Oper} {i : Nat} {r : Chain} {a : Act} {w : World} {o : Oper} (hi : l.drop i = o :: rest) (hw : Region.wanted o (yielded l.toArray a.tmps) = false)
  (h : wpChain P l.toArray Q Grow R r (a.put o.dst undef) w) : wpChain P l.toArray Q Grow R ((i, false) :: r) a w := chain_none_of leap_grow hi hw h
theorem chain_done {a : Act} {w : World} (h : R a w) : wpChain P ops Q Y R [] a w := h
end
attribute [irreducible] wpChain
def Blk (w : World) (g : Nat) (t : TypeId) (cs : Array Value) : Prop := w.heap[g]? = some (.cells cs t (0, 0))
section
variable {w W : World} {g : Nat} {t : TypeId} {cs : Array Value}
theorem Blk.lt (h : Blk w g t cs) : g < w.heap.size := by
 rcases Nat.lt_or_ge g w.heap.size with h1 | h1
 ·exact h1
 ·rw [Blk, Array.getElem?_eq_none h1] at h; cases h
theorem Blk.new (w : World) (t : TypeId) (cs : Array Value) : Blk (w.alloc (.cells cs t)) w.heap.size t cs := heap_alloc_new w _
theorem Blk.grow (h : Blk w g t cs) (hg : Grow w W) : Blk W g t cs := by rw [Blk, hg.block g h.lt]; exact h
theorem Blk.bar {k : Nat} (h : Blk w g t cs) (hb : Bar k w W) (hk : g ≠ k) : Blk W g t cs := by rw [Blk, hb.2 g h.lt hk]; exact h
theorem Blk.alloc (h : Blk w g t cs) (o : Obj) : Blk (w.alloc o) g t cs := h.grow (Grow.of_alloc w o)
theorem Blk.drew (h : Blk w g t cs) : Blk w.drew g t cs := h
theorem Blk.at (h : Blk w g t cs) (j : Nat) : w.cell? ⟨g, j, none⟩ = cs[j]? := cell_of_row w g j cs t (0, 0) h
theorem Blk.soft (h : Blk w g t cs) (j : Nat) : w.frozen? ⟨g, j, none⟩ = false := by
 simp only [World.frozen?]; rw [h]; simp
theorem Blk.var {P : Program} (h : Blk w g t cs) (ty : TypeId) (d : TypeDesc) (hu : P.underlying ty = some d) (hd : (match d with | .struct _ | .array _ _ => true | _ => false) = true) (hi : (P.info? ty).map (·.size) = some cs.size) :
  (loadVar ty ⟨g, 0, none⟩).run P w = .ok (.agg cs) w := run_loadVar_row w g t ty cs (0, 0) d h hu hd hi
theorem Blk.exec {P : Program} (h : Blk w g t cs) {o : Oper} {ev : Operand → Value} (ty : TypeId) (x : Operand) (ho : o.op = .load ty x) (hx : ev x = .pointer (some ⟨g, 0, none⟩))
  (d : TypeDesc) (hu : P.underlying ty = some d) (hd : (match d with | .struct _ | .array _ _ => true | _ => false) = true) (hi : (P.info? ty).map (·.size) = some cs.size) :
  (execOp ev o).run P w = .ok (.value (.agg cs)) w := by
 unfold execOp
 simp only [ho, hx, Instr.loadAt, Instr.sureAddr, Sem.run_bind, Sem.run_pure, Result.andThen_ok, run_loadVar_row w g t ty cs (0, 0) d h hu hd hi]
theorem Blk.set (h : Blk w g t cs) (cs' : Array Value) : Blk (w.setRow g cs') g t cs' := setRow_heap w g cs cs' t (0, 0) h
theorem Blk.other {k : Nat} (h : Blk w g t cs) (hk : g ≠ k) (cs' : Array Value) : Blk (w.setRow k cs') g t cs := by
 rw [Blk, setRow_other w k g cs' hk]; exact h
theorem Blk.cellset (h : Blk w g t cs) {a : Addr} (ha : g ≠ a.block) (v : Value) : Blk (w.setCell a v) g t cs := by rw [Blk, Deep.blk_setCell_other _ _ _ _ ha]; exact h
theorem Blk.same (h : Blk w g t cs) : w.setRow g cs = w := setRow_self w g cs t (0, 0) h
theorem Blk.row {f : Nat → Value} (h : Blk w g t cs) (hc : ∀ i, i < cs.size → cs[i]? = some (f i)) : w.rowIs g t cs.size f := ⟨cs, h, rfl, hc⟩
theorem Bar.set (w : World) (g : Nat) (cs' : Array Value) : Bar g w (w.setRow g cs') := ⟨by simp, fun k _ hk => setRow_other w g k cs' hk⟩
theorem Grow.set {w0 : World} (h : Grow w0 w) (hg : w0.heap.size ≤ g) (cs' : Array Value) : Grow w0 (w.setRow g cs') :=
 ⟨h.os, h.tape, h.output, by simpa using h.size, fun k hk => (setRow_other w g k cs' (by omega)).trans (h.block k hk)⟩
theorem Grow.cellset {w0 : World} (h : Grow w0 w) (hg : w0.heap.size ≤ g) (i : Nat) (v : Value) : Grow w0 (w.setCell ⟨g, i, none⟩ v) := Below.setCell h hg v
theorem Blk.c2 {a b : Value} (h : Blk w g t #[a, b]) : w.cell? ⟨g, 0, none⟩ = some a ∧ w.cell? ⟨g, 1, none⟩ = some b := ⟨h.at 0, h.at 1⟩
theorem Blk.c4 {a b c d : Value} (h : Blk w g t #[a, b, c, d]) : w.cell? ⟨g, 0, none⟩ = some a ∧ w.cell? ⟨g, 1, none⟩ = some b ∧ w.cell? ⟨g, 2, none⟩ = some c ∧ w.cell? ⟨g, 3, none⟩ = some d := ⟨h.at 0, h.at 1, h.at 2, h.at 3⟩
theorem Blk.c13 {a0 a1 a2 a3 a4 a5 a6 a7 a8 a9 a10 a11 a12 : Value} (h : Blk w g t #[a0, a1, a2, a3, a4, a5, a6, a7, a8, a9, a10, a11, a12]) :
  w.cell? ⟨g, 0, none⟩ = some a0 ∧ w.cell? ⟨g, 1, none⟩ = some a1 ∧ w.cell? ⟨g, 2, none⟩ = some a2 ∧ w.cell? ⟨g, 3, none⟩ = some a3 ∧ w.cell? ⟨g, 4, none⟩ = some a4 ∧ w.cell? ⟨g, 5, none⟩ = some a5 ∧ w.cell? ⟨g, 6, none⟩ = some a6 ∧ w.cell? ⟨g, 7, none⟩ = some a7 ∧ w.cell? ⟨g, 8, none⟩ = some a8 ∧ w.cell? ⟨g, 9, none⟩ = some a9 ∧ w.cell? ⟨g, 10, none⟩ = some a10 ∧ w.cell? ⟨g, 11, none⟩ = some a11 ∧ w.cell? ⟨g, 12, none⟩ = some a12 :=
 ⟨h.at 0, h.at 1, h.at 2, h.at 3, h.at 4, h.at 5, h.at 6, h.at 7, h.at 8, h.at 9, h.at 10, h.at 11, h.at 12⟩
end
theorem blk1 {w W : World} {t1 : TypeId} {c1 : Array Value} (h : w.alloc (.cells c1 t1) = W) : Blk W w.heap.size t1 c1 ∧ Grow w W := by
 subst h; exact ⟨Blk.new _ _ _, Grow.of_alloc _ _⟩
theorem blk2 {w W : World} {t1 t2 : TypeId} {c1 c2 : Array Value} (h : (w.alloc (.cells c1 t1)).alloc (.cells c2 t2) = W) : Blk W w.heap.size t1 c1 ∧ Blk W (w.heap.size + 1) t2 c2 ∧ Grow w W := by
 subst h
 have h2 := Blk.new (w.alloc (.cells c1 t1)) t2 c2
 rw [show (w.alloc (.cells c1 t1)).heap.size = w.heap.size + 1 by simp] at h2
 exact ⟨(Blk.new _ _ _).alloc _, h2, (Grow.of_alloc _ _).trans (Grow.of_alloc _ _)⟩
theorem blk3 {w W : World} {t1 t2 t3 : TypeId} {c1 c2 c3 : Array Value} (h : ((w.alloc (.cells c1 t1)).alloc (.cells c2 t2)).alloc (.cells c3 t3) = W) :
  Blk W w.heap.size t1 c1 ∧ Blk W (w.heap.size + 1) t2 c2 ∧ Blk W (w.heap.size + 1 + 1) t3 c3 ∧ Grow w W := by
 obtain ⟨h1, h2, h3⟩ := blk2 (w := w) (t1 := t1) (t2 := t2) (c1 := c1) (c2 := c2) rfl
 subst h
 have h4 := Blk.new ((w.alloc (.cells c1 t1)).alloc (.cells c2 t2)) t3 c3
 rw [show ((w.alloc (.cells c1 t1)).alloc (.cells c2 t2)).heap.size = w.heap.size + 1 + 1 by simp] at h4
 exact ⟨h1.alloc _, h2.alloc _, h4, h3.trans (Grow.of_alloc _ _)⟩
def Kept (S : Nat → Prop) (w W : World) : Prop := w.heap.size ≤ W.heap.size ∧ ∀ k, k < w.heap.size → S k → W.heap[k]? = w.heap[k]?
theorem leap_kept (S : Nat → Prop) : Leap (Kept S) := ⟨fun _ => ⟨Nat.le_refl _, fun _ _ _ => rfl⟩, fun _ _ _ h k => ⟨Nat.le_trans h.1 k.1, fun i hi hg => (k.2 i (Nat.lt_of_lt_of_le hi h.1) hg).trans (h.2 i hi hg)⟩⟩
theorem Kept.of_grow {S : Nat → Prop} {w W : World} (h : Grow w W) : Kept S w W := ⟨h.size, fun k hk _ => h.block k hk⟩
theorem Blk.kept {S : Nat → Prop} {w W : World} {g : Nat} {t : TypeId} {cs : Array Value} (h : Blk w g t cs) (hb : Kept S w W) (hk : S g) : Blk W g t cs := by rw [Blk, hb.2 g h.lt hk]; exact h
theorem wpList_index {P : Program} {ops : Array Oper} {rest : List Oper} {o : Oper} {a : Act} {w : World} {Q : Exit → Act → World → Prop} (hgd : o.guard = none) (ty e : TypeId) (x y : Operand) (ho : o.op = .index ty x y)
  (n : Nat) (d : TypeDesc) (hu : P.underlying ty = some (.array n e)) (he : P.underlying e = some d) (hd : (match d with | .struct _ | .array _ _ => true | _ => false) = false) (hi : (P.info? e).map (·.size) = some 1)
  (cs : Array Value) (k : Nat) (v : Value) (hx : a.eval x = .agg cs) (hy : a.eval y = .int .i64 (k : Int)) (hk : k < n) (hv : cs[k]? = some v)
  (h : wpList P ops Q rest (a.put o.dst v) w) : wpList P ops Q (o :: rest) a w := by
 refine wpList_plain hgd fun K hK => ?_
 have hr : (Instr.index ty (.agg cs) (.int .i64 (k : Int))).run P w = .ok v w := by
  cases hq : P.info? e with
  | none => simp [hq] at hi
  | some i =>
   have hs : i.size = 1 := by simpa [hq] using hi
   have hagg : (isAgg e).run P w = .ok false w := by
    unfold isAgg
    rw [Sem.run_bind, run_underlying he w]
    cases d <;> simp_all
   have hkn : ¬ n ≤ k := by omega
   simp [Instr.index, asIntOf, run_underlying hu, hkn, part, sizeOf, typeInfo, hq, hs, hagg, hv]
 unfold Oper.wp execOp
 simp only [ho, hx, hy, hr, Sem.run_bind, Sem.run_pure, Result.andThen_ok]
 exact hK _ _ h
structure RB (w : World) (B : Nat) (A : Option Addr) (n c : Nat) (l : List UInt8) : Prop where
 len : n = l.length
 cap : n ≤ c
 max : c ≤ maxLen
 pos : 0 < n → ∃ b off, A = some ⟨b, off, none⟩ ∧ b < B ∧ ∀ j (h : j < l.length), w.cell? ⟨b, off + j, none⟩ = some (.int .u8 (l[j].toNat : Int))
section
variable {w w' : World} {B B' : Nat} {A : Option Addr} {n c : Nat} {l : List UInt8}
theorem RB.keep (h : RB w B A n c l) (hk : ∀ p : Addr, p.block < B → w'.cell? p = w.cell? p) : RB w' B A n c l :=
 ⟨h.len, h.cap, h.max, fun hn => by
  obtain ⟨b, off, e, hb, hc⟩ := h.pos hn
  exact ⟨b, off, e, hb, fun j hj => (hk ⟨b, off + j, none⟩ hb).trans (hc j hj)⟩⟩
theorem RB.more (h : RB w B A n c l) (hB : B ≤ B') : RB w B' A n c l :=
 ⟨h.len, h.cap, h.max, fun hn => by
  obtain ⟨b, off, e, hb, hc⟩ := h.pos hn
  exact ⟨b, off, e, by omega, hc⟩⟩
theorem RB.belowAt {B0 : Nat} (h : RB w B A n c l) (hb : Below B0 w w') (hB : B ≤ B0) : RB w' B A n c l := h.keep fun _ hp => hb.cell (by omega)
theorem RB.drew (h : RB w B A n c l) : RB w.drew B A n c l := ⟨h.len, h.cap, h.max, h.pos⟩
theorem RB.nil : RB w B none 0 0 [] := ⟨rfl, Nat.le_refl _, Nat.zero_le _, fun h => absurd h (by omega)⟩
theorem RB.sub {b off p m : Nat} (h : RB w B (some ⟨b, off, none⟩) n c l) (hp : p + m ≤ n) (hm : 0 < m) : RB w B (some ⟨b, off + p, none⟩) m (c - p) ((l.drop p).take m) := by
 have hl := h.len
 have hcap := h.cap
 have hmax := h.max
 refine ⟨by simp; omega, by omega, by omega, fun _ => ?_⟩
 obtain ⟨b', off', e, hb, hc⟩ := h.pos (by omega)
 injection e with e
 injection e with e1 e2 _
 subst e1; subst e2
 refine ⟨b, off + p, rfl, hb, fun j hj => ?_⟩
 have hj' : j < m := by simp at hj; omega
 rw [Nat.add_assoc, hc (p + j) (by omega)]
 simp
theorem RB.str {P : Program} (h : RB w B A n c l) (src dst e : TypeId) (hs : P.underlying src = some (.slice e)) (he : P.underlying e = some (.int .u8)) (hd : P.underlying dst = some .string) :
  (convert src dst (.slice A n c)).run P w = .ok (.string ⟨l.toArray⟩) w := by
 obtain rfl := h.len
 rcases A with _ | a
 ·have hl : l = [] := by
   rcases Nat.eq_zero_or_pos l.length with h0 | h0
   ·exact List.eq_nil_of_length_eq_zero h0
   ·obtain ⟨_, _, e, _⟩ := h.pos h0
    cases e
  subst hl
  exact run_convert_bytes_nil w src e hs he _ _ dst hd
 ·refine run_convert_bytes_back w src dst e a c l hs he hd fun j hj => ?_
  obtain ⟨b, off, e, _, hc⟩ := h.pos (by omega)
  injection e with e
  subst e
  have e2 : (⟨b, off, none⟩ : Addr).add j = ⟨b, off + j, none⟩ := by unfold Addr.add; split <;> simp_all
  rw [e2]
  exact hc j hj
theorem RB.of_own {base : Nat} {e : TypeId} (h : w.ownsRow base e 1 (.slice A n c) n (l.map fun b => Value.int .u8 (b.toNat : Int))) : RB w w.heap.size A n c l := by
 have hl : n = l.length := by have := h.1; simp at this; omega
 rcases h.2 with ⟨e0, h0⟩ | ⟨g, cap, cur, hv, _, hh, hnc, hcm, hsz, htk⟩
 ·injection e0 with e1 e2 e3
  subst e1; subst e3
  exact ⟨hl, by omega, Nat.zero_le _, fun hp => by omega⟩
 ·injection hv with hA _ hc
  subst hA; subst hc
  refine ⟨hl, hnc, hcm, fun _ => ⟨g, 0, rfl, ?_, fun j hj => ?_⟩⟩
  ·rcases Nat.lt_or_ge g w.heap.size with h1 | h1
   ·exact h1
   ·rw [Array.getElem?_eq_none h1] at hh; cases hh
  ·rw [cell_of_row w g (0 + j) cur e (0, 0) hh, Nat.zero_add]
   have e1 : (cur.toList.take (n * 1))[j]? = some (Value.int .u8 (l[j].toNat : Int)) := by
    rw [htk]; simp [hj]
   rw [List.getElem?_take_of_lt (by omega)] at e1
   simpa using e1
end
end Go.Proofs.Ytaianmonokeimaa
