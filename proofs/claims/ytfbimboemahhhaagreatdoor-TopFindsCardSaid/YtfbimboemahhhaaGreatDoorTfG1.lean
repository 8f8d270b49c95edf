/-
  Several texts in one: A region that draws its order, walked along a given order of its operations; Blocks of cells, whole; errors; What the tied variable errors.
-/
import Derived.OrdersHeld
import Derived.Deep.RegionHeld3
import Derived.WalkKit
import Derived.Deep.Draws
import Derived.Deep.OwnRows
import Derived.Deep.WholeRow
import Derived.Laws.CopyRow
import Derived.Laws.Tables
import Derived.Test.YtfbimboemahhhaaGreatDoorRows
import Derived.LaidEql
import Derived.Stop.Asserts
import Derived.RowKitTokens
import Derived.Lib.Hide
import Derived.JoinedOf
import Derived.LaidLaws
import Derived.LaidHandle
import Derived.Stop.Joined
import Derived.ChangeVars
import Derived.Handed
namespace Go.Proofs.YtfbimboemahhhaaGreatDoor
open Go.RowKit
def Grow (w w' : World) : Prop := Below w.heap.size w w'
theorem Grow.refl (w : World) : Grow w w := Below.refl _ _
theorem Grow.trans {a b c : World} (h : Grow a b) (k : Grow b c) : Grow a c := Below.trans h (Below.mono k h.size)
theorem Grow.trans' {w a b : World} (h : Grow w a) (k : Below w.heap.size a b) : Below w.heap.size w b := Below.trans h k
theorem Grow.of_drewN (w : World) (n : Nat) : Grow w (w.drewN n) := ⟨rfl, rfl, rfl, Nat.le_refl _, fun _ _ => rfl⟩
theorem Grow.of_drew (w : World) : Grow w w.drew := ⟨rfl, rfl, rfl, Nat.le_refl _, fun _ _ => rfl⟩
theorem Grow.of_alloc (w : World) (o : Obj) : Grow w (w.alloc o) := Below.alloc (Below.refl _ _) (Nat.le_refl _) o
theorem wpAnyH_weaken {P : Program} {md : Region.Mode} {ops : Array Oper} {Q : Exit → Act → World → Prop} {S S' : World → Prop} (hS : ∀ w, S' w → S w) :
  ∀ (fuel : Nat) (listed : Array Bool) (a : Act) (w : World), wpAnyH P md ops Q S' fuel listed a w → wpAnyH P md ops Q S fuel listed a w
 | 0, _, _, _, h => h
 | fuel + 1, _, _, _, h => ⟨h.1, fun i hi => wpOp_mono (fun a' w' h' => ⟨hS w' h'.1, wpAnyH_weaken hS fuel _ a' w' h'.2⟩) (h.2 i hi)⟩
abbrev Chain := List (Nat × Bool)
def Chain.after (listed : Array Bool) : Chain → Array Bool
 | [] => listed
 | p :: r => Chain.after (listed.setIfInBounds p.1 true) r
def Chain.ok (ops : Array Oper) : Chain → Array Bool → Bool
 | [], _ => true
 | (i, true) :: r, listed => Region.free .any ops listed i && (Region.ready .any ops listed).contains i && Chain.ok ops r (listed.setIfInBounds i true)
 | (i, false) :: r, listed => Region.ready .any ops listed == [i] && Chain.ok ops r (listed.setIfInBounds i true)
structure Leap (Y : World → World → Prop) : Prop where
 refl : ∀ w, Y w w
 trans : ∀ a b c, Y a b → Y b c → Y a c
theorem leap_grow : Leap Grow := ⟨Grow.refl, fun _ _ _ => Grow.trans⟩
def Bar (g : Nat) (w W : World) : Prop := w.heap.size ≤ W.heap.size ∧ ∀ k, k < w.heap.size → k ≠ g → W.heap[k]? = w.heap[k]?
theorem leap_bar (g : Nat) : Leap (Bar g) := ⟨fun _ => ⟨Nat.le_refl _, fun _ _ _ => rfl⟩, fun _ _ _ h k => ⟨Nat.le_trans h.1 k.1, fun i hi hg => (k.2 i (Nat.lt_of_lt_of_le hi h.1) hg).trans (h.2 i hi hg)⟩⟩
theorem leap_below (B : Nat) : Leap (Below B) := ⟨Below.refl B, fun _ _ _ => Below.trans⟩
theorem Bar.of_grow {g : Nat} {w W : World} (h : Grow w W) : Bar g w W := ⟨h.size, fun k hk _ => h.block k hk⟩
def wpChain (P : Program) (ops : Array Oper) (Q : Exit → Act → World → Prop) (Y : World → World → Prop) (R : Act → World → Prop) : Chain → Act → World → Prop
 | [], a, w => R a w
 | (i, true) :: r, a, w => ∃ o, ops[i]? = some o ∧ ((Region.wanted o (yielded ops a.tmps) = true ∧ ∃ v, (∀ W, Y w W → (execOp a.eval o).run P W = .ok (.value v) W) ∧ wpChain P ops Q Y R r (a.put o.dst v) w) ∨
   (Region.wanted o (yielded ops a.tmps) = false ∧ wpChain P ops Q Y R r (a.put o.dst undef) w))
 | (i, false) :: r, a, w => wpOp P ops Q i (fun a' w' => Y w w' ∧ wpChain P ops Q Y R r a' w') a w
section
variable {P : Program} {ops : Array Oper} {Q : Exit → Act → World → Prop} {Y : World → World → Prop} {R : Act → World → Prop}
theorem wpChain_sound (hy : Leap Y) (hs : Region.noSelect ops = true) (hQ : ∀ c a w, ¬ Q (.panic c) a w) (n : Nat) : ∀ (c : Chain) (listed : Array Bool) (a : Act) (w : World),
  (∀ a w, R a w → wpAnyH P .any ops Q (Y w) n (Chain.after listed c) a w) →
  Chain.ok ops c listed = true → wpChain P ops Q Y R c a w → wpAnyH P .any ops Q (Y w) (n + c.length) listed a w
 | [], listed, a, w, hR, _, h => hR a w h
 | (i, true) :: r, listed, a, w, hR, hB, h => by
  simp only [Chain.ok, Bool.and_eq_true] at hB
  obtain ⟨o, ho, hh⟩ := h
  rw [List.length_cons, ← Nat.add_assoc]
  rcases hh with ⟨hw, v, hv, hr⟩ | ⟨hw, hr⟩
  ·exact wpAnyH_take ho hs hB.1.1 hB.1.2 (fun c a w h => absurd h (hQ _ _ _)) (.inl ⟨hw, hv⟩) (hy.refl w) (wpChain_sound hy hs hQ n r _ _ w hR hB.2 hr)
  ·exact wpAnyH_take ho hs hB.1.1 hB.1.2 (fun c a w h => absurd h (hQ _ _ _)) (.inr ⟨hw, rfl⟩) (hy.refl w) (wpChain_sound hy hs hQ n r _ _ w hR hB.2 hr)
 | (i, false) :: r, listed, a, w, hR, hB, h => by
  simp only [Chain.ok, Bool.and_eq_true] at hB
  rw [List.length_cons, ← Nat.add_assoc]
  refine wpAnyH_all (rs := [i]) (by simpa using hB.1) (by simp) ?_
  intro k hk
  obtain rfl : k = i := by simpa using hk
  exact wpOp_mono (fun a' w' h' => ⟨h'.1, wpAnyH_weaken (fun W hW => hy.trans _ _ _ h'.1 hW) _ _ _ _ (wpChain_sound hy hs hQ n r _ a' w' hR hB.2 h'.2)⟩) h
theorem wp_region_leap (hy : Leap Y) {id : Nat} {a : Act} {w : World} (c : Chain) (hm : P.follows .mixedOrders = true) (hs : Region.noSelect ops = true)
  (hB : (Chain.ok ops c (Array.replicate ops.size false) && (c.length == ops.size) && (Region.ready .any ops (Chain.after (Array.replicate ops.size false) c) == [])) = true)
  (h : wpChain P ops (NoPanic Q) Y (fun a w => Q .normal a w) c a w.drew) : (Code.region id ops true).wp P Q a w := by
 simp only [Bool.and_eq_true] at hB
 have hl : c.length = ops.size := by simpa using hB.1.2
 refine wp_region_noPanic (wp_region_held (S := Y w.drew) hm ?_)
 have := wpChain_sound (P := P) (ops := ops) (Q := NoPanic Q) (Y := Y) (R := fun a w => Q .normal a w) hy hs (fun _ _ _ h => h) 0 c (Array.replicate ops.size false) a w.drew
  (fun a w h => ⟨by simpa using hB.2, h⟩) hB.1.1 h
 rw [Nat.zero_add, hl] at this
 exact this
theorem wp_region_leapfork (hy : Leap Y) {id : Nat} {a : Act} {w : World} (c : Chain) (i : Nat) (d : Chain) (j : Nat) (e : Chain) (hm : P.follows .mixedOrders = true) (hs : Region.noSelect ops = true)
  (hB : (Chain.ok ops c (Array.replicate ops.size false) && (Region.ready .any ops (Chain.after (Array.replicate ops.size false) c) == [i, j]) &&
   Chain.ok ops d ((Chain.after (Array.replicate ops.size false) c).setIfInBounds i true) && (c.length + d.length + 1 == ops.size) && (Region.ready .any ops (Chain.after ((Chain.after (Array.replicate ops.size false) c).setIfInBounds i true) d) == []) &&
   Chain.ok ops e ((Chain.after (Array.replicate ops.size false) c).setIfInBounds j true) && (c.length + e.length + 1 == ops.size) && (Region.ready .any ops (Chain.after ((Chain.after (Array.replicate ops.size false) c).setIfInBounds j true) e) == [])) = true)
  (h : wpChain P ops (NoPanic Q) Y (fun a w => wpOp P ops (NoPanic Q) i (fun a' w' => Y w w' ∧ wpChain P ops (NoPanic Q) Y (fun a w => Q .normal a w) d a' w') a w ∧
   wpOp P ops (NoPanic Q) j (fun a' w' => Y w w' ∧ wpChain P ops (NoPanic Q) Y (fun a w => Q .normal a w) e a' w') a w) c a w.drew) : (Code.region id ops true).wp P Q a w := by
 simp only [Bool.and_eq_true] at hB
 obtain ⟨⟨⟨⟨⟨⟨⟨b1, b2⟩, b3⟩, b4⟩, b5⟩, b6⟩, b7⟩, b8⟩ := hB
 have l1 : c.length + d.length + 1 = ops.size := by simpa using b4
 have l2 : c.length + e.length + 1 = ops.size := by simpa using b7
 refine wp_region_noPanic (wp_region_held (S := Y w.drew) hm ?_)
 have := wpChain_sound (P := P) (ops := ops) (Q := NoPanic Q) (Y := Y) (R := fun a w => wpOp P ops (NoPanic Q) i (fun a' w' => Y w w' ∧ wpChain P ops (NoPanic Q) Y (fun a w => Q .normal a w) d a' w') a w ∧
   wpOp P ops (NoPanic Q) j (fun a' w' => Y w w' ∧ wpChain P ops (NoPanic Q) Y (fun a w => Q .normal a w) e a' w') a w) hy hs (fun _ _ _ h => h) (d.length + 1) c (Array.replicate ops.size false) a w.drew
  (fun a w hh => by
   refine wpAnyH_all (rs := [i, j]) (by simpa using b2) (by simp) ?_
   intro k hk
   by_cases hki : k = i
   ·subst hki
    refine wpOp_mono (fun a' w' h' => ⟨h'.1, wpAnyH_weaken (fun W hW => hy.trans _ _ _ h'.1 hW) _ _ _ _ ?_⟩) hh.1
    have := wpChain_sound (P := P) (ops := ops) (Q := NoPanic Q) (Y := Y) (R := fun a w => Q .normal a w) hy hs (fun _ _ _ h => h) 0 d _ a' w' (fun a w h => ⟨by simpa using b5, h⟩) b3 h'.2
    rwa [Nat.zero_add] at this
   ·obtain rfl : k = j := by
     rcases List.mem_cons.1 hk with e1 | e1
     ·exact absurd e1 hki
     ·simpa using e1
    refine wpOp_mono (fun a' w' h' => ⟨h'.1, wpAnyH_weaken (fun W hW => hy.trans _ _ _ h'.1 hW) _ _ _ _ ?_⟩) hh.2
    have := wpChain_sound (P := P) (ops := ops) (Q := NoPanic Q) (Y := Y) (R := fun a w => Q .normal a w) hy hs (fun _ _ _ h => h) 0 e _ a' w' (fun a w h => ⟨by simpa using b8, h⟩) b6 h'.2
    rw [Nat.zero_add, show e.length = d.length by omega] at this
    exact this) b1 h
 rw [show d.length + 1 + c.length = ops.size by omega] at this
 exact this
theorem wp_region_chain {id : Nat} {a : Act} {w : World} (c : Chain) (hm : P.follows .mixedOrders = true) (hs : Region.noSelect ops = true)
  (hB : (Chain.ok ops c (Array.replicate ops.size false) && (c.length == ops.size) && (Region.ready .any ops (Chain.after (Array.replicate ops.size false) c) == [])) = true)
  (h : wpChain P ops (NoPanic Q) Grow (fun a w => Q .normal a w) c a w.drew) : (Code.region id ops true).wp P Q a w := wp_region_leap leap_grow c hm hs hB h
theorem wp_region_fork {id : Nat} {a : Act} {w : World} (c : Chain) (i : Nat) (d : Chain) (j : Nat) (e : Chain) (hm : P.follows .mixedOrders = true) (hs : Region.noSelect ops = true)
  (hB : (Chain.ok ops c (Array.replicate ops.size false) && (Region.ready .any ops (Chain.after (Array.replicate ops.size false) c) == [i, j]) &&
   Chain.ok ops d ((Chain.after (Array.replicate ops.size false) c).setIfInBounds i true) && (c.length + d.length + 1 == ops.size) && (Region.ready .any ops (Chain.after ((Chain.after (Array.replicate ops.size false) c).setIfInBounds i true) d) == []) &&
   Chain.ok ops e ((Chain.after (Array.replicate ops.size false) c).setIfInBounds j true) && (c.length + e.length + 1 == ops.size) && (Region.ready .any ops (Chain.after ((Chain.after (Array.replicate ops.size false) c).setIfInBounds j true) e) == [])) = true)
  (h : wpChain P ops (NoPanic Q) Grow (fun a w => wpOp P ops (NoPanic Q) i (fun a' w' => Grow w w' ∧ wpChain P ops (NoPanic Q) Grow (fun a w => Q .normal a w) d a' w') a w ∧
   wpOp P ops (NoPanic Q) j (fun a' w' => Grow w w' ∧ wpChain P ops (NoPanic Q) Grow (fun a w => Q .normal a w) e a' w') a w) c a w.drew) : (Code.region id ops true).wp P Q a w := wp_region_leapfork leap_grow c i d j e hm hs hB h
theorem at_of_drop {l rest : List Oper} {i : Nat} {o : Oper} (h : l.drop i = o :: rest) : l.toArray[i]? = some o := by
 have : (l.drop i)[0]? = some o := by rw [h]; rfl
 simpa using this
theorem chain_take {l rest : List Oper} {i : Nat} {r : Chain} {a : Act} {w : World} {o : Oper} (hi : l.drop i = o :: rest) (hw : Region.wanted o (yielded l.toArray a.tmps) = true) (v : Value)
  (hv : ∀ W, Y w W → (execOp a.eval o).run P W = .ok (.value v) W) (h : wpChain P l.toArray Q Y R r (a.put o.dst v) w) : wpChain P l.toArray Q Y R ((i, true) :: r) a w := ⟨o, at_of_drop hi, .inl ⟨hw, v, hv, h⟩⟩
theorem chain_skip {l rest : List Oper} {i : Nat} {r : Chain} {a : Act} {w : World} {o : Oper} (hi : l.drop i = o :: rest) (hw : Region.wanted o (yielded l.toArray a.tmps) = false)
  (h : wpChain P l.toArray Q Y R r (a.put o.dst undef) w) : wpChain P l.toArray Q Y R ((i, true) :: r) a w := ⟨o, at_of_drop hi, .inr ⟨hw, h⟩⟩
theorem step_op {l rest : List Oper} {i : Nat} {a : Act} {w : World} {o : Oper} {M : Act → World → Prop} (hi : l.drop i = o :: rest) (hw : Region.wanted o (yielded l.toArray a.tmps) = true)
  (h : ∀ K : Act → World → Prop, (∀ a' w', Y w w' → M a' w' → K a' w') → o.wp P a w K Q) : wpOp P l.toArray Q i (fun a' w' => Y w w' ∧ M a' w') a w := by
 unfold wpOp
 simp only [at_of_drop hi, hw, if_true]
 exact .inl (h _ fun a' w' h1 h2 => ⟨h1, h2⟩)
theorem step_none (hy : Leap Y) {l rest : List Oper} {i : Nat} {a : Act} {w : World} {o : Oper} {M : Act → World → Prop} (hi : l.drop i = o :: rest) (hw : Region.wanted o (yielded l.toArray a.tmps) = false)
  (h : M (a.put o.dst undef) w) : wpOp P l.toArray Q i (fun a' w' => Y w w' ∧ M a' w') a w := by
 unfold wpOp
 simp only [at_of_drop hi, hw]
 exact ⟨hy.refl w, h⟩
theorem chain_only {l rest : List Oper} {i : Nat} {r : Chain} {a : Act} {w : World} {o : Oper} (hi : l.drop i = o :: rest) (hw : Region.wanted o (yielded l.toArray a.tmps) = true)
  (h : ∀ K : Act → World → Prop, (∀ a' w', Y w w' → wpChain P l.toArray Q Y R r a' w' → K a' w') → o.wp P a w K Q) : wpChain P l.toArray Q Y R ((i, false) :: r) a w := step_op hi hw h
theorem chain_none_of (hy : Leap Y) {l rest : List Oper} {i : Nat} {r : Chain} {a : Act} {w : World} {o : Oper} (hi : l.drop i = o :: rest) (hw : Region.wanted o (yielded l.toArray a.tmps) = false)
  (h : wpChain P l.toArray Q Y R r (a.put o.dst undef) w) : wpChain P l.toArray Q Y R ((i, false) :: r) a w := step_none hy hi hw h
theorem chain_none {l rest : List Oper} {i : Nat} {r : Chain} {a : Act} {w : World} {o : Oper} (hi : l.drop i = o :: rest) (hw : Region.wanted o (yielded l.toArray a.tmps) = false)
  (h : wpChain P l.toArray Q Grow R r (a.put o.dst undef) w) : wpChain P l.toArray Q Grow R ((i, false) :: r) a w := chain_none_of leap_grow hi hw h
theorem chain_done {a : Act} {w : World} (h : R a w) : wpChain P ops Q Y R [] a w := h
end
attribute [irreducible] wpChain
def Blk (w : World) (g : Nat) (t : TypeId) (cs : Array Value) : Prop := w.heap[g]? = some (.cells cs t (0, 0))
section
variable {w W : World} {g : Nat} {t : TypeId} {cs : Array Value}
theorem Blk.lt (h : Blk w g t cs) : g < w.heap.size := by
 rcases Nat.lt_or_ge g w.heap.size with h1 | h1
 ·exact h1
 ·rw [Blk, Array.getElem?_eq_none h1] at h; cases h
theorem Blk.new (w : World) (t : TypeId) (cs : Array Value) : Blk (w.alloc (.cells cs t)) w.heap.size t cs := heap_alloc_new w _
theorem Blk.grow (h : Blk w g t cs) (hg : Grow w W) : Blk W g t cs := by rw [Blk, hg.block g h.lt]; exact h
theorem Blk.bar {k : Nat} (h : Blk w g t cs) (hb : Bar k w W) (hk : g ≠ k) : Blk W g t cs := by rw [Blk, hb.2 g h.lt hk]; exact h
theorem Blk.alloc (h : Blk w g t cs) (o : Obj) : Blk (w.alloc o) g t cs := h.grow (Grow.of_alloc w o)
theorem Blk.drew (h : Blk w g t cs) : Blk w.drew g t cs := h
theorem Blk.at (h : Blk w g t cs) (j : Nat) : w.cell? ⟨g, j, none⟩ = cs[j]? := cell_of_row w g j cs t (0, 0) h
theorem Blk.soft (h : Blk w g t cs) (j : Nat) : w.frozen? ⟨g, j, none⟩ = false := by
 simp only [World.frozen?]; rw [h]; simp
theorem Blk.var {P : Program} (h : Blk w g t cs) (ty : TypeId) (d : TypeDesc) (hu : P.underlying ty = some d) (hd : (match d with | .struct _ | .array _ _ => true | _ => false) = true) (hi : (P.info? ty).map (·.size) = some cs.size) :
  (loadVar ty ⟨g, 0, none⟩).run P w = .ok (.agg cs) w := run_loadVar_row w g t ty cs (0, 0) d h hu hd hi
theorem Blk.exec {P : Program} (h : Blk w g t cs) {o : Oper} {ev : Operand → Value} (ty : TypeId) (x : Operand) (ho : o.op = .load ty x) (hx : ev x = .pointer (some ⟨g, 0, none⟩))
  (d : TypeDesc) (hu : P.underlying ty = some d) (hd : (match d with | .struct _ | .array _ _ => true | _ => false) = true) (hi : (P.info? ty).map (·.size) = some cs.size) :
  (execOp ev o).run P w = .ok (.value (.agg cs)) w := by
 unfold execOp
 simp only [ho, hx, Instr.loadAt, Instr.sureAddr, Sem.run_bind, Sem.run_pure, Result.andThen_ok, run_loadVar_row w g t ty cs (0, 0) d h hu hd hi]
theorem Blk.set (h : Blk w g t cs) (cs' : Array Value) : Blk (w.setRow g cs') g t cs' := setRow_heap w g cs cs' t (0, 0) h
theorem Blk.other {k : Nat} (h : Blk w g t cs) (hk : g ≠ k) (cs' : Array Value) : Blk (w.setRow k cs') g t cs := by
 rw [Blk, setRow_other w k g cs' hk]; exact h
theorem Blk.cellset (h : Blk w g t cs) {a : Addr} (ha : g ≠ a.block) (v : Value) : Blk (w.setCell a v) g t cs := by rw [Blk, Deep.blk_setCell_other _ _ _ _ ha]; exact h
theorem Blk.same (h : Blk w g t cs) : w.setRow g cs = w := setRow_self w g cs t (0, 0) h
theorem Blk.row {f : Nat → Value} (h : Blk w g t cs) (hc : ∀ i, i < cs.size → cs[i]? = some (f i)) : w.rowIs g t cs.size f := ⟨cs, h, rfl, hc⟩
theorem Bar.set (w : World) (g : Nat) (cs' : Array Value) : Bar g w (w.setRow g cs') := ⟨by simp, fun k _ hk => setRow_other w g k cs' hk⟩
theorem Grow.set {w0 : World} (h : Grow w0 w) (hg : w0.heap.size ≤ g) (cs' : Array Value) : Grow w0 (w.setRow g cs') :=
 ⟨h.os, h.tape, h.output, by simpa using h.size, fun k hk => (setRow_other w g k cs' (by omega)).trans (h.block k hk)⟩
theorem Grow.cellset {w0 : World} (h : Grow w0 w) (hg : w0.heap.size ≤ g) (i : Nat) (v : Value) : Grow w0 (w.setCell ⟨g, i, none⟩ v) := Below.setCell h hg v
theorem Blk.c2 {a b : Value} (h : Blk w g t #[a, b]) : w.cell? ⟨g, 0, none⟩ = some a ∧ w.cell? ⟨g, 1, none⟩ = some b := ⟨h.at 0, h.at 1⟩
theorem Blk.c4 {a b c d : Value} (h : Blk w g t #[a, b, c, d]) : w.cell? ⟨g, 0, none⟩ = some a ∧ w.cell? ⟨g, 1, none⟩ = some b ∧ w.cell? ⟨g, 2, none⟩ = some c ∧ w.cell? ⟨g, 3, none⟩ = some d := ⟨h.at 0, h.at 1, h.at 2, h.at 3⟩
theorem Blk.c13 {a0 a1 a2 a3 a4 a5 a6 a7 a8 a9 a10 a11 a12 : Value} (h : Blk w g t #[a0, a1, a2, a3, a4, a5, a6, a7, a8, a9, a10, a11, a12]) :
  w.cell? ⟨g, 0, none⟩ = some a0 ∧ w.cell? ⟨g, 1, none⟩ = some a1 ∧ w.cell? ⟨g, 2, none⟩ = some a2 ∧ w.cell? ⟨g, 3, none⟩ = some a3 ∧ w.cell? ⟨g, 4, none⟩ = some a4 ∧ w.cell? ⟨g, 5, none⟩ = some a5 ∧ w.cell? ⟨g, 6, none⟩ = some a6 ∧ w.cell? ⟨g, 7, none⟩ = some a7 ∧ w.cell? ⟨g, 8, none⟩ = some a8 ∧ w.cell? ⟨g, 9, none⟩ = some a9 ∧ w.cell? ⟨g, 10, none⟩ = some a10 ∧ w.cell? ⟨g, 11, none⟩ = some a11 ∧ w.cell? ⟨g, 12, none⟩ = some a12 :=
 ⟨h.at 0, h.at 1, h.at 2, h.at 3, h.at 4, h.at 5, h.at 6, h.at 7, h.at 8, h.at 9, h.at 10, h.at 11, h.at 12⟩
end
theorem blk1 {w W : World} {t1 : TypeId} {c1 : Array Value} (h : w.alloc (.cells c1 t1) = W) : Blk W w.heap.size t1 c1 ∧ Grow w W := by
 subst h; exact ⟨Blk.new _ _ _, Grow.of_alloc _ _⟩
theorem blk2 {w W : World} {t1 t2 : TypeId} {c1 c2 : Array Value} (h : (w.alloc (.cells c1 t1)).alloc (.cells c2 t2) = W) : Blk W w.heap.size t1 c1 ∧ Blk W (w.heap.size + 1) t2 c2 ∧ Grow w W := by
 subst h
 have h2 := Blk.new (w.alloc (.cells c1 t1)) t2 c2
 rw [show (w.alloc (.cells c1 t1)).heap.size = w.heap.size + 1 by simp] at h2
 exact ⟨(Blk.new _ _ _).alloc _, h2, (Grow.of_alloc _ _).trans (Grow.of_alloc _ _)⟩
theorem blk3 {w W : World} {t1 t2 t3 : TypeId} {c1 c2 c3 : Array Value} (h : ((w.alloc (.cells c1 t1)).alloc (.cells c2 t2)).alloc (.cells c3 t3) = W) :
  Blk W w.heap.size t1 c1 ∧ Blk W (w.heap.size + 1) t2 c2 ∧ Blk W (w.heap.size + 1 + 1) t3 c3 ∧ Grow w W := by
 obtain ⟨h1, h2, h3⟩ := blk2 (w := w) (t1 := t1) (t2 := t2) (c1 := c1) (c2 := c2) rfl
 subst h
 have h4 := Blk.new ((w.alloc (.cells c1 t1)).alloc (.cells c2 t2)) t3 c3
 rw [show ((w.alloc (.cells c1 t1)).alloc (.cells c2 t2)).heap.size = w.heap.size + 1 + 1 by simp] at h4
 exact ⟨h1.alloc _, h2.alloc _, h4, h3.trans (Grow.of_alloc _ _)⟩
def Kept (S : Nat → Prop) (w W : World) : Prop := w.heap.size ≤ W.heap.size ∧ ∀ k, k < w.heap.size → S k → W.heap[k]? = w.heap[k]?
theorem leap_kept (S : Nat → Prop) : Leap (Kept S) := ⟨fun _ => ⟨Nat.le_refl _, fun _ _ _ => rfl⟩, fun _ _ _ h k => ⟨Nat.le_trans h.1 k.1, fun i hi hg => (k.2 i (Nat.lt_of_lt_of_le hi h.1) hg).trans (h.2 i hi hg)⟩⟩
theorem Kept.of_grow {S : Nat → Prop} {w W : World} (h : Grow w W) : Kept S w W := ⟨h.size, fun k hk _ => h.block k hk⟩
theorem Blk.kept {S : Nat → Prop} {w W : World} {g : Nat} {t : TypeId} {cs : Array Value} (h : Blk w g t cs) (hb : Kept S w W) (hk : S g) : Blk W g t cs := by rw [Blk, hb.2 g h.lt hk]; exact h
theorem wpList_index {P : Program} {ops : Array Oper} {rest : List Oper} {o : Oper} {a : Act} {w : World} {Q : Exit → Act → World → Prop} (hgd : o.guard = none) (ty e : TypeId) (x y : Operand) (ho : o.op = .index ty x y)
  (n : Nat) (d : TypeDesc) (hu : P.underlying ty = some (.array n e)) (he : P.underlying e = some d) (hd : (match d with | .struct _ | .array _ _ => true | _ => false) = false) (hi : (P.info? e).map (·.size) = some 1)
  (cs : Array Value) (k : Nat) (v : Value) (hx : a.eval x = .agg cs) (hy : a.eval y = .int .i64 (k : Int)) (hk : k < n) (hv : cs[k]? = some v)
  (h : wpList P ops Q rest (a.put o.dst v) w) : wpList P ops Q (o :: rest) a w := by
 refine wpList_plain hgd fun K hK => ?_
 have hr : (Instr.index ty (.agg cs) (.int .i64 (k : Int))).run P w = .ok v w := by
  cases hq : P.info? e with
  | none => simp [hq] at hi
  | some i =>
   have hs : i.size = 1 := by simpa [hq] using hi
   have hagg : (isAgg e).run P w = .ok false w := by
    unfold isAgg
    rw [Sem.run_bind, run_underlying he w]
    cases d <;> simp_all
   have hkn : ¬ n ≤ k := by omega
   simp [Instr.index, asIntOf, run_underlying hu, hkn, part, sizeOf, typeInfo, hq, hs, hagg, hv]
 unfold Oper.wp execOp
 simp only [ho, hx, hy, hr, Sem.run_bind, Sem.run_pure, Result.andThen_ok]
 exact hK _ _ h
end Go.Proofs.YtfbimboemahhhaaGreatDoor
namespace Go.Proofs.YtfbimboemahhhaaGreatDoor
open Go.RowKit Go.Extern.Stop Go.Stop Go.Extern
set_option maxRecDepth 100000
def Door (w : World) : Prop := w.cell? ⟨0, 0, none⟩ = some (.iface 240 (.agg #[.pointer (some ⟨2, 32, none⟩)])) ∧ 0 < w.heap.size
theorem Door.grow {w w' : World} (h : Door w) (hg : Grow w w') : Door w' := ⟨(Below.cell hg h.2).trans h.1, Nat.lt_of_lt_of_le h.2 hg.size⟩
theorem valueOfP (t : Addr) (w : World) : (ReflectliteValue.unpack (.iface 125 (.pointer (some t)))).run Tryz.prog w
  = .ok (.agg #[.pointer (some ⟨2, 125, none⟩), .pointer (some ⟨w.heap.size, 0, none⟩), .int .u64 150]) (w.alloc (.cells #[.pointer (some t)] 125)) := by kernel_rfl
theorem typeP (a : Addr) (w : World) : (ReflectliteValue.methodAny (ReflectliteValue.valueError "reflectlite.Value.Type" 0) (fun t _ _ _ => ReflectliteType.toType t) #[.agg #[.pointer (some ⟨2, 125, none⟩), .pointer (some a), .int .u64 150]]).run Tryz.prog w
  = .ok (.iface 240 (.agg #[.pointer (some ⟨2, 125, none⟩)])) w := by kernel_rfl
theorem methodKind (h : Value) (w : World) : (Go.method 401 240 (.agg #[h]) "Kind").run Tryz.prog w = .ok (178, h) w := by kernel_rfl
theorem kindP (w : World) : ((ReflectliteType.abiMethod fun t => (fun a : Nat => Value.int IntKind.u8 (a : Int)) <$> Rtype.kind t) #[.pointer (some ⟨2, 125, none⟩)]).run Tryz.prog w = .ok (.int .u8 22) w := by kernel_rfl
theorem kindC (w : World) : ((ReflectliteType.abiMethod fun t => (fun a : Nat => Value.int IntKind.u8 (a : Int)) <$> Rtype.kind t) #[.pointer (some ⟨2, 86, none⟩)]).run Tryz.prog w = .ok (.int .u8 2) w := by kernel_rfl
theorem rlm (z : Sem Value) (f : TypeId → Addr → Nat → Nat → Sem Value) (v : Value) :
  ReflectliteValue.method z f #[v] = (do match ← ReflectliteValue.parts v with | none => z | some (t, a, fl) => f t a fl (fl % 32)) := rfl
theorem partsP (a : Addr) (w : World) : (ReflectliteValue.parts (.agg #[.pointer (some ⟨2, 125, none⟩), .pointer (some a), .int .u64 150])).run Tryz.prog w = .ok (some (125, a, 150)) w := by kernel_rfl
theorem isNilP (a p : Addr) (W : World) (ha : W.cell? a = some (.pointer (some p))) :
  (ReflectliteValue.method (ReflectliteValue.valueError "reflectlite.Value.IsNil" 0) ReflectliteValue.isNil #[.agg #[.pointer (some ⟨2, 125, none⟩), .pointer (some a), .int .u64 150]]).run Tryz.prog W = .ok (.bool false) W := by
 rw [rlm]
 simp only [Sem.run_bind, partsP, Result.andThen]
 simp [ReflectliteValue.isNil, loadVar, isAgg, underlying, Tryz.underlying125, ha, Result.andThen]
theorem methodElem (h : Value) (w : World) : (Go.method 401 240 (.agg #[h]) "Elem").run Tryz.prog w = .ok (190, .agg #[h]) w := by kernel_rfl
theorem methodImplements (h : Value) (w : World) : (Go.method 401 240 (.agg #[h]) "Implements").run Tryz.prog w = .ok (191, .agg #[h]) w := by kernel_rfl
theorem methodAssignableTo (h : Value) (w : World) : (Go.method 401 240 (.agg #[h]) "AssignableTo").run Tryz.prog w = .ok (188, .agg #[h]) w := by kernel_rfl
theorem elemP (w : World) : (ReflectliteType.method ReflectliteType.elem #[.agg #[.pointer (some ⟨2, 125, none⟩)]]).run Tryz.prog w = .ok (.iface 240 (.agg #[.pointer (some ⟨2, 86, none⟩)])) w := by kernel_rfl
theorem implementsC (w : World) : (ReflectliteType.relation "Implements" ReflectliteType.implements_ #[.agg #[.pointer (some ⟨2, 86, none⟩)], .iface 240 (.agg #[.pointer (some ⟨2, 32, none⟩)])]).run Tryz.prog w = .ok (.bool true) w := by kernel_rfl
theorem typeOfC (v : Value) (w : World) : (ReflectliteType.typeOf #[.iface 86 v]).run Tryz.prog w = .ok (.iface 240 (.agg #[.pointer (some ⟨2, 86, none⟩)])) w := by kernel_rfl
theorem assignableC (w : World) : (ReflectliteType.relation "AssignableTo" ReflectliteType.assignableTo #[.agg #[.pointer (some ⟨2, 86, none⟩)], .iface 240 (.agg #[.pointer (some ⟨2, 86, none⟩)])]).run Tryz.prog w = .ok (.bool true) w := by kernel_rfl
theorem valueOfC (c : Int) (w : World) : (ReflectliteValue.unpack (.iface 86 (.int .i64 c))).run Tryz.prog w
  = .ok (.agg #[.pointer (some ⟨2, 86, none⟩), .pointer (some ⟨w.heap.size, 0, none⟩), .int .u64 130]) (w.alloc (.cells #[.int .i64 c] 86)) := by kernel_rfl
theorem elemOfP (w : World) : (Rtype.elem? 125).run Tryz.prog w = .ok (some 86) w := by kernel_rfl
theorem mkC (p : Addr) (w : World) : (ReflectliteValue.mk 86 p ReflectliteValue.flagAddr).run Tryz.prog w = .ok (.agg #[.pointer (some ⟨2, 86, none⟩), .pointer (some p), .int .u64 386]) w := by kernel_rfl
theorem elemVP (a p : Addr) (W : World) (ha : W.cell? a = some (.pointer (some p))) :
  (ReflectliteValue.method (ReflectliteValue.valueError "reflectlite.Value.Elem" 0) ReflectliteValue.elem #[.agg #[.pointer (some ⟨2, 125, none⟩), .pointer (some a), .int .u64 150]]).run Tryz.prog W
   = .ok (.agg #[.pointer (some ⟨2, 86, none⟩), .pointer (some p), .int .u64 386]) W := by
 rw [rlm]
 simp only [Sem.run_bind, partsP, Result.andThen]
 simp [ReflectliteValue.elem, loadVar, isAgg, underlying, Tryz.underlying125, ha, Result.andThen, elemOfP, mkC]
theorem rls (v x : Value) : ReflectliteValue.set #[v, x] = (do
  let (some (dst, a, fl), some (src, b, _)) := (← ReflectliteValue.parts v, ← ReflectliteValue.parts x)
   | unsupported (.noEntry "extern/(internal/reflectlite.Value).Set.zeroValue")
  if fl / ReflectliteValue.flagAddr % 2 == 0 then unsupported (.noEntry "extern/(internal/reflectlite.Value).Set.unaddressable")
  let val ← loadVar src b
  if ← Rtype.directlyAssignable dst src then storeVar dst a val
  else if ← Rtype.implements dst src then
   if (← Rtype.kind src) == 20 then
    match val with
    | .nilIface => unsupported (.noEntry "extern/reflectlite: a nil value of one interface type handed on as a value of another")
    | _ => storeVar dst a val
   else storeVar dst a (.iface src val)
  else panicString ("reflectlite.Set: value of type " ++ (← Rtype.spelt src) ++ " is not assignable to type " ++ (← Rtype.spelt dst))
  pure (.tuple #[])) := rfl
theorem partsCa (a : Addr) (w : World) : (ReflectliteValue.parts (.agg #[.pointer (some ⟨2, 86, none⟩), .pointer (some a), .int .u64 386])).run Tryz.prog w = .ok (some (86, a, 386)) w := by kernel_rfl
theorem partsC (a : Addr) (w : World) : (ReflectliteValue.parts (.agg #[.pointer (some ⟨2, 86, none⟩), .pointer (some a), .int .u64 130])).run Tryz.prog w = .ok (some (86, a, 130)) w := by kernel_rfl
theorem directC (w : World) : (Rtype.directlyAssignable 86 86).run Tryz.prog w = .ok true w := by kernel_rfl
theorem setC (ta b : Addr) (e : Int) (old : Value) (W : World) (hb : W.cell? b = some (.int .i64 e)) (ht : W.cell? ta = some old) (hf : W.frozen? ta = false) :
  (ReflectliteValue.set #[.agg #[.pointer (some ⟨2, 86, none⟩), .pointer (some ta), .int .u64 386], .agg #[.pointer (some ⟨2, 86, none⟩), .pointer (some b), .int .u64 130]]).run Tryz.prog W
   = .ok (.tuple #[]) (W.setCell ta (.int .i64 e)) := by
 rw [rls]
 simp only [Sem.run_bind, partsCa, partsC, Result.andThen]
 simp [ReflectliteValue.flagAddr, loadVar, isAgg, underlying, Tryz.underlying86, hb, Result.andThen, directC, storeVar, Value.cells, storeCells, Addr.add]
 rw [run_store Tryz.prog W ta _ _ (by rfl)]
 simp [ht, hf]
set_option maxHeartbeats 4000000 in
theorem as_hit (c : Int) (g : Nat) (w : World) (hd : Door w) (ht0 : w.cell? ⟨g, 0, none⟩ = some (.int .i64 0)) (hf0 : w.frozen? ⟨g, 0, none⟩ = false) :
  Calls Tryz.prog 45 #[.iface 86 (.int .i64 c), .iface 125 (.pointer (some ⟨g, 0, none⟩))] w fun ev w' => ev = .returned (.bool true) ∧ ∃ W, Grow w W ∧ w' = W.setCell ⟨g, 0, none⟩ (.int .i64 c) := by
 have hg := hd.1
 have hlt := hd.2
 obtain ⟨t, et⟩ : ∃ t : Addr, t = ⟨g, 0, none⟩ := ⟨_, rfl⟩
 rw [← et] at ht0 hf0 ⊢
 have h6 := @run_callFunc_extern Tryz.prog 101 _ (fun args => ReflectliteValue.unpack (args.getD 0 (.tuple #[]))) Tryz.func101 (by kernel_rfl) (by kernel_rfl) (by kernel_rfl) (by kernel_rfl)
 have h7 := @run_callFunc_extern Tryz.prog 102 _ (ReflectliteValue.methodAny (ReflectliteValue.valueError "reflectlite.Value.Type" 0) (fun t _ _ _ => ReflectliteType.toType t)) Tryz.func102 (by kernel_rfl) (by kernel_rfl) (by kernel_rfl) (by kernel_rfl)
 have h8 := @run_callFunc_extern Tryz.prog 103 _ (ReflectliteValue.method (ReflectliteValue.valueError "reflectlite.Value.IsNil" 0) ReflectliteValue.isNil) Tryz.func103 (by kernel_rfl) (by kernel_rfl) (by kernel_rfl) (by kernel_rfl)
 have h27 := @run_callFunc_extern Tryz.prog 178 _ (ReflectliteType.abiMethod fun t => do pure (.int .u8 (← Rtype.kind t))) Tryz.func178 (by kernel_rfl) (by kernel_rfl) (by kernel_rfl) (by kernel_rfl)
 have h37 := @run_callFunc_extern Tryz.prog 190 _ (ReflectliteType.method ReflectliteType.elem) Tryz.func190 (by kernel_rfl) (by kernel_rfl) (by kernel_rfl) (by kernel_rfl)
 have h38 := @run_callFunc_extern Tryz.prog 191 _ (ReflectliteType.relation "Implements" ReflectliteType.implements_) Tryz.func191 (by kernel_rfl) (by kernel_rfl) (by kernel_rfl) (by kernel_rfl)
 have h10 := @run_callFunc_extern Tryz.prog 137 _ ReflectliteType.typeOf Tryz.func137 (by kernel_rfl) (by kernel_rfl) (by kernel_rfl) (by kernel_rfl)
 have h35 := @run_callFunc_extern Tryz.prog 188 _ (ReflectliteType.relation "AssignableTo" ReflectliteType.assignableTo) Tryz.func188 (by kernel_rfl) (by kernel_rfl) (by kernel_rfl) (by kernel_rfl)
 have h11 := @run_callFunc_extern Tryz.prog 138 _ (ReflectliteValue.method (ReflectliteValue.valueError "reflectlite.Value.Elem" 0) ReflectliteValue.elem) Tryz.func138 (by kernel_rfl) (by kernel_rfl) (by kernel_rfl) (by kernel_rfl)
 have h12 := @run_callFunc_extern Tryz.prog 139 _ ReflectliteValue.set Tryz.func139 (by kernel_rfl) (by kernel_rfl) (by kernel_rfl) (by kernel_rfl)
 have tO := typeOfC
 have mA := methodAssignableTo
 have a25 := assignableC
 have v25 := valueOfC
 have f6 := valueOfP
 have f7 := typeP
 have mK := methodKind
 have mE := methodElem
 have mI := methodImplements
 have k27 := kindP
 have k25 := kindC
 have e27 := elemP
 have i25 := implementsC
 have n8 := isNilP ⟨w.heap.size, 0, none⟩ t ((w.alloc (.cells #[.pointer (some t)] 125)).alloc (.cells #[.pointer (some ⟨2, 125, none⟩), .pointer (some ⟨w.heap.size, 0, none⟩), .int .u64 150] 201)) (by simp)
 have hg2 : ((w.alloc (.cells #[.pointer (some t)] 125)).alloc (.cells #[.pointer (some ⟨2, 125, none⟩), .pointer (some ⟨w.heap.size, 0, none⟩), .int .u64 150] 201)).cell? ⟨0, 0, none⟩ = some (.iface 240 (.agg #[.pointer (some ⟨2, 32, none⟩)])) := by
  rw [World.cell?_alloc_lt _ _ ⟨0, 0, none⟩ (by simp), World.cell?_alloc_lt _ _ ⟨0, 0, none⟩ hlt]; exact hg
 have htl : t.block < w.heap.size := by
  rcases Nat.lt_or_ge t.block w.heap.size with h | h
  ·exact h
  ·simp [World.cell?, Array.getElem?_eq_none h] at ht0
 have el := elemVP ⟨w.heap.size, 0, none⟩ t (((w.alloc (.cells #[.pointer (some t)] 125)).alloc (.cells #[.pointer (some ⟨2, 125, none⟩), .pointer (some ⟨w.heap.size, 0, none⟩), .int .u64 150] 201)).alloc (.cells #[.pointer (some ⟨2, 125, none⟩), .pointer (some ⟨w.heap.size, 0, none⟩), .int .u64 150] 201)) (by rw [World.cell?_alloc_lt _ _ ⟨w.heap.size, 0, none⟩ (by simp; omega)]; simp)
 have st := setC t ⟨w.heap.size + 1 + 1 + 1, 0, none⟩ c (.int .i64 0) ((((w.alloc (.cells #[.pointer (some t)] 125)).alloc (.cells #[.pointer (some ⟨2, 125, none⟩), .pointer (some ⟨w.heap.size, 0, none⟩), .int .u64 150] 201)).alloc (.cells #[.pointer (some ⟨2, 125, none⟩), .pointer (some ⟨w.heap.size, 0, none⟩), .int .u64 150] 201)).alloc (.cells #[.int .i64 c] 86))
  (by rw [World.cell?_alloc_at _ _ _ _ (by simp)]; rfl)
  (by rw [World.cell?_alloc_lt _ _ t (by simp; omega), World.cell?_alloc_lt _ _ t (by simp; omega), World.cell?_alloc_lt _ _ t (by simp; omega), World.cell?_alloc_lt _ _ t htl]; exact ht0)
  (by rw [World.frozen?_alloc_old _ _ t (by simp; omega), World.frozen?_alloc_old _ _ t (by simp; omega), World.frozen?_alloc_old _ _ t (by simp; omega), World.frozen?_alloc_old _ _ t (Nat.ne_of_lt htl)]; exact hf0)
 clear hd et
 go_enter Tryz.func45, Tryz.ntmps45
 go_wp2
 refine wp_loop_rounds 1 ?_
 rw [rounds_succ]
 go_wp2
 go_ret
 exact ⟨rfl, _, (((Grow.of_alloc _ _).trans (Grow.of_alloc _ _)).trans (Grow.of_alloc _ _)).trans (Grow.of_alloc _ _), rfl⟩
end Go.Proofs.YtfbimboemahhhaaGreatDoor
namespace Go.Proofs.YtfbimboemahhhaaGreatDoor
open Go.ChangeShapes Go.WideShapes Go.RowKit
set_option maxRecDepth 100000
theorem et_at : Tryz.prog.globalNamed "errors.errorType" = some 0 := by kernel_rfl
theorem rt_at : (Tryz.prog.cutTypes.find? (·.1 == "internal/reflectlite.rtype")).map (·.2) = some 240 := by kernel_rfl
theorem oneRow : ((List.range 301).filter fun t => Tryz.prog.rowNamed t [101, 114, 114, 111, 114]) = [32] := by kernel_rfl
theorem typesSize : Tryz.prog.types.size = 301 := by kernel_rfl
def tied : List (String × DataW Unit) := [("errors.errorType", Rows.laid_errors_errorType)]
theorem door_of_laid {W : World} (h : laidMetH Tryz.prog tied W) : Door W := by
 have h' : laidMet Tryz.prog [] W ∧ handlesMet Tryz.prog tied W := h
 obtain ⟨name, u, ty, e1, e2, e3, e4, e5⟩ := h'.2 _ (List.mem_singleton.2 rfl)
 have en : name = [101, 114, 114, 111, 114] := (Option.some.inj e1).symm
 subst en
 obtain rfl := Option.some.inj (rt_at.symm.trans e2)
 have hm : ty ∈ (List.range 301).filter fun t => Tryz.prog.rowNamed t [101, 114, 114, 111, 114] := List.mem_filter.2 ⟨List.mem_range.2 (by rw [← typesSize]; exact e3), e4⟩
 rw [oneRow] at hm
 obtain rfl := List.mem_singleton.1 hm
 have hh : typeHandle Tryz.prog 32 = .pointer (some ⟨2, 32, none⟩) := by kernel_rfl
 rw [hh] at e5
 have hc : W.cell? ⟨0, 0, none⟩ = some (.iface 240 (.agg #[.pointer (some ⟨2, 32, none⟩)])) := by simpa using World.var?_cell et_at e5 0
 refine ⟨hc, ?_⟩
 rcases Nat.eq_zero_or_pos W.heap.size with h0 | h0
 ·simp [World.cell?, Array.eq_empty_of_size_eq_zero h0] at hc
 ·exact h0
noncomputable def laidWorld (os : Os) : World :=
 let w0 := World.holding Tryz.prog os ⟨#[], #[], []⟩
 { w0 with heap := w0.heap.modify 0 fun
   | .cells _ t frozen => .cells #[.iface 240 (.agg #[.pointer (some ⟨2, 32, none⟩)])] t frozen
   | o => o }
theorem laidWorld_met (os : Os) (args : Array Value) : laidMetH Tryz.prog tied ((laidWorld os).forCall (fun _ _ => 0) ⟨#[], args, []⟩).memory :=
 laidMetH_of_parts (laidMet_nil _ _) (by kernel_rfl)
end Go.Proofs.YtfbimboemahhhaaGreatDoor
