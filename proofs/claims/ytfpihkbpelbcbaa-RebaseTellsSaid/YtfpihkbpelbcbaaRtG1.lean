/-
  Several texts in one: A region that draws its order, walked along a given order of its operations; Blocks of cells, whole; A slice of bytes that reads as a list, and what keeps it so; append onto bytes of the call's own, from bytes of whatever place (nil, empty or not); Slices of structs (rows of z cells each); Two small words on what is returned; Contracts of span.
-/
import Derived.OrdersHeld
import Derived.Deep.RegionHeld3
import Derived.WalkKit
import Derived.Deep.Draws
import Derived.Deep.OwnRows
import Derived.Deep.WholeRow
import Derived.Laws.CopyRow
import Derived.Laws.Tables
import Derived.Laws.IdiomStrings
import Derived.Laws.BytesArg
import Derived.Lib.Hide
import Derived.Maps.AppendAt
import Derived.Laws.MakeOwn
import Derived.Test.YtfpihkbpelbcbaaRows
namespace Go.Proofs.Ytfpihkbpelbcbaa
open Go.RowKit
def Grow (w w' : World) : Prop := Below w.heap.size w w'
theorem Grow.refl (w : World) : Grow w w := Below.refl _ _
theorem Grow.trans {a b c : World} (h : Grow a b) (k : Grow b c) : Grow a c := Below.trans h (Below.mono k h.size)
theorem Grow.trans' {w a b : World} (h : Grow w a) (k : Below w.heap.size a b) : Below w.heap.size w b := Below.trans h k
theorem Grow.of_drewN (w : World) (n : Nat) : Grow w (w.drewN n) := ⟨rfl, rfl, rfl, Nat.le_refl _, fun _ _ => rfl⟩
theorem Grow.of_drew (w : World) : Grow w w.drew := ⟨rfl, rfl, rfl, Nat.le_refl _, fun _ _ => rfl⟩
theorem Grow.of_alloc (w : World) (o : Obj) : Grow w (w.alloc o) := Below.alloc (Below.refl _ _) (Nat.le_refl _) o
theorem wpAnyH_weaken {P : Program} {md : Region.Mode} {ops : Array Oper} {Q : Exit → Act → World → Prop} {S S' : World → Prop} (hS : ∀ w, S' w → S w) :
  ∀ (fuel : Nat) (listed : Array Bool) (a : Act) (w : World), wpAnyH P md ops Q S' fuel listed a w → wpAnyH P md ops Q S fuel listed a w
 | 0, _, _, _, h => h
 | fuel + 1, _, _, _, h => ⟨h.1, fun i hi => wpOp_mono (fun a' w' h' => ⟨hS w' h'.1, wpAnyH_weaken hS fuel _ a' w' h'.2⟩) (h.2 i hi)⟩
abbrev Chain := List (Nat × Bool)
def Chain.after (listed : Array Bool) : Chain → Array Bool
 | [] => listed
 | p :: r => Chain.after (listed.setIfInBounds p.1 true) r
def Chain.ok (ops : Array Oper) : Chain → Array Bool → Bool
 | [], _ => true
 | (i, true) :: r, listed => Region.free .any ops listed i && (Region.ready .any ops listed).contains i && Chain.ok ops r (listed.setIfInBounds i true)
 | (i, false) :: r, listed => Region.ready .any ops listed == [i] && Chain.ok ops r (listed.setIfInBounds i true)
structure Leap (Y : World → World → Prop) : Prop where
 refl : ∀ w, Y w w
 trans : ∀ a b c, Y a b → Y b c → Y a c
theorem leap_grow : Leap Grow := ⟨Grow.refl, fun _ _ _ => Grow.trans⟩
theorem leap_below (B : Nat) : Leap (Below B) := ⟨Below.refl B, fun _ _ _ => Below.trans⟩
def wpChain (P : Program) (ops : Array Oper) (Q : Exit → Act → World → Prop) (Y : World → World → Prop) (R : Act → World → Prop) : Chain → Act → World → Prop
 | [], a, w => R a w
 | (i, true) :: r, a, w => ∃ o, ops[i]? = some o ∧ ((Region.wanted o (yielded ops a.tmps) = true ∧ ∃ v, (∀ W, Y w W → (execOp a.eval o).run P W = .ok (.value v) W) ∧ wpChain P ops Q Y R r (a.put o.dst v) w) ∨
   (Region.wanted o (yielded ops a.tmps) = false ∧ wpChain P ops Q Y R r (a.put o.dst undef) w))
 | (i, false) :: r, a, w => wpOp P ops Q i (fun a' w' => Y w w' ∧ wpChain P ops Q Y R r a' w') a w
section
variable {P : Program} {ops : Array Oper} {Q : Exit → Act → World → Prop} {Y : World → World → Prop} {R : Act → World → Prop}
theorem wpChain_sound (hy : Leap Y) (hs : Region.noSelect ops = true) (hQ : ∀ c a w, ¬ Q (.panic c) a w) (n : Nat) : ∀ (c : Chain) (listed : Array Bool) (a : Act) (w : World),
  (∀ a w, R a w → wpAnyH P .any ops Q (Y w) n (Chain.after listed c) a w) →
  Chain.ok ops c listed = true → wpChain P ops Q Y R c a w → wpAnyH P .any ops Q (Y w) (n + c.length) listed a w
 | [], listed, a, w, hR, _, h => hR a w h
 | (i, true) :: r, listed, a, w, hR, hB, h => by
  simp only [Chain.ok, Bool.and_eq_true] at hB
  obtain ⟨o, ho, hh⟩ := h
  rw [List.length_cons, ← Nat.add_assoc]
  rcases hh with ⟨hw, v, hv, hr⟩ | ⟨hw, hr⟩
  ·exact wpAnyH_take ho hs hB.1.1 hB.1.2 (fun c a w h => absurd h (hQ _ _ _)) (.inl ⟨hw, hv⟩) (hy.refl w) (wpChain_sound hy hs hQ n r _ _ w hR hB.2 hr)
  ·exact wpAnyH_take ho hs hB.1.1 hB.1.2 (fun c a w h => absurd h (hQ _ _ _)) (.inr ⟨hw, rfl⟩) (hy.refl w) (wpChain_sound hy hs hQ n r _ _ w hR hB.2 hr)
 | (i, false) :: r, listed, a, w, hR, hB, h => by
  simp only [Chain.ok, Bool.and_eq_true] at hB
  rw [List.length_cons, ← Nat.add_assoc]
  refine wpAnyH_all (rs := [i]) (by simpa using hB.1) (by simp) ?_
  intro k hk
  obtain rfl : k = i := by simpa using hk
  exact wpOp_mono (fun a' w' h' => ⟨h'.1, wpAnyH_weaken (fun W hW => hy.trans _ _ _ h'.1 hW) _ _ _ _ (wpChain_sound hy hs hQ n r _ a' w' hR hB.2 h'.2)⟩) h
theorem wp_region_leap (hy : Leap Y) {id : Nat} {a : Act} {w : World} (c : Chain) (hm : P.follows .mixedOrders = true) (hs : Region.noSelect ops = true)
  (hB : (Chain.ok ops c (Array.replicate ops.size false) && (c.length == ops.size) && (Region.ready .any ops (Chain.after (Array.replicate ops.size false) c) == [])) = true)
  (h : wpChain P ops (NoPanic Q) Y (fun a w => Q .normal a w) c a w.drew) : (Code.region id ops true).wp P Q a w := by
 simp only [Bool.and_eq_true] at hB
 have hl : c.length = ops.size := by simpa using hB.1.2
 refine wp_region_noPanic (wp_region_held (S := Y w.drew) hm ?_)
 have := wpChain_sound (P := P) (ops := ops) (Q := NoPanic Q) (Y := Y) (R := fun a w => Q .normal a w) hy hs (fun _ _ _ h => h) 0 c (Array.replicate ops.size false) a w.drew
  (fun a w h => ⟨by simpa using hB.2, h⟩) hB.1.1 h
 rw [Nat.zero_add, hl] at this
 exact this
theorem wp_region_chain {id : Nat} {a : Act} {w : World} (c : Chain) (hm : P.follows .mixedOrders = true) (hs : Region.noSelect ops = true)
  (hB : (Chain.ok ops c (Array.replicate ops.size false) && (c.length == ops.size) && (Region.ready .any ops (Chain.after (Array.replicate ops.size false) c) == [])) = true)
  (h : wpChain P ops (NoPanic Q) Grow (fun a w => Q .normal a w) c a w.drew) : (Code.region id ops true).wp P Q a w := wp_region_leap leap_grow c hm hs hB h
theorem at_of_drop {l rest : List Oper} {i : Nat} {o : Oper} (h : l.drop i = o :: rest) : l.toArray[i]? = some o := by
 have : (l.drop i)[0]? = some o := by rw [h]; rfl
 simpa using this
theorem chain_take {l rest : List Oper} {i : Nat} {r : Chain} {a : Act} {w : World} {o : Oper} (hi : l.drop i = o :: rest) (hw : Region.wanted o (yielded l.toArray a.tmps) = true) (v : Value)
  (hv : ∀ W, Y w W → (execOp a.eval o).run P W = .ok (.value v) W) (h : wpChain P l.toArray Q Y R r (a.put o.dst v) w) : wpChain P l.toArray Q Y R ((i, true) :: r) a w := ⟨o, at_of_drop hi, .inl ⟨hw, v, hv, h⟩⟩
theorem chain_skip {l rest : List Oper} {i : Nat} {r : Chain} {a : Act} {w : World} {o : Oper} (hi : l.drop i = o :: rest) (hw : Region.wanted o (yielded l.toArray a.tmps) = false)
  (h : wpChain P l.toArray Q Y R r (a.put o.dst undef) w) : wpChain P l.toArray Q Y R ((i, true) :: r) a w := ⟨o, at_of_drop hi, .inr ⟨hw, h⟩⟩
theorem step_op {l rest : List Oper} {i : Nat} {a : Act} {w : World} {o : Oper} {M : Act → World → Prop} (hi : l.drop i = o :: rest) (hw : Region.wanted o (yielded l.toArray a.tmps) = true)
  (h : ∀ K : Act → World → Prop, (∀ a' w', Y w w' → M a' w' → K a' w') → o.wp P a w K Q) : wpOp P l.toArray Q i (fun a' w' => Y w w' ∧ M a' w') a w := by
 unfold wpOp
 simp only [at_of_drop hi, hw, if_true]
 exact .inl (h _ fun a' w' h1 h2 => ⟨h1, h2⟩)
theorem step_none (hy : Leap Y) {l rest : List Oper} {i : Nat} {a : Act} {w : World} {o : Oper} {M : Act → World → Prop} (hi : l.drop i = o :: rest) (hw : Region.wanted o (yielded l.toArray a.tmps) = false)
  (h : M (a.put o.dst undef) w) : wpOp P l.toArray Q i (fun a' w' => Y w w' ∧ M a' w') a w := by
 unfold wpOp
 simp only [at_of_drop hi, hw]
 exact ⟨hy.refl w, h⟩
theorem chain_only {l rest : List Oper} {i : Nat} {r : Chain} {a : Act} {w : World} {o : Oper} (hi : l.drop i = o :: rest) (hw : Region.wanted o (yielded l.toArray a.tmps) = true)
  (h : ∀ K : Act → World → Prop, (∀ a' w', Y w w' → wpChain P l.toArray Q Y R r a' w' → K a' w') → o.wp P a w K Q) : wpChain P l.toArray Q Y R ((i, false) :: r) a w := step_op hi hw h
theorem chain_none_of (hy : Leap Y) {l rest : List Oper} {i : Nat} {r : Chain} {a : Act} {w : World} {o : Oper} (hi : l.drop i = o :: rest) (hw : Region.wanted o (yielded l.toArray a.tmps) = false)
  (h : wpChain P l.toArray Q Y R r (a.put o.dst undef) w) : wpChain P l.toArray Q Y R ((i, false) :: r) a w := step_none hy hi hw h
theorem chain_none {l rest : List Oper} {i : Nat} {r : Chain} {a : Act} {w : World} {o : Oper} (hi : l.drop i = o :: rest) (hw : Region.wanted o (yielded l.toArray a.tmps) = false)
  (h : wpChain P l.toArray Q Grow R r (a.put o.dst undef) w) : wpChain P l.toArray Q Grow R ((i, false) :: r) a w := chain_none_of leap_grow hi hw h
theorem chain_done {a : Act} {w : World} (h : R a w) : wpChain P ops Q Y R [] a w := h
end
attribute [irreducible] wpChain
def Blk (w : World) (g : Nat) (t : TypeId) (cs : Array Value) : Prop := w.heap[g]? = some (.cells cs t (0, 0))
section
variable {w W : World} {g : Nat} {t : TypeId} {cs : Array Value}
theorem Blk.lt (h : Blk w g t cs) : g < w.heap.size := by
 rcases Nat.lt_or_ge g w.heap.size with h1 | h1
 ·exact h1
 ·rw [Blk, Array.getElem?_eq_none h1] at h; cases h
theorem Blk.new (w : World) (t : TypeId) (cs : Array Value) : Blk (w.alloc (.cells cs t)) w.heap.size t cs := heap_alloc_new w _
theorem Blk.grow (h : Blk w g t cs) (hg : Grow w W) : Blk W g t cs := by rw [Blk, hg.block g h.lt]; exact h
theorem Blk.alloc (h : Blk w g t cs) (o : Obj) : Blk (w.alloc o) g t cs := h.grow (Grow.of_alloc w o)
theorem Blk.drew (h : Blk w g t cs) : Blk w.drew g t cs := h
theorem Blk.at (h : Blk w g t cs) (j : Nat) : w.cell? ⟨g, j, none⟩ = cs[j]? := cell_of_row w g j cs t (0, 0) h
theorem Blk.soft (h : Blk w g t cs) (j : Nat) : w.frozen? ⟨g, j, none⟩ = false := by
 simp only [World.frozen?]; rw [h]; simp
theorem Blk.var {P : Program} (h : Blk w g t cs) (ty : TypeId) (d : TypeDesc) (hu : P.underlying ty = some d) (hd : (match d with | .struct _ | .array _ _ => true | _ => false) = true) (hi : (P.info? ty).map (·.size) = some cs.size) :
  (loadVar ty ⟨g, 0, none⟩).run P w = .ok (.agg cs) w := run_loadVar_row w g t ty cs (0, 0) d h hu hd hi
theorem Blk.set (h : Blk w g t cs) (cs' : Array Value) : Blk (w.setRow g cs') g t cs' := setRow_heap w g cs cs' t (0, 0) h
theorem Blk.other {k : Nat} (h : Blk w g t cs) (hk : g ≠ k) (cs' : Array Value) : Blk (w.setRow k cs') g t cs := by
 rw [Blk, setRow_other w k g cs' hk]; exact h
theorem Blk.cellset (h : Blk w g t cs) {a : Addr} (ha : g ≠ a.block) (v : Value) : Blk (w.setCell a v) g t cs := by rw [Blk, Deep.blk_setCell_other _ _ _ _ ha]; exact h
theorem Grow.set {w0 : World} (h : Grow w0 w) (hg : w0.heap.size ≤ g) (cs' : Array Value) : Grow w0 (w.setRow g cs') :=
 ⟨h.os, h.tape, h.output, by simpa using h.size, fun k hk => (setRow_other w g k cs' (by omega)).trans (h.block k hk)⟩
theorem Grow.cellset {w0 : World} (h : Grow w0 w) (hg : w0.heap.size ≤ g) (i : Nat) (v : Value) : Grow w0 (w.setCell ⟨g, i, none⟩ v) := Below.setCell h hg v
theorem Blk.c2 {a b : Value} (h : Blk w g t #[a, b]) : w.cell? ⟨g, 0, none⟩ = some a ∧ w.cell? ⟨g, 1, none⟩ = some b := ⟨h.at 0, h.at 1⟩
theorem Blk.c4 {a b c d : Value} (h : Blk w g t #[a, b, c, d]) : w.cell? ⟨g, 0, none⟩ = some a ∧ w.cell? ⟨g, 1, none⟩ = some b ∧ w.cell? ⟨g, 2, none⟩ = some c ∧ w.cell? ⟨g, 3, none⟩ = some d := ⟨h.at 0, h.at 1, h.at 2, h.at 3⟩
theorem Blk.c13 {a0 a1 a2 a3 a4 a5 a6 a7 a8 a9 a10 a11 a12 : Value} (h : Blk w g t #[a0, a1, a2, a3, a4, a5, a6, a7, a8, a9, a10, a11, a12]) :
  w.cell? ⟨g, 0, none⟩ = some a0 ∧ w.cell? ⟨g, 1, none⟩ = some a1 ∧ w.cell? ⟨g, 2, none⟩ = some a2 ∧ w.cell? ⟨g, 3, none⟩ = some a3 ∧ w.cell? ⟨g, 4, none⟩ = some a4 ∧ w.cell? ⟨g, 5, none⟩ = some a5 ∧ w.cell? ⟨g, 6, none⟩ = some a6 ∧ w.cell? ⟨g, 7, none⟩ = some a7 ∧ w.cell? ⟨g, 8, none⟩ = some a8 ∧ w.cell? ⟨g, 9, none⟩ = some a9 ∧ w.cell? ⟨g, 10, none⟩ = some a10 ∧ w.cell? ⟨g, 11, none⟩ = some a11 ∧ w.cell? ⟨g, 12, none⟩ = some a12 :=
 ⟨h.at 0, h.at 1, h.at 2, h.at 3, h.at 4, h.at 5, h.at 6, h.at 7, h.at 8, h.at 9, h.at 10, h.at 11, h.at 12⟩
end
theorem blk1 {w W : World} {t1 : TypeId} {c1 : Array Value} (h : w.alloc (.cells c1 t1) = W) : Blk W w.heap.size t1 c1 ∧ Grow w W := by
 subst h; exact ⟨Blk.new _ _ _, Grow.of_alloc _ _⟩
theorem blk2 {w W : World} {t1 t2 : TypeId} {c1 c2 : Array Value} (h : (w.alloc (.cells c1 t1)).alloc (.cells c2 t2) = W) : Blk W w.heap.size t1 c1 ∧ Blk W (w.heap.size + 1) t2 c2 ∧ Grow w W := by
 subst h
 have h2 := Blk.new (w.alloc (.cells c1 t1)) t2 c2
 rw [show (w.alloc (.cells c1 t1)).heap.size = w.heap.size + 1 by simp] at h2
 exact ⟨(Blk.new _ _ _).alloc _, h2, (Grow.of_alloc _ _).trans (Grow.of_alloc _ _)⟩
theorem blk3 {w W : World} {t1 t2 t3 : TypeId} {c1 c2 c3 : Array Value} (h : ((w.alloc (.cells c1 t1)).alloc (.cells c2 t2)).alloc (.cells c3 t3) = W) :
  Blk W w.heap.size t1 c1 ∧ Blk W (w.heap.size + 1) t2 c2 ∧ Blk W (w.heap.size + 1 + 1) t3 c3 ∧ Grow w W := by
 obtain ⟨h1, h2, h3⟩ := blk2 (w := w) (t1 := t1) (t2 := t2) (c1 := c1) (c2 := c2) rfl
 subst h
 have h4 := Blk.new ((w.alloc (.cells c1 t1)).alloc (.cells c2 t2)) t3 c3
 rw [show ((w.alloc (.cells c1 t1)).alloc (.cells c2 t2)).heap.size = w.heap.size + 1 + 1 by simp] at h4
 exact ⟨h1.alloc _, h2.alloc _, h4, h3.trans (Grow.of_alloc _ _)⟩
def Kept (S : Nat → Prop) (w W : World) : Prop := w.heap.size ≤ W.heap.size ∧ ∀ k, k < w.heap.size → S k → W.heap[k]? = w.heap[k]?
theorem leap_kept (S : Nat → Prop) : Leap (Kept S) := ⟨fun _ => ⟨Nat.le_refl _, fun _ _ _ => rfl⟩, fun _ _ _ h k => ⟨Nat.le_trans h.1 k.1, fun i hi hg => (k.2 i (Nat.lt_of_lt_of_le hi h.1) hg).trans (h.2 i hi hg)⟩⟩
theorem Kept.of_grow {S : Nat → Prop} {w W : World} (h : Grow w W) : Kept S w W := ⟨h.size, fun k hk _ => h.block k hk⟩
theorem Blk.kept {S : Nat → Prop} {w W : World} {g : Nat} {t : TypeId} {cs : Array Value} (h : Blk w g t cs) (hb : Kept S w W) (hk : S g) : Blk W g t cs := by rw [Blk, hb.2 g h.lt hk]; exact h
structure RB (w : World) (B : Nat) (A : Option Addr) (n c : Nat) (l : List UInt8) : Prop where
 len : n = l.length
 cap : n ≤ c
 max : c ≤ maxLen
 pos : 0 < n → ∃ b off, A = some ⟨b, off, none⟩ ∧ b < B ∧ ∀ j (h : j < l.length), w.cell? ⟨b, off + j, none⟩ = some (.int .u8 (l[j].toNat : Int))
section
variable {w w' : World} {B B' : Nat} {A : Option Addr} {n c : Nat} {l : List UInt8}
theorem RB.keep (h : RB w B A n c l) (hk : ∀ p : Addr, p.block < B → w'.cell? p = w.cell? p) : RB w' B A n c l :=
 ⟨h.len, h.cap, h.max, fun hn => by
  obtain ⟨b, off, e, hb, hc⟩ := h.pos hn
  exact ⟨b, off, e, hb, fun j hj => (hk ⟨b, off + j, none⟩ hb).trans (hc j hj)⟩⟩
theorem RB.more (h : RB w B A n c l) (hB : B ≤ B') : RB w B' A n c l :=
 ⟨h.len, h.cap, h.max, fun hn => by
  obtain ⟨b, off, e, hb, hc⟩ := h.pos hn
  exact ⟨b, off, e, by omega, hc⟩⟩
theorem RB.belowAt {B0 : Nat} (h : RB w B A n c l) (hb : Below B0 w w') (hB : B ≤ B0) : RB w' B A n c l := h.keep fun _ hp => hb.cell (by omega)
theorem RB.drew (h : RB w B A n c l) : RB w.drew B A n c l := ⟨h.len, h.cap, h.max, h.pos⟩
theorem RB.nil : RB w B none 0 0 [] := ⟨rfl, Nat.le_refl _, Nat.zero_le _, fun h => absurd h (by omega)⟩
theorem RB.sub {b off p m : Nat} (h : RB w B (some ⟨b, off, none⟩) n c l) (hp : p + m ≤ n) (hm : 0 < m) : RB w B (some ⟨b, off + p, none⟩) m (c - p) ((l.drop p).take m) := by
 have hl := h.len
 have hcap := h.cap
 have hmax := h.max
 refine ⟨by simp; omega, by omega, by omega, fun _ => ?_⟩
 obtain ⟨b', off', e, hb, hc⟩ := h.pos (by omega)
 injection e with e
 injection e with e1 e2 _
 subst e1; subst e2
 refine ⟨b, off + p, rfl, hb, fun j hj => ?_⟩
 have hj' : j < m := by simp at hj; omega
 rw [Nat.add_assoc, hc (p + j) (by omega)]
 simp
theorem RB.str {P : Program} (h : RB w B A n c l) (src dst e : TypeId) (hs : P.underlying src = some (.slice e)) (he : P.underlying e = some (.int .u8)) (hd : P.underlying dst = some .string) :
  (convert src dst (.slice A n c)).run P w = .ok (.string ⟨l.toArray⟩) w := by
 obtain rfl := h.len
 rcases A with _ | a
 ·have hl : l = [] := by
   rcases Nat.eq_zero_or_pos l.length with h0 | h0
   ·exact List.eq_nil_of_length_eq_zero h0
   ·obtain ⟨_, _, e, _⟩ := h.pos h0
    cases e
  subst hl
  exact run_convert_bytes_nil w src e hs he _ _ dst hd
 ·refine run_convert_bytes_back w src dst e a c l hs he hd fun j hj => ?_
  obtain ⟨b, off, e, _, hc⟩ := h.pos (by omega)
  injection e with e
  subst e
  have e2 : (⟨b, off, none⟩ : Addr).add j = ⟨b, off + j, none⟩ := by unfold Addr.add; split <;> simp_all
  rw [e2]
  exact hc j hj
theorem RB.of_own {base : Nat} {e : TypeId} (h : w.ownsRow base e 1 (.slice A n c) n (l.map fun b => Value.int .u8 (b.toNat : Int))) : RB w w.heap.size A n c l := by
 have hl : n = l.length := by have := h.1; simp at this; omega
 rcases h.2 with ⟨e0, h0⟩ | ⟨g, cap, cur, hv, _, hh, hnc, hcm, hsz, htk⟩
 ·injection e0 with e1 e2 e3
  subst e1; subst e3
  exact ⟨hl, by omega, Nat.zero_le _, fun hp => by omega⟩
 ·injection hv with hA _ hc
  subst hA; subst hc
  refine ⟨hl, hnc, hcm, fun _ => ⟨g, 0, rfl, ?_, fun j hj => ?_⟩⟩
  ·rcases Nat.lt_or_ge g w.heap.size with h1 | h1
   ·exact h1
   ·rw [Array.getElem?_eq_none h1] at hh; cases hh
  ·rw [cell_of_row w g (0 + j) cur e (0, 0) hh, Nat.zero_add]
   have e1 : (cur.toList.take (n * 1))[j]? = some (Value.int .u8 (l[j].toNat : Int)) := by
    rw [htk]; simp [hj]
   rw [List.getElem?_take_of_lt (by omega)] at e1
   simpa using e1
end
def byt (b : UInt8) : Value := .int .u8 (b.toNat : Int)
def OB (w : World) (base : Nat) (e : TypeId) (A : Option Addr) (n c : Nat) (l : List UInt8) : Prop :=
 w.ownsRow base e 1 (.slice A n c) n (l.map byt)
theorem OB.rb {w : World} {base : Nat} {e : TypeId} {A : Option Addr} {n c : Nat} {l : List UInt8} (h : OB w base e A n c l) : RB w w.heap.size A n c l := RB.of_own h
theorem OB.len {w : World} {base : Nat} {e : TypeId} {A : Option Addr} {n c : Nat} {l : List UInt8} (h : OB w base e A n c l) : n = l.length := h.rb.len
theorem OB.nil {w : World} {base : Nat} {e : TypeId} : OB w base e none 0 0 [] := World.ownsRow_nil _ _ _ _
theorem RB.lit (w : World) (t : TypeId) (l : List UInt8) (h : l.length ≤ maxLen) : RB (w.alloc (.cells (l.map byt).toArray t)) (w.heap.size + 1) (some ⟨w.heap.size, 0, none⟩) l.length l.length l :=
 ⟨rfl, Nat.le_refl _, h, fun _ => ⟨w.heap.size, 0, rfl, by omega, fun j hj => by
  rw [Nat.zero_add, World.cell?_alloc_mark]
  simp [hj, byt]⟩⟩
theorem OB.lit (w : World) (base : Nat) (t : TypeId) (l : List UInt8) (h : l.length ≤ maxLen) (hb : base ≤ w.heap.size) : OB (w.alloc (.cells (l.map byt).toArray t)) base t (some ⟨w.heap.size, 0, none⟩) l.length l.length l :=
 ⟨by simp, .inr ⟨w.heap.size, l.length, (l.map byt).toArray, rfl, hb, heap_alloc_new w _, Nat.le_refl _, h, by simp, by simp [List.take_of_length_le]⟩⟩
theorem OB.keep {w w' : World} {base : Nat} {e : TypeId} {A : Option Addr} {n c : Nat} {l : List UInt8} (h : OB w base e A n c l) (hb : Below w.heap.size w w') : OB w' base e A n c l := by
 refine ⟨h.1, ?_⟩
 rcases h.2 with h0 | ⟨g, cap, cur, hv, hg, hh, r⟩
 ·exact .inl h0
 ·refine .inr ⟨g, cap, cur, hv, hg, ?_, r⟩
  rw [hb.block g ?_]
  ·exact hh
  ·rcases Nat.lt_or_ge g w.heap.size with h1 | h1
   ·exact h1
   ·rw [Array.getElem?_eq_none h1] at hh; cases hh
theorem OB.alloc {w : World} {base : Nat} {e : TypeId} {A : Option Addr} {n c : Nat} {l : List UInt8} (h : OB w base e A n c l) (o : Obj) : OB (w.alloc o) base e A n c l :=
 h.keep (Below.alloc (Below.refl _ _) (Nat.le_refl _) o)
theorem OB.mono {w : World} {base base' : Nat} {e : TypeId} {A : Option Addr} {n c : Nat} {l : List UInt8} (h : OB w base e A n c l) (hb : base' ≤ base) : OB w base' e A n c l := by
 refine ⟨h.1, ?_⟩
 rcases h.2 with h0 | ⟨g, cap, cur, hv, hg, r⟩
 ·exact .inl h0
 ·exact .inr ⟨g, cap, cur, hv, by omega, r⟩
theorem byt_oneCell (l : List UInt8) : ∀ u ∈ l.map byt, u.oneCell' = true := by
 intro u hu
 obtain ⟨b, _, rfl⟩ := List.mem_map.1 hu
 rfl
theorem run_appendB {P : Program} (w : World) (base : Nat) (t ty e : TypeId) (ht : P.underlying t = some (.slice e)) (hinfo : (P.info? e).map (fun i => (i.zero, i.size, i.bytes)) = some (some (.int .u8 0), 1, 1))
  (A : Option Addr) (n c : Nat) (l : List UInt8) (hown : OB w base e A n c l) (B : Nat) (A' : Option Addr) (m c' : Nat) (l' : List UInt8) (hr : RB w B A' m c' l')
  (hsz : n + m ≤ 140737488355328) (hbase : base ≤ w.heap.size) :
  ∃ A2 c2 w', (Builtin.append_ #[t, t] ty #[.slice A n c, .slice A' m c']).run P w = .ok (.slice A2 (n + m) c2) w' ∧ OB w' base e A2 (n + m) c2 (l ++ l') ∧ Below base w w' := by
 obtain ⟨i, hi, hz, hs, hby⟩ := info_parts hinfo
 have hbel : ∀ {w' : World}, w.grownBy w' (Value.ownBlock (.slice A n c)) → Below base w w' := fun hg =>
  (Below.refl base w).grown hg hbase fun k hk => (hown.lt k hk).1
 rcases A' with _ | a
 ·have hm : m = 0 := by
   rcases Nat.eq_zero_or_pos m with h0 | h0
   ·exact h0
   ·obtain ⟨_, _, h, _⟩ := hr.pos h0
    cases h
  subst hm
  have hl' : l' = [] := List.eq_nil_of_length_eq_zero hr.len.symm
  subst hl'
  refine ⟨A, c, w, ?_, by simpa using hown, Below.refl _ _⟩
  rcases hown.2 with ⟨h0, h1⟩ | ⟨g, cap, cur, h0, _, _, hnc, _⟩
  ·injection h0 with e1 e2 e3
   subst e1; subst e2; subst e3
   simp [Builtin.append_, run_underlying ht, sizeOf, typeInfo, hi, Builtin.lenOf, Builtin.firstCells]
  ·injection h0 with e1 e2 e3
   subst e1; subst e3
   simp [Builtin.append_, run_underlying ht, sizeOf, typeInfo, hi, Builtin.lenOf, Builtin.firstCells, hnc, storeCells]
 ·obtain ⟨v', w', hrun, h2, h3, _, _⟩ := run_append_own_at (P := P) w base t ty e i (.int .u8 0) 1 1 ht hi hz hs hby rfl (by omega) _ n _ hown a m c' (l'.map byt)
   (by simp [hr.len]) (fun j u hj => by
    have hjl : j < l'.length := by have := (List.getElem?_eq_some_iff.1 hj).1; simpa using this
    obtain ⟨b, off, e1, _, hc⟩ := hr.pos (by have := hr.len; omega)
    injection e1 with e1
    subst e1
    have e2 : (⟨b, off, none⟩ : Addr).add j = ⟨b, off + j, none⟩ := by unfold Addr.add; split <;> simp_all
    rw [e2, hc j hjl]
    simp [hjl, byt] at hj
    rw [← hj]) (byt_oneCell l') (by unfold maxLen; omega) (by omega) hbase
  have hv : ∃ A2 c2, v' = .slice A2 (n + m) c2 := by
   rcases h2.2 with ⟨h0, h1⟩ | ⟨g, cap, cur, h0, _⟩
   ·exact ⟨none, 0, by rw [h0, h1]⟩
   ·exact ⟨_, _, h0⟩
  obtain ⟨A2, c2, rfl⟩ := hv
  exact ⟨A2, c2, w', hrun, by simpa [OB] using h2, hbel h3⟩
def own (A : Option Addr) : Option Nat := A.map (·.block)
theorem own_slice (A : Option Addr) (n c : Nat) : (Value.slice A n c).ownBlock = own A := by cases A <;> rfl
theorem wpList_appendB {P : Program} (w : World) {ops : Array Oper} {rest : List Oper} {o : Oper} {a : Act} {Q : Exit → Act → World → Prop} (hgd : o.guard = none) (s x : Operand) (t : TypeId)
  (ho : o.op = .call { callee := .builtin .append, args := #[s, x], argTypes := #[t, t] })
  (base : Nat) (e : TypeId) (ht : P.underlying t = some (.slice e)) (hinfo : (P.info? e).map (fun i => (i.zero, i.size, i.bytes)) = some (some (.int .u8 0), 1, 1))
  (A : Option Addr) (n c : Nat) (l : List UInt8) (hs : a.eval s = .slice A n c) (hown : OB w base e A n c l)
  (B : Nat) (A' : Option Addr) (m c' : Nat) (l' : List UInt8) (hx : a.eval x = .slice A' m c') (hr : RB w B A' m c' l')
  (hsz : n + m ≤ 140737488355328) (hbase : base ≤ w.heap.size)
  (h : ∀ A2 c2 w', OB w' base e A2 (n + m) c2 (l ++ l') → Below base w w' → wpList P ops Q rest (a.put o.dst (.slice A2 (n + m) c2)) w') : wpList P ops Q (o :: rest) a w := by
 refine wpList_plain hgd fun K hK => ?_
 obtain ⟨A2, c2, w', hrun, h2, h3⟩ := run_appendB (P := P) w base t o.type e ht hinfo A n c l hown B A' m c' l' hr hsz hbase
 unfold Oper.wp execOp
 simp only [ho, resolve, invoke, builtin, Sem.run_bind, Sem.run_pure, Result.andThen_ok, List.map_toArray, List.map_cons, List.map_nil, hs, hx, hrun]
 exact hK _ _ (h A2 c2 w' h2 h3)
theorem Blk.below {w W : World} {g B : Nat} {t : TypeId} {cs : Array Value} (h : Blk w g t cs) (hb : Below B w W) (hg : g < B) : Blk W g t cs := by rw [Blk, hb.block g hg]; exact h
structure ZS (w : World) (B z : Nat) (A : Option Addr) (n c : Nat) (l : List (Array Value)) : Prop where
 len : n = l.length
 cap : n ≤ c
 max : c ≤ maxLen
 size : ∀ r ∈ l, r.size = z
 pos : 0 < n → ∃ b off, A = some ⟨b, off, none⟩ ∧ b < B ∧ ∀ j (h : j < l.length) i v, l[j][i]? = some v → w.cell? ⟨b, off + j * z + i, none⟩ = some v
section
variable {w w' : World} {B z : Nat} {A : Option Addr} {n c : Nat} {l : List (Array Value)}
theorem ZS.keep (h : ZS w B z A n c l) (hk : ∀ p : Addr, p.block < B → w'.cell? p = w.cell? p) : ZS w' B z A n c l :=
 ⟨h.len, h.cap, h.max, h.size, fun hn => by
  obtain ⟨b, off, e, hb, hc⟩ := h.pos hn
  exact ⟨b, off, e, hb, fun j hj i v hv => (hk ⟨b, off + j * z + i, none⟩ hb).trans (hc j hj i v hv)⟩⟩
theorem ZS.belowAt {B0 : Nat} (h : ZS w B z A n c l) (hb : Below B0 w w') (hB : B ≤ B0) : ZS w' B z A n c l := h.keep fun _ hp => hb.cell (by omega)
theorem ZS.more {B' : Nat} (h : ZS w B z A n c l) (hB : B ≤ B') : ZS w B' z A n c l :=
 ⟨h.len, h.cap, h.max, h.size, fun hn => by
  obtain ⟨b, off, e, hb, hc⟩ := h.pos hn
  exact ⟨b, off, e, by omega, hc⟩⟩
theorem ZS.grow (h : ZS w w.heap.size z A n c l) (hg : Grow w w') : ZS w' w'.heap.size z A n c l := (h.belowAt hg (Nat.le_refl _)).more hg.size
theorem ZS.nil : ZS w B z none 0 0 [] := ⟨rfl, Nat.le_refl _, Nat.zero_le _, fun _ h => absurd h (by simp), fun h => absurd h (by omega)⟩
theorem ZS.exec {P : Program} {b off j : Nat} (h : ZS w B z (some ⟨b, off, none⟩) n c l) (hj : j < l.length) {o : Oper} {ev : Operand → Value} (ty : TypeId) (x : Operand) (ho : o.op = .load ty x) (hx : ev x = .pointer (some ⟨b, off + j * z, none⟩))
  (d : TypeDesc) (hu : P.underlying ty = some d) (hd : (match d with | .struct _ | .array _ _ => true | _ => false) = true) (hi : (P.info? ty).map (·.size) = some z) :
  (execOp ev o).run P w = .ok (.value (.agg l[j])) w := by
 have hz : l[j].size = z := h.size _ (List.getElem_mem hj)
 obtain ⟨b', off', e, _, hc⟩ := h.pos (by have := h.len; omega)
 injection e with e
 injection e with e1 e2
 subst e1; subst e2
 have hl : (loadCells ⟨b, off + j * z, none⟩ l[j].toList.length).run P w = .ok l[j].toList.toArray w :=
  run_loadCells_list (P := P) w ⟨b, off + j * z, none⟩ l[j].toList (fun i v hv => by
   have hadd : (⟨b, off + j * z, none⟩ : Addr).add i = ⟨b, off + j * z + i, none⟩ := by unfold Addr.add; split <;> simp_all
   rw [hadd]
   exact hc j hj i v (by simpa using hv))
 have hv : (loadVar ty ⟨b, off + j * z, none⟩).run P w = .ok (.agg l[j]) w := by
  cases hq : P.info? ty with
  | none => simp [hq] at hi
  | some i =>
   have hs : i.size = l[j].size := by rw [hz]; simpa [hq] using hi
   have hagg : (isAgg ty).run P w = .ok true w := by
    unfold isAgg
    rw [Sem.run_bind, run_underlying hu w]
    cases d <;> simp_all
   rw [Array.toArray_toList] at hl
   rw [Array.length_toList] at hl
   simp [loadVar, hagg, sizeOf, typeInfo, hq, hs, hl]
 unfold execOp
 simp only [ho, hx, Instr.loadAt, Instr.sureAddr, Sem.run_bind, Sem.run_pure, Result.andThen_ok, hv]
theorem wpList_load_zs {P : Program} {ops : Array Oper} {rest : List Oper} {o : Oper} {a : Act} {Q : Exit → Act → World → Prop} {b off j : Nat} (h : ZS w B z (some ⟨b, off, none⟩) n c l) (hj : j < l.length) (hgd : o.guard = none) (ty : TypeId) (x : Operand) (ho : o.op = .load ty x)
  (hx : a.eval x = .pointer (some ⟨b, off + j * z, none⟩)) (d : TypeDesc) (hu : P.underlying ty = some d) (hd : (match d with | .struct _ | .array _ _ => true | _ => false) = true) (hi : (P.info? ty).map (·.size) = some z)
  (r : Array Value) (hr : l[j] = r) (hn : wpList P ops Q rest (a.put o.dst (.agg r)) w) : wpList P ops Q (o :: rest) a w := by
 refine wpList_plain hgd fun K hK => ?_
 have := h.exec hj (ev := a.eval) ty x ho hx d hu hd hi
 unfold Oper.wp
 rw [this, hr]
 exact hK _ _ hn
end
theorem flat_at {z : Nat} : ∀ (l : List (Array Value)), (∀ r ∈ l, r.size = z) → ∀ (j : Nat) (h : j < l.length) (i : Nat), i < z → (l.flatMap Array.toList)[j * z + i]? = l[j][i]?
 | [], _, _, h, _, _ => absurd h (by simp)
 | r :: l, hs, 0, _, i, hi => by
  have hr := hs r (by simp)
  simp only [List.flatMap_cons, Nat.zero_mul, Nat.zero_add, List.getElem_cons_zero]
  rw [List.getElem?_append_left (by simpa [hr] using hi)]
  simp
 | r :: l, hs, j + 1, h, i, hi => by
  have hr := hs r (by simp)
  have ih := flat_at l (fun x hx => hs x (by simp [hx])) j (by simpa using h) i hi
  simp only [List.flatMap_cons, List.getElem_cons_succ]
  rw [List.getElem?_append_right (by simp [hr, Nat.succ_mul]; omega), ← ih]
  congr 1
  simp [hr, Nat.succ_mul]; omega
def ZO (w : World) (base : Nat) (e : TypeId) (z : Nat) (A : Option Addr) (n c : Nat) (l : List (Array Value)) : Prop :=
 w.ownsRow base e z (.slice A n c) n (l.flatMap Array.toList) ∧ n = l.length ∧ ∀ r ∈ l, r.size = z
section
variable {w w' : World} {base : Nat} {e : TypeId} {z : Nat} {A : Option Addr} {n c : Nat} {l : List (Array Value)}
theorem ZO.nil : ZO w base e z none 0 0 [] := ⟨World.ownsRow_nil _ _ _ _, rfl, fun _ h => absurd h (by simp)⟩
theorem ZO.keep (h : ZO w base e z A n c l) (hb : Below w.heap.size w w') : ZO w' base e z A n c l := by
 refine ⟨⟨h.1.1, ?_⟩, h.2⟩
 rcases h.1.2 with h0 | ⟨g, cap, cur, hv, hg, hh, r⟩
 ·exact .inl h0
 ·refine .inr ⟨g, cap, cur, hv, hg, ?_, r⟩
  rw [hb.block g ?_]
  ·exact hh
  ·rcases Nat.lt_or_ge g w.heap.size with h1 | h1
   ·exact h1
   ·rw [Array.getElem?_eq_none h1] at hh; cases hh
theorem ZO.zs (h : ZO w base e z A n c l) : ZS w w.heap.size z A n c l := by
 rcases h.1.2 with ⟨e0, h0⟩ | ⟨g, cap, cur, hv, _, hh, hnc, hcm, hsz, htk⟩
 ·injection e0 with e1 e2 e3
  subst e1; subst e3
  exact ⟨h.2.1, by omega, Nat.zero_le _, h.2.2, fun hp => by omega⟩
 ·injection hv with hA _ hc
  subst hA; subst hc
  refine ⟨h.2.1, hnc, hcm, h.2.2, fun _ => ⟨g, 0, rfl, ?_, fun j hj i v hv => ?_⟩⟩
  ·rcases Nat.lt_or_ge g w.heap.size with h1 | h1
   ·exact h1
   ·rw [Array.getElem?_eq_none h1] at hh; cases hh
  ·have hiz : i < z := by
    have h1 := h.2.2 _ (List.getElem_mem hj)
    have h2 := (Array.getElem?_eq_some_iff.1 hv).1
    omega
   rw [cell_of_row w g (0 + j * z + i) cur e (0, 0) hh, Nat.zero_add]
   have e1 := flat_at l h.2.2 j hj i hiz
   rw [hv, ← htk] at e1
   have hlt : j * z + i < n * z := by
    have : j + 1 ≤ n := by rw [h.2.1]; exact hj
    have := Nat.mul_le_mul_right z this
    rw [Nat.succ_mul] at this
    omega
   rw [List.getElem?_take_of_lt hlt] at e1
   simpa using e1
theorem ZO.ge (h : ZO w base e z A n c l) {g : Nat} (hg : own A = some g) : base ≤ g := by
 rcases h.1.2 with ⟨hv, _⟩ | ⟨g', cap, cur, hv, hb, _⟩
 ·injection hv with e1 _ _
  subst e1
  cases hg
 ·injection hv with e1 _ _
  subst e1
  have e3 : g' = g := Option.some.inj hg
  omega
theorem ZO.mono {base' : Nat} (h : ZO w base e z A n c l) (hb : base' ≤ base) : ZO w base' e z A n c l := by
 refine ⟨⟨h.1.1, ?_⟩, h.2⟩
 rcases h.1.2 with h0 | ⟨g, cap, cur, hv, hg, r⟩
 ·exact .inl h0
 ·exact .inr ⟨g, cap, cur, hv, by omega, r⟩
theorem ZO.room (w : World) (base : Nat) (t : TypeId) (c z : Nat) (cs : Array Value) (h : c ≤ maxLen) (hb : base ≤ w.heap.size) (hs : cs.size = c * z) : ZO (w.alloc (.cells cs t)) base t z (some ⟨w.heap.size, 0, none⟩) 0 c [] :=
 ⟨⟨by simp, .inr ⟨w.heap.size, c, cs, rfl, hb, heap_alloc_new w _, Nat.zero_le _, h, hs, by simp⟩⟩, rfl, fun _ h => absurd h (by simp)⟩
end
theorem run_appendZ {P : Program} (w : World) (base : Nat) (t ty e : TypeId) (zv : Value) (z bytes : Nat) (ht : P.underlying t = some (.slice e))
  (hinfo : (P.info? e).map (fun i => (i.zero, i.size, i.bytes)) = some (some zv, z, bytes)) (hzs : zv.cells.size = z) (hz0 : 0 < z)
  (A : Option Addr) (n c : Nat) (l : List (Array Value)) (hown : ZO w base e z A n c l) (g : Nat) (t' : TypeId) (r : Array Value) (hr : Blk w g t' r) (hrz : r.size = z) (h1 : r.all (·.oneCell') = true)
  (h63 : n + 1 ≤ maxLen) (hsz : (n + 1) * bytes ≤ 140737488355328) (hbase : base ≤ w.heap.size) :
  ∃ A2 c2 w', (Builtin.append_ #[t, t] ty #[.slice A n c, .slice (some ⟨g, 0, none⟩) 1 1]).run P w = .ok (.slice A2 (n + 1) c2) w' ∧ ZO w' base e z A2 (n + 1) c2 (l ++ [r]) ∧ w.grownBy w' (own A) ∧ (own A2 = own A ∨ own A2 = some w.heap.size) := by
 obtain ⟨i, hi, hz, hs, hby⟩ := info_parts hinfo
 obtain ⟨v', w', hrun, h2, h3, _, h5⟩ := run_append_own_at (P := P) w base t ty e i zv z bytes ht hi hz hs hby hzs hz0 _ n _ hown.1 ⟨g, 0, none⟩ 1 1 r.toList
  (by simp [hrz]) (fun j u hj => by
   have e2 : (⟨g, 0, none⟩ : Addr).add j = ⟨g, j, none⟩ := by unfold Addr.add; split <;> simp_all
   rw [e2, hr.at]
   simpa using hj) (by intro u hu; exact (Array.all_eq_true_iff_forall_mem.1 h1) u (by simpa using hu)) h63 hsz hbase
 have hv : ∃ A2 c2, v' = .slice A2 (n + 1) c2 := by
  rcases h2.2 with ⟨h0, h1⟩ | ⟨g, cap, cur, h0, _⟩
  ·omega
  ·exact ⟨_, _, h0⟩
 obtain ⟨A2, c2, rfl⟩ := hv
 rw [own_slice, own_slice] at h5
 rw [own_slice] at h3
 refine ⟨A2, c2, w', hrun, ⟨?_, by simp [hown.2.1], fun x hx => ?_⟩, h3, h5⟩
 ·rw [List.flatMap_append]
  simpa using h2
 ·rcases List.mem_append.1 hx with h | h
  ·exact hown.2.2 x h
  ·obtain rfl : x = r := by simpa using h
   exact hrz
theorem wp_appendZ {P : Program} (w : World) {o : Oper} {a : Act} {K : Act → World → Prop} {Q : Exit → Act → World → Prop} (s x : Operand) (t : TypeId)
  (ho : o.op = .call { callee := .builtin .append, args := #[s, x], argTypes := #[t, t] })
  (base : Nat) (e : TypeId) (zv : Value) (z bytes : Nat) (ht : P.underlying t = some (.slice e)) (hinfo : (P.info? e).map (fun i => (i.zero, i.size, i.bytes)) = some (some zv, z, bytes)) (hzs : zv.cells.size = z) (hz0 : 0 < z)
  (A : Option Addr) (n c : Nat) (l : List (Array Value)) (hs : a.eval s = .slice A n c) (hown : ZO w base e z A n c l)
  (g : Nat) (t' : TypeId) (r : Array Value) (hx : a.eval x = .slice (some ⟨g, 0, none⟩) 1 1) (hr : Blk w g t' r) (hrz : r.size = z) (h1 : r.all (·.oneCell') = true)
  (h63 : n + 1 ≤ maxLen) (hsz : (n + 1) * bytes ≤ 140737488355328) (hbase : base ≤ w.heap.size)
  (h : ∀ A2 c2 w', ZO w' base e z A2 (n + 1) c2 (l ++ [r]) → w.grownBy w' (own A) → (own A2 = own A ∨ own A2 = some w.heap.size) → K (a.put o.dst (.slice A2 (n + 1) c2)) w') : o.wp P a w K Q := by
 obtain ⟨A2, c2, w', hrun, h2, h3, h4⟩ := run_appendZ (P := P) w base t o.type e zv z bytes ht hinfo hzs hz0 A n c l hown g t' r hr hrz h1 h63 hsz hbase
 unfold Oper.wp execOp
 simp only [ho, resolve, invoke, builtin, Sem.run_bind, Sem.run_pure, Result.andThen_ok, List.map_toArray, List.map_cons, List.map_nil, hs, hx, hrun]
 exact h A2 c2 w' h2 h3 h4
theorem ret_int {k : IntKind} {a b : Int} (h : a = b) : Ending.returned (.int k a) = .returned (.int k b) := by rw [h]
theorem ret_bool {a b : Bool} (h : a = b) : Ending.returned (.bool a) = .returned (.bool b) := by rw [h]
def lastN (a n : Nat) : Nat := min (a + n - 1) 18446744073709551615
def belowN (a n v : Nat) : Bool := if n = 0 then decide (a ≤ v) else decide (lastN a n < v)
def belowAt (l : List (Nat × Nat)) (i k : Nat) : Bool := belowN (l.getD i (0, 0)).1 (l.getD i (0, 0)).2 (l.getD k (0, 0)).1
def Up (l : List (Nat × Nat)) : Prop := ∀ k, 0 < k → k < l.length → belowAt l (k - 1) k = true
def rises (l : List (Nat × Nat)) : Bool := (List.range l.length).all fun k => decide (k = 0) || belowAt l (k - 1) k
theorem rises_iff (l : List (Nat × Nat)) : rises l = true ↔ Up l := by
 unfold rises Up
 rw [List.all_eq_true]
 constructor
 ·intro h k h0 hk
  have := h k (by simpa using hk)
  rw [Bool.or_eq_true, decide_eq_true_iff] at this
  rcases this with h | h
  ·omega
  ·exact h
 ·intro h k hk
  rw [Bool.or_eq_true, decide_eq_true_iff]
  rcases Nat.eq_zero_or_pos k with h0 | h0
  ·exact .inl h0
  ·exact .inr (h k h0 (by simpa using hk))
end Go.Proofs.Ytfpihkbpelbcbaa
