/-
  Several texts in one: Plain mathematics of rows; Slices of numbers; Small words that the layers behind head share; Models, as plain data; A plan, as plain data; The contracts of head; append of one struct in a list of operations; a store beside structs of the call's own.
-/
import Derived.Test.YtfbimboemahhhaaGreatDoorTfG3
import Derived.Test.YtfbimboemahhhaaGreatDoorTfG1
import Derived.Maps.AppendAt
import Derived.Test.YtfbimboemahhhaaGreatDoorTfG2
import Derived.Laws.Bits64b
namespace Go.Proofs.YtfbimboemahhhaaGreatDoor
open Go.Lib (hid)
def sumN : List Nat → Nat
 | [] => 0
 | n :: r => n + sumN r
def rowB (big : Bool) : List (Nat × Nat) → List UInt8
 | [] => []
 | q :: r => putB q.1 q.2 big ++ rowB big r
def rowF : List (Nat × Nat) → Bool
 | [] => true
 | q :: r => decide (q.1 < 256 ^ q.2) && rowF r
def nums (l : List UInt8) (big : Bool) : Nat → List Nat → List Nat
 | _, [] => []
 | p, n :: r => getB ((l.drop p).take n) big :: nums l big (p + n) r
theorem rowB_append (big : Bool) : ∀ a b : List (Nat × Nat), rowB big (a ++ b) = rowB big a ++ rowB big b
 | [], _ => rfl
 | q :: a, b => by simp [rowB, rowB_append big a b]
theorem rowF_append : ∀ a b : List (Nat × Nat), rowF (a ++ b) = (rowF a && rowF b)
 | [], _ => by simp [rowF]
 | q :: a, b => by simp [rowF, rowF_append a b, Bool.and_assoc]
theorem length_rowB (big : Bool) : ∀ q : List (Nat × Nat), (rowB big q).length = sumN (q.map (·.2))
 | [] => rfl
 | x :: q => by simp [rowB, length_putB, sumN, length_rowB big q]
theorem length_nums (l : List UInt8) (big : Bool) : ∀ (n : List Nat) (p : Nat), (nums l big p n).length = n.length
 | [], _ => rfl
 | n :: r, p => by simp [nums, length_nums l big r]
theorem take_snoc_pair (q : List (Nat × Nat)) (k : Nat) (h : k < q.length) : q.take (k + 1) = q.take k ++ [q[k]] := by
 rw [List.take_succ_eq_append_getElem h]
theorem rowB_succ (big : Bool) (q : List (Nat × Nat)) (k : Nat) (h : k < q.length) : rowB big (q.take (k + 1)) = rowB big (q.take k) ++ putB q[k].1 q[k].2 big := by
 rw [take_snoc_pair q k h, rowB_append]; simp [rowB]
theorem rowF_succ (q : List (Nat × Nat)) (k : Nat) (h : k < q.length) : rowF (q.take (k + 1)) = (rowF (q.take k) && decide (q[k].1 < 256 ^ q[k].2)) := by
 rw [take_snoc_pair q k h, rowF_append]; simp [rowF]
theorem sumN_append : ∀ a b : List Nat, sumN (a ++ b) = sumN a + sumN b
 | [], b => by simp [sumN]
 | n :: a, b => by simp [sumN, sumN_append a b, Nat.add_assoc]
theorem take_snoc_nat (q : List Nat) (k : Nat) (h : k < q.length) : q.take (k + 1) = q.take k ++ [q[k]] := by
 rw [List.take_succ_eq_append_getElem h]
theorem sumN_succ (n : List Nat) (k : Nat) (h : k < n.length) : sumN (n.take (k + 1)) = sumN (n.take k) + n[k] := by
 rw [take_snoc_nat n k h, sumN_append]; simp [sumN]
theorem sumN_le (n : List Nat) (k : Nat) : sumN (n.take k) ≤ sumN n := by
 have := sumN_append (n.take k) (n.drop k)
 rw [List.take_append_drop] at this
 omega
theorem nums_rowB (big : Bool) (post : List UInt8) : ∀ (q : List (Nat × Nat)) (pre : List UInt8), rowF q = true → nums (pre ++ rowB big q ++ post) big pre.length (q.map (·.2)) = q.map (·.1)
 | [], _, _ => rfl
 | x :: q, pre, h => by
  simp only [rowF, Bool.and_eq_true, decide_eq_true_eq] at h
  have h1 := nums_rowB big post q (pre ++ putB x.1 x.2 big) h.2
  have e : pre ++ rowB big (x :: q) ++ post = pre ++ putB x.1 x.2 big ++ rowB big q ++ post := by simp [rowB]
  rw [List.length_append, length_putB] at h1
  simp only [List.map_cons, nums, e, h1]
  congr 1
  rw [List.append_assoc, List.append_assoc, List.drop_append_of_le_length (Nat.le_refl _), List.drop_length, List.nil_append, List.take_append_of_le_length (by rw [length_putB]; exact Nat.le_refl _), List.take_of_length_le (by rw [length_putB]; exact Nat.le_refl _), getB_putB, Nat.mod_eq_of_lt h.1]
theorem nums_lt (l : List UInt8) (big : Bool) : ∀ (n : List Nat) (p k : Nat) (h : k < (nums l big p n).length), (nums l big p n)[k] < 256 ^ (n.getD k 0)
 | [], _, _, h => absurd h (by simp [nums])
 | n :: r, p, 0, _ => by
  simp only [nums, List.getElem_cons_zero, List.getD_cons_zero]
  have := getB_lt ((l.drop p).take n) big
  refine Nat.lt_of_lt_of_le this (Nat.pow_le_pow_right (by omega) (by simp; omega))
 | n :: r, p, k + 1, h => by
  simp only [nums, List.getElem_cons_succ, List.getD_cons_succ]
  exact nums_lt l big r (p + n) k _
end Go.Proofs.YtfbimboemahhhaaGreatDoor
namespace Go.Proofs.YtfbimboemahhhaaGreatDoor
open Go.Lib (hid)
open Go.RowKit
def ival (k : IntKind) (n : Nat) : Value := .int k (n : Int)
structure NS (w : World) (B : Nat) (k : IntKind) (A : Option Addr) (n c : Nat) (l : List Nat) : Prop where
 len : n = l.length
 cap : n ≤ c
 max : c ≤ maxLen
 pos : 0 < n → ∃ b off, A = some ⟨b, off, none⟩ ∧ b < B ∧ ∀ j (h : j < l.length), w.cell? ⟨b, off + j, none⟩ = some (.int k (l[j] : Int))
section
variable {w w' : World} {B : Nat} {k : IntKind} {A : Option Addr} {n c : Nat} {l : List Nat}
theorem NS.keep (h : NS w B k A n c l) (hk : ∀ p : Addr, p.block < B → w'.cell? p = w.cell? p) : NS w' B k A n c l :=
 ⟨h.len, h.cap, h.max, fun hn => by
  obtain ⟨b, off, e, hb, hc⟩ := h.pos hn
  exact ⟨b, off, e, hb, fun j hj => (hk ⟨b, off + j, none⟩ hb).trans (hc j hj)⟩⟩
theorem NS.belowAt {B0 : Nat} (h : NS w B k A n c l) (hb : Below B0 w w') (hB : B ≤ B0) : NS w' B k A n c l := h.keep fun _ hp => hb.cell (by omega)
theorem NS.more {B' : Nat} (h : NS w B k A n c l) (hB : B ≤ B') : NS w B' k A n c l :=
 ⟨h.len, h.cap, h.max, fun hn => by
  obtain ⟨b, off, e, hb, hc⟩ := h.pos hn
  exact ⟨b, off, e, by omega, hc⟩⟩
theorem NS.of_blk {g : Nat} {t : TypeId} {cs : Array Value} (h : Blk w g t cs) (hcs : cs = (l.map (ival k)).toArray) (hB : g < B) (hm : l.length ≤ maxLen) : NS w B k (some ⟨g, 0, none⟩) l.length l.length l :=
 ⟨rfl, Nat.le_refl _, hm, fun _ => ⟨g, 0, rfl, hB, fun j hj => by rw [Nat.zero_add, h.at, hcs]; simp [hj, ival]⟩⟩
end
def ON (w : World) (base : Nat) (e : TypeId) (k : IntKind) (A : Option Addr) (n c : Nat) (l : List Nat) : Prop :=
 w.ownsRow base e 1 (.slice A n c) n (l.map (ival k))
section
variable {w : World} {base : Nat} {e : TypeId} {k : IntKind} {A : Option Addr} {n c : Nat} {l : List Nat}
theorem ON.keep {w' : World} (h : ON w base e k A n c l) (hb : Below w.heap.size w w') : ON w' base e k A n c l := by
 refine ⟨h.1, ?_⟩
 rcases h.2 with h0 | ⟨g, cap, cur, hv, hg, hh, r⟩
 ·exact .inl h0
 ·refine .inr ⟨g, cap, cur, hv, hg, ?_, r⟩
  rw [hb.block g ?_]
  ·exact hh
  ·rcases Nat.lt_or_ge g w.heap.size with h1 | h1
   ·exact h1
   ·rw [Array.getElem?_eq_none h1] at hh; cases hh
theorem ON.ns (h : ON w base e k A n c l) : NS w w.heap.size k A n c l := by
 have hl : n = l.length := by have := h.1; simp at this; omega
 rcases h.2 with ⟨e0, h0⟩ | ⟨g, cap, cur, hv, _, hh, hnc, hcm, hsz, htk⟩
 ·injection e0 with e1 e2 e3
  subst e1; subst e3
  exact ⟨hl, by omega, Nat.zero_le _, fun hp => by omega⟩
 ·injection hv with hA _ hc
  subst hA; subst hc
  refine ⟨hl, hnc, hcm, fun _ => ⟨g, 0, rfl, ?_, fun j hj => ?_⟩⟩
  ·rcases Nat.lt_or_ge g w.heap.size with h1 | h1
   ·exact h1
   ·rw [Array.getElem?_eq_none h1] at hh; cases hh
  ·rw [cell_of_row w g (0 + j) cur e (0, 0) hh, Nat.zero_add]
   have e1 : (cur.toList.take (n * 1))[j]? = some (Value.int k (l[j] : Int)) := by
    rw [htk]; simp [hj, ival]
   rw [List.getElem?_take_of_lt (by omega)] at e1
   simpa using e1
end
def byWide (wide : Bool) (x y : Nat) : Nat := if wide then y else x
def hSize (wide : Bool) : Nat := byWide wide 52 64
def ifSome (b : Bool) (n : Nat) : Nat := if b then n else 0
def u64s (l : List Nat) : Array Value := (l.map fun n : Nat => Value.int .u64 (n : Int)).toArray
def i64s (l : List Nat) : Array Value := (l.map fun n : Nat => Value.int .i64 (n : Int)).toArray
theorem one_u64s (l : List Nat) : (u64s l).all (·.oneCell') = true := by simp [u64s, Value.oneCell']
theorem one_i64s (l : List Nat) : (i64s l).all (·.oneCell') = true := by simp [i64s, Value.oneCell']
theorem ifSome_le (b : Bool) (n : Nat) : ifSome b n ≤ n := by cases b <;> simp [ifSome]
theorem byWide_le (b : Bool) (x y m : Nat) (hx : x ≤ m) (hy : y ≤ m) : byWide b x y ≤ m := by cases b <;> simp [byWide, *]
theorem byWide_pow (b : Bool) (x : Nat) (h : x < 256 ^ byWide b 4 8) : x < 18446744073709551616 := by
 cases b
 ·exact Nat.lt_of_lt_of_le h (by decide)
 ·exact h
theorem some_of {x : Nat} (h : x ≠ 0) : ((x : Int) != 0) = true := by simp; omega
theorem idx_u64s (l : List Nat) (k : Nat) (h : k < l.length) : (u64s l)[k]? = some (.int .u64 (l.getD k 0 : Nat)) := by simp [u64s, h]
theorem idx_i64s (l : List Nat) (k : Nat) (h : k < l.length) : (i64s l)[k]? = some (.int .i64 (l.getD k 0 : Nat)) := by simp [i64s, h]
theorem list13 {l : List Nat} (h : l.length = 13) : ∃ x0 x1 x2 x3 x4 x5 x6 x7 x8 x9 x10 x11 x12, l = [x0, x1, x2, x3, x4, x5, x6, x7, x8, x9, x10, x11, x12] := by
 match l, h with
 | [x0, x1, x2, x3, x4, x5, x6, x7, x8, x9, x10, x11, x12], _ => exact ⟨_, _, _, _, _, _, _, _, _, _, _, _, _, rfl⟩
theorem arr13 {R : Array Value} (h : R.size = 13) : ∃ r0 r1 r2 r3 r4 r5 r6 r7 r8 r9 r10 r11 r12, R = #[r0, r1, r2, r3, r4, r5, r6, r7, r8, r9, r10, r11, r12] := by
 match R, h with
 | ⟨[r0, r1, r2, r3, r4, r5, r6, r7, r8, r9, r10, r11, r12]⟩, _ => exact ⟨_, _, _, _, _, _, _, _, _, _, _, _, _, rfl⟩
theorem OB.of_blk {w : World} {base g : Nat} {e : TypeId} {l : List UInt8} (h : Blk w g e (l.map byt).toArray) (hb : base ≤ g) (hm : l.length ≤ maxLen) : OB w base e (some ⟨g, 0, none⟩) l.length l.length l :=
 ⟨by simp, .inr ⟨g, l.length, (l.map byt).toArray, rfl, hb, h, Nat.le_refl _, hm, by simp, by simp [List.take_of_length_le]⟩⟩
theorem OB.room (w : World) (base : Nat) (t : TypeId) (c : Nat) (v : Value) (h : c ≤ maxLen) (hb : base ≤ w.heap.size) : OB (w.alloc (.cells (Array.replicate c v) t)) base t (some ⟨w.heap.size, 0, none⟩) 0 c [] :=
 ⟨by simp, .inr ⟨w.heap.size, c, Array.replicate c v, rfl, hb, heap_alloc_new w _, Nat.zero_le _, h, by simp, by simp⟩⟩
theorem blk4 {w W : World} {t1 t2 t3 t4 : TypeId} {c1 c2 c3 c4 : Array Value} (h : (((w.alloc (.cells c1 t1)).alloc (.cells c2 t2)).alloc (.cells c3 t3)).alloc (.cells c4 t4) = W) :
  Blk W w.heap.size t1 c1 ∧ Blk W (w.heap.size + 1) t2 c2 ∧ Blk W (w.heap.size + 1 + 1) t3 c3 ∧ Blk W (w.heap.size + 1 + 1 + 1) t4 c4 ∧ Grow w W := by
 obtain ⟨h1, h2, h3, h4⟩ := blk3 (w := w) (t1 := t1) (t2 := t2) (t3 := t3) (c1 := c1) (c2 := c2) (c3 := c3) rfl
 subst h
 have h5 := Blk.new (((w.alloc (.cells c1 t1)).alloc (.cells c2 t2)).alloc (.cells c3 t3)) t4 c4
 rw [show (((w.alloc (.cells c1 t1)).alloc (.cells c2 t2)).alloc (.cells c3 t3)).heap.size = w.heap.size + 1 + 1 + 1 by simp] at h5
 exact ⟨h1.alloc _, h2.alloc _, h3.alloc _, h5, h4.trans (Grow.of_alloc _ _)⟩
theorem rowF_false {q : List (Nat × Nat)} {k : Nat} (hk : k < q.length) (h : decide (q[k].1 < 256 ^ q[k].2) = false) : rowF q = false := by
 have e : q = q.take (k + 1) ++ q.drop (k + 1) := (List.take_append_drop _ _).symm
 rw [e, rowF_append, rowF_succ q k hk, h]
 simp
theorem RB.grow {w w' : World} {A : Option Addr} {n c : Nat} {l : List UInt8} (h : RB w w.heap.size A n c l) (hg : Grow w w') : RB w' w'.heap.size A n c l := (h.belowAt hg (Nat.le_refl _)).more hg.size
theorem RB.first {w : World} {B : Nat} {A : Option Addr} {n c m : Nat} {l : List UInt8} (h : RB w B A n c l) (hm : m ≤ n) : RB w B A m c (l.take m) :=
 ⟨by have := h.len; simp; omega, by have := h.cap; omega, h.max, fun hp => by
  obtain ⟨b, off, e, hb, hc⟩ := h.pos (by omega)
  exact ⟨b, off, e, hb, fun j hj => by
   have hj2 : j < l.length := by simp at hj; omega
   rw [hc j hj2]; simp⟩⟩
theorem nums_at (l : List UInt8) (big : Bool) : ∀ (ns : List Nat) (p k : Nat) (h : k < ns.length), (nums l big p ns)[k]? = some (getB ((l.drop (p + sumN (ns.take k))).take ns[k]) big)
 | [], _, _, h => absurd h (by simp)
 | n :: r, p, 0, _ => by simp [nums, sumN]
 | n :: r, p, k + 1, h => by
  have := nums_at l big r (p + n) k (by simpa using h)
  simp only [nums, List.getElem?_cons_succ, this, List.take_succ_cons, sumN, List.getElem_cons_succ, Nat.add_assoc]
def laidTo (kd : IntKind) (l : List Nat) (k j : Nat) : Value := .int kd (if j < k then l.getD j 0 else 0 : Nat)
theorem laidTo_succ {kd : IntKind} {l : List Nat} {k v : Nat} (hv : l[k]? = some v) (j : Nat) : (if j = k then Value.int kd (v : Int) else laidTo kd l k j) = laidTo kd l (k + 1) j := by
 by_cases e : j = k
 ·subst e
  simp [laidTo, hv]
 ·rw [if_neg e]
  by_cases e2 : j < k
  ·simp only [laidTo, if_pos e2, if_pos (show j < k + 1 by omega)]
  ·simp only [laidTo, if_neg e2, if_neg (show ¬ j < k + 1 by omega)]
theorem blk_of_rowIs {w : World} {g : Nat} {t : TypeId} {kd : IntKind} {l : List Nat} {n : Nat} (h : w.rowIs g t n (laidTo kd l n)) (hl : l.length = n) : Blk w g t ((l.map fun x : Nat => Value.int kd (x : Int)).toArray) := by
 obtain ⟨c, hb, hn, hc⟩ := h
 have e : c = (l.map fun x : Nat => Value.int kd (x : Int)).toArray := by
  apply Array.ext_getElem?
  intro i
  by_cases hi : i < n
  ·rw [hc i hi]
   simp [laidTo, hi, show i < l.length by omega]
  ·rw [Array.getElem?_eq_none (by omega), Array.getElem?_eq_none (by simp; omega)]
 rw [Blk, hb, e]
theorem results_cell2 {fn : Func} {p q : Tmp} {ty ty' : TypeId} (h : fn.results = #[.cell p ty, .cell q ty']) (tmps : Array Value) {P : Program} (w : World) (g g' : Nat) (u v : Value)
  (hp : tmps.getD p undef = .pointer (some ⟨g, 0, none⟩)) (hq : tmps.getD q undef = .pointer (some ⟨g', 0, none⟩)) (hu : (loadVar ty ⟨g, 0, none⟩).run P w = .ok u w) (hv : (loadVar ty' ⟨g', 0, none⟩).run P w = .ok v w) :
  (results fn tmps).run P w = .ok (.tuple #[u, v]) w := by
 have hp' : tmps[p]?.getD undef = .pointer (some ⟨g, 0, none⟩) := by simpa using hp
 have hq' : tmps[q]?.getD undef = .pointer (some ⟨g', 0, none⟩) := by simpa using hq
 simp [results, h, hp', hq', asAddr, hu, hv]
theorem leap_eq : Leap (fun w W : World => W = w) := ⟨fun _ => rfl, fun _ _ _ h k => k.trans h⟩
theorem arr2 {R : Array Value} (h : R.size = 2) : ∃ r0 r1, R = #[r0, r1] := by
 match R, h with
 | ⟨[r0, r1]⟩, _ => exact ⟨_, _, rfl⟩
theorem arr6 {R : Array Value} (h : R.size = 6) : ∃ r0 r1 r2 r3 r4 r5, R = #[r0, r1, r2, r3, r4, r5] := by
 match R, h with
 | ⟨[r0, r1, r2, r3, r4, r5]⟩, _ => exact ⟨_, _, _, _, _, _, rfl⟩
theorem list10 {l : List Nat} (h : l.length = 10) : ∃ x0 x1 x2 x3 x4 x5 x6 x7 x8 x9, l = [x0, x1, x2, x3, x4, x5, x6, x7, x8, x9] := by
 match l, h with
 | [x0, x1, x2, x3, x4, x5, x6, x7, x8, x9], _ => exact ⟨_, _, _, _, _, _, _, _, _, _, rfl⟩
theorem Blk.c8 {w : World} {g : Nat} {t : TypeId} {a0 a1 a2 a3 a4 a5 a6 a7 : Value} (h : Blk w g t #[a0, a1, a2, a3, a4, a5, a6, a7]) :
  w.cell? ⟨g, 0, none⟩ = some a0 ∧ w.cell? ⟨g, 1, none⟩ = some a1 ∧ w.cell? ⟨g, 2, none⟩ = some a2 ∧ w.cell? ⟨g, 3, none⟩ = some a3 ∧ w.cell? ⟨g, 4, none⟩ = some a4 ∧ w.cell? ⟨g, 5, none⟩ = some a5 ∧ w.cell? ⟨g, 6, none⟩ = some a6 ∧ w.cell? ⟨g, 7, none⟩ = some a7 :=
 ⟨h.at 0, h.at 1, h.at 2, h.at 3, h.at 4, h.at 5, h.at 6, h.at 7⟩
theorem Blk.c10 {w : World} {g : Nat} {t : TypeId} {a0 a1 a2 a3 a4 a5 a6 a7 a8 a9 : Value} (h : Blk w g t #[a0, a1, a2, a3, a4, a5, a6, a7, a8, a9]) :
  w.cell? ⟨g, 0, none⟩ = some a0 ∧ w.cell? ⟨g, 1, none⟩ = some a1 ∧ w.cell? ⟨g, 2, none⟩ = some a2 ∧ w.cell? ⟨g, 3, none⟩ = some a3 ∧ w.cell? ⟨g, 4, none⟩ = some a4 ∧ w.cell? ⟨g, 5, none⟩ = some a5 ∧ w.cell? ⟨g, 6, none⟩ = some a6 ∧ w.cell? ⟨g, 7, none⟩ = some a7 ∧ w.cell? ⟨g, 8, none⟩ = some a8 ∧ w.cell? ⟨g, 9, none⟩ = some a9 :=
 ⟨h.at 0, h.at 1, h.at 2, h.at 3, h.at 4, h.at 5, h.at 6, h.at 7, h.at 8, h.at 9⟩
end Go.Proofs.YtfbimboemahhhaaGreatDoor
namespace Go.Proofs.YtfbimboemahhhaaGreatDoor
open Go.Lib (hid)
structure Pl where
 inn : Int
 off : Nat
 size : Nat
 own : List UInt8
structure Sg where
 typ : Nat
 flags : Nat
 vaddr : Nat
 paddr : Nat
 memsz : Nat
 align : Nat
 pl : Pl
structure Se where
 name : Nat
 typ : Nat
 flags : Nat
 addr : Nat
 size : Nat
 link : Nat
 info : Nat
 align : Nat
 entsize : Nat
 pl : Pl
structure Md where
 wide : Bool
 big : Bool
 osabi : Nat
 abi : Nat
 typ : Nat
 mach : Nat
 flags : Nat
 entry : Nat
 segs : List Sg
 secs : List Se
 str : Int
def pl0 : Pl := ⟨0, 0, 0, []⟩
def sg0 : Sg := ⟨0, 0, 0, 0, 0, 0, pl0⟩
def se0 : Se := ⟨0, 0, 0, 0, 0, 0, 0, 0, 0, pl0⟩
instance : Inhabited Sg := ⟨sg0⟩
instance : Inhabited Se := ⟨se0⟩
def I64 (i : Int) : Prop := -9223372036854775808 ≤ i ∧ i ≤ 9223372036854775807
structure Pl.Ok (p : Pl) : Prop where
 inn : I64 p.inn
 off : p.off < 18446744073709551616
 size : p.size < 18446744073709551616
structure Sg.Ok (s : Sg) : Prop where
 typ : s.typ < 4294967296
 flags : s.flags < 4294967296
 vaddr : s.vaddr < 18446744073709551616
 paddr : s.paddr < 18446744073709551616
 memsz : s.memsz < 18446744073709551616
 align : s.align < 18446744073709551616
 pl : s.pl.Ok
structure Se.Ok (s : Se) : Prop where
 name : s.name < 4294967296
 typ : s.typ < 4294967296
 flags : s.flags < 18446744073709551616
 addr : s.addr < 18446744073709551616
 size : s.size < 18446744073709551616
 link : s.link < 4294967296
 info : s.info < 4294967296
 align : s.align < 18446744073709551616
 entsize : s.entsize < 18446744073709551616
 pl : s.pl.Ok
structure Md.Ok (m : Md) : Prop where
 osabi : m.osabi < 256
 abi : m.abi < 256
 typ : m.typ < 65536
 mach : m.mach < 65536
 flags : m.flags < 4294967296
 entry : m.entry < 18446744073709551616
 segs : ∀ s ∈ m.segs, s.Ok
 secs : ∀ s ∈ m.secs, s.Ok
 str : I64 m.str
def isSegN (n : Nat) (i : Int) : Bool := decide (0 ≤ i ∧ i < n)
def Md.seg (m : Md) (i : Int) : Sg := m.segs.getD i.toNat sg0
def Pl.within (p : Pl) (n : Nat) : Bool := decide (p.off + p.size ≤ n)
def Pl.ownMay (p : Pl) : Bool := decide (p.off = 0) && decide (p.size = p.own.length)
def Pl.inMay (p : Pl) (n : Nat) : Bool := decide (p.own.length = 0) && decide (0 < p.size) && p.within n
def Md.may (m : Md) (p : Pl) : Bool :=
 if p.inn = -1 then p.ownMay else isSegN m.segs.length p.inn && decide ((m.seg p.inn).typ = 1) && p.inMay (m.seg p.inn).pl.own.length
def Md.bytes (m : Md) (p : Pl) : List UInt8 :=
 if p.inn = -1 then p.own else if isSegN m.segs.length p.inn && p.within (m.seg p.inn).pl.own.length then (((m.seg p.inn).pl.own).drop p.off).take p.size else []
def lastA (wide : Bool) : Nat := byWide wide 4294967295 18446744073709551615
def Sg.wraps (s : Sg) (wide : Bool) : Bool := decide (0 < s.memsz) && !decide (s.vaddr + (s.memsz - 1) ≤ lastA wide)
def Md.segC (m : Md) (s : Sg) : Nat :=
 if 1 < ones s.align then 6 else if m.may s.pl = false then 1 else if s.typ ≠ 1 then 0 else if s.pl.inn ≠ -1 then 1 else if s.memsz < s.pl.size then 5 else if s.wraps m.wide = true then 12 else 0
def fstC {α : Type} (f : α → Nat) : List α → Nat
 | [] => 0
 | a :: r => if f a = 0 then fstC f r else f a
def loadOf (s : Sg) : List (Nat × Nat) := if s.typ = 1 then [(s.vaddr, s.memsz)] else []
def loads (l : List Sg) : List (Nat × Nat) := l.flatMap loadOf
def Md.segsC (m : Md) : Nat := if fstC m.segC m.segs = 0 then (if rises (loads m.segs) then 0 else 7) else fstC m.segC m.segs
def Se.held (s : Se) : Nat := if s.typ = 0 ∨ s.typ = 8 then 0 else s.size
def Md.secC (m : Md) (s : Se) : Nat := if m.may s.pl = false then 1 else if s.pl.size ≠ s.held then 1 else if m.secs.length < s.link then 10 else 0
def Md.secsC (m : Md) : Nat := fstC m.secC m.secs
def Md.tab (m : Md) : Se := m.secs.getD (m.str - 1).toNat se0
def Md.named (m : Md) : Bool :=
 if m.str = 0 then m.secs.all fun s => decide (s.name = 0)
 else decide (m.tab.typ = 3) && decide (m.tab.pl.inn = -1) && m.secs.all fun s => (nameAt m.tab.pl.own s.name).isSome
def Md.namesC (m : Md) : Nat := if m.str < 0 then 10 else if (m.secs.length : Int) < m.str then 10 else if m.named then 0 else 9
def Md.large (m : Md) : Bool := decide (16 < m.segs.length) || decide (64 < m.secs.length)
def Sg.nums (s : Sg) : List Nat := [s.vaddr, s.paddr, s.memsz, s.align]
def Se.nums (s : Se) : List Nat := [s.flags, s.addr, s.size, s.align, s.entsize]
def Md.nums (m : Md) : List Nat := m.entry :: (m.segs.flatMap Sg.nums ++ m.secs.flatMap Se.nums)
def fitW (wide : Bool) (v : Nat) : Bool := decide (v < 256 ^ byWide wide 4 8)
def Md.fits (m : Md) : Bool := m.nums.all (fitW m.wide)
def Md.chk (m : Md) : Nat :=
 if m.large then 8 else if m.fits = false then 1 else if m.segsC ≠ 0 then m.segsC else if m.secsC ≠ 0 then m.secsC else m.namesC
theorem fstC_zero {α : Type} {f : α → Nat} : ∀ {l : List α}, fstC f l = 0 ↔ ∀ a ∈ l, f a = 0
 | [] => by simp [fstC]
 | a :: r => by
  rw [fstC]
  have ih := fstC_zero (f := f) (l := r)
  by_cases h : f a = 0
  ·rw [if_pos h, ih]
   constructor
   ·intro h1 x hx
    rcases List.mem_cons.1 hx with e | e
    ·exact e ▸ h
    ·exact h1 x e
   ·intro h1 x hx
    exact h1 x (List.mem_cons_of_mem _ hx)
  ·rw [if_neg h]
   exact ⟨fun h1 => absurd h1 h, fun h1 => absurd (h1 a (by simp)) h⟩
theorem fstC_at {α : Type} {f : α → Nat} : ∀ {l : List α} {k : Nat} (h : k < l.length), (∀ a ∈ l.take k, f a = 0) → f l[k] ≠ 0 → fstC f l = f l[k]
 | a :: r, 0, _, _, h2 => by rw [fstC, if_neg (by simpa using h2)]; rfl
 | a :: r, k + 1, h, h1, h2 => by
  rw [fstC, if_pos (h1 a (by simp))]
  exact fstC_at (by simpa using h) (fun x hx => h1 x (by simp [hx])) (by simpa using h2)
theorem takeS {α : Type} (l : List α) (k : Nat) (h : k < l.length) : l.take (k + 1) = l.take k ++ [l[k]] := by
 rw [List.take_add_one, List.getElem?_eq_getElem h]; rfl
theorem loads_snoc (l : List Sg) (k : Nat) (h : k < l.length) : loads (l.take (k + 1)) = loads (l.take k) ++ loadOf l[k] := by
 rw [takeS l k h, loads, List.flatMap_append]
 simp [loads]
theorem Md.chk_zero {m : Md} (h : m.chk = 0) : (∀ s ∈ m.segs, m.segC s = 0) ∧ rises (loads m.segs) = true ∧ (∀ s ∈ m.secs, m.secC s = 0) := by
 unfold Md.chk at h
 split at h
 ·omega
 split at h
 ·omega
 split at h
 ·rename_i h1
  omega
 split at h
 ·rename_i h1
  omega
 ·rename_i h1 h2
  have h1 : m.segsC = 0 := by omega
  have h2 : m.secsC = 0 := by omega
  unfold Md.segsC at h1
  split at h1
  ·rename_i h3
   refine ⟨fstC_zero.1 h3, ?_, fstC_zero.1 h2⟩
   split at h1
   ·assumption
   ·omega
  ·rename_i h3
   exact absurd h1 h3
theorem Md.secC_zero {m : Md} {s : Se} (h : m.secC s = 0) : m.may s.pl = true ∧ s.pl.size = s.held := by
 unfold Md.secC at h
 split at h
 ·omega
 split at h
 ·omega
 ·rename_i h1 h2
  exact ⟨by simpa using h1, by omega⟩
theorem mem_loads {l : List Sg} {x : Nat × Nat} (h : x ∈ loads l) : ∃ s ∈ l, s.typ = 1 ∧ x = (s.vaddr, s.memsz) := by
 unfold loads at h
 obtain ⟨s, hs, hx⟩ := List.mem_flatMap.1 h
 unfold loadOf at hx
 split at hx
 ·rename_i ht
  exact ⟨s, hs, ht, by simpa using hx⟩
 ·simp at hx
def nxt (e v a : Nat) : Nat := e + (v + (18446744073709551616 - e)) % (max a 1)
def plc (e v a : Nat) : Nat := min (nxt e v a) 65537
def fin (e v a n : Nat) : Nat := min (plc e v a + n) 65537
theorem two_pow64 : (2 : Nat) ^ 64 = 18446744073709551616 := by decide
theorem pow_of {a : Nat} (ha : a < 18446744073709551616) (h : ones a ≤ 1) : ∃ k, k < 64 ∧ max a 1 = 2 ^ k := by
 rcases (ones_one a ha).1 h with rfl | ⟨k, rfl⟩
 ·exact ⟨0, by omega, by decide⟩
 ·refine ⟨k, ?_, ?_⟩
  ·rcases Nat.lt_or_ge k 64 with h1 | h1
   ·exact h1
   ·have := Nat.pow_le_pow_right (show 0 < 2 by decide) h1
    rw [two_pow64] at this
    omega
  ·have := Nat.two_pow_pos k
   omega
theorem pow_dvd {k : Nat} (h : k < 64) : 2 ^ k ∣ 18446744073709551616 := by
 rw [← two_pow64]
 exact Nat.pow_dvd_pow 2 (by omega)
theorem nxt_ge (e v a : Nat) : e ≤ nxt e v a := Nat.le_add_right _ _
theorem nxt_lt (e v a : Nat) : nxt e v a < e + max a 1 := by
 unfold nxt
 have := Nat.mod_lt (v + (18446744073709551616 - e)) (show max a 1 > 0 by omega)
 omega
theorem nxt_one (e v a : Nat) (h : a ≤ 1) : nxt e v a = e := by
 unfold nxt
 rw [show max a 1 = 1 by omega, Nat.mod_one]
 rfl
theorem plc_le (e v a : Nat) : plc e v a ≤ 65537 := Nat.min_le_right _ _
theorem fin_le (e v a n : Nat) : fin e v a n ≤ 65537 := Nat.min_le_right _ _
theorem fin_ge {e v a n : Nat} (he : e ≤ 65537) : e ≤ fin e v a n := by
 have := nxt_ge e v a
 unfold fin plc
 omega
theorem fin_in {e v a n : Nat} (h : fin e v a n ≤ 65536) : plc e v a = nxt e v a ∧ fin e v a n = nxt e v a + n ∧ plc e v a + n = fin e v a n ∧ e ≤ plc e v a := by
 have := nxt_ge e v a
 unfold fin plc at *
 omega
namespace Md
variable (m : Md)
def sg (k : Nat) : Sg := m.segs.getD k sg0
def se (k : Nat) : Se := m.secs.getD k se0
def e1 : Nat := hSize m.wide + byWide m.wide 32 56 * m.segs.length
def eL : Nat → Nat
 | 0 => m.e1
 | k + 1 => if (m.sg k).typ = 1 then fin (eL k) (m.sg k).vaddr (m.sg k).align (m.sg k).pl.size else eL k
def P1 (k : Nat) : Nat := if (m.sg k).typ = 1 then plc (m.eL k) (m.sg k).vaddr (m.sg k).align else 0
def eO : Nat → Nat
 | 0 => m.eL m.segs.length
 | k + 1 => if (m.sg k).typ = 1 then eO k else if (m.sg k).pl.inn = -1 then fin (eO k) 0 8 (m.sg k).pl.size else eO k
def P2 (k : Nat) : Nat := if (m.sg k).typ = 1 then m.P1 k else if (m.sg k).pl.inn = -1 then plc (m.eO k) 0 8 else m.P1 (m.sg k).pl.inn.toNat + (m.sg k).pl.off
def eS : Nat → Nat
 | 0 => m.eO m.segs.length
 | k + 1 => if (m.se k).pl.inn = -1 then fin (eS k) 0 8 (m.se k).pl.size else eS k
def P3 (k : Nat) : Nat := if (m.se k).pl.inn = -1 then plc (m.eS k) 0 8 else m.P2 (m.se k).pl.inn.toNat + (m.se k).pl.off
def phoff : Nat := if 0 < m.segs.length then hSize m.wide else 0
def shoff : Nat := if 0 < m.secs.length then plc (m.eS m.secs.length) 0 8 else 0
def eT : Nat := if 0 < m.secs.length then fin (m.eS m.secs.length) 0 8 (byWide m.wide 40 64 * (m.secs.length + 1)) else m.eS m.secs.length
theorem e1_le (h : m.segs.length ≤ 16) : m.e1 ≤ 65536 := by
 unfold e1 hSize byWide
 split <;> omega
theorem eL_le (h : m.segs.length ≤ 16) : ∀ k, m.eL k ≤ 65537
 | 0 => by rw [eL]; have := m.e1_le h; omega
 | k + 1 => by
  rw [eL]
  split
  ·exact fin_le _ _ _ _
  ·exact eL_le h k
theorem eO_le (h : m.segs.length ≤ 16) : ∀ k, m.eO k ≤ 65537
 | 0 => m.eL_le h _
 | k + 1 => by
  rw [eO]
  split
  ·exact eO_le h k
  split
  ·exact fin_le _ _ _ _
  ·exact eO_le h k
theorem eS_le (h : m.segs.length ≤ 16) : ∀ k, m.eS k ≤ 65537
 | 0 => m.eO_le h _
 | k + 1 => by
  rw [eS]
  split
  ·exact fin_le _ _ _ _
  ·exact eS_le h k
theorem P1_le (k : Nat) : m.P1 k ≤ 65537 := by
 unfold P1
 split
 ·exact plc_le _ _ _
 ·omega
end Md
end Go.Proofs.YtfbimboemahhhaaGreatDoor
namespace Go.Proofs.YtfbimboemahhhaaGreatDoor
open Go.Lib (hid)
open Go.RowKit
theorem plByClass_any (wide big : Bool) (x y : Nat) (w : World) : Calls Tryz.prog 131 #[.agg #[.bool wide, .bool big], .int .i64 x, .int .i64 y] w fun e w' => e = .returned (.int .i64 (byWide wide x y : Nat)) ∧ Grow w w' := by
 cases wide
 ·go_enter Tryz.func131, Tryz.ntmps131
  go_wp2
  go_ret
  exact ⟨rfl, Grow.of_alloc _ _⟩
 ·go_enter Tryz.func131, Tryz.ntmps131
  go_wp2
  go_ret
  exact ⟨rfl, Grow.of_alloc _ _⟩
theorem plHSize_any (wide big : Bool) (w : World) : Calls Tryz.prog 84 #[.agg #[.bool wide, .bool big]] w fun e w' => e = .returned (.int .i64 (hSize wide : Nat)) ∧ Grow w w' := by
 go_enter Tryz.func84, Tryz.ntmps84
 go_wp2_with fail
 refine (plByClass_any wide big 52 64 _).mono ?_
 rintro e w1 ⟨rfl, hg⟩
 have HG := hid ((Grow.of_alloc _ _).trans hg)
 clear hg
 go_wp2
 go_ret
 exact ⟨rfl, HG.out⟩
theorem plPSize_any (wide big : Bool) (w : World) : Calls Tryz.prog 79 #[.agg #[.bool wide, .bool big]] w fun e w' => e = .returned (.int .i64 (byWide wide 32 56 : Nat)) ∧ Grow w w' := by
 cases wide
 ·go_enter Tryz.func79, Tryz.ntmps79
  go_wp2
  go_ret
  exact ⟨rfl, Grow.of_alloc _ _⟩
 ·go_enter Tryz.func79, Tryz.ntmps79
  go_wp2
  go_ret
  exact ⟨rfl, Grow.of_alloc _ _⟩
theorem plSSize_any (wide big : Bool) (w : World) : Calls Tryz.prog 82 #[.agg #[.bool wide, .bool big]] w fun e w' => e = .returned (.int .i64 (byWide wide 40 64 : Nat)) ∧ Grow w w' := by
 cases wide
 ·go_enter Tryz.func82, Tryz.ntmps82
  go_wp2
  go_ret
  exact ⟨rfl, Grow.of_alloc _ _⟩
 ·go_enter Tryz.func82, Tryz.ntmps82
  go_wp2
  go_ret
  exact ⟨rfl, Grow.of_alloc _ _⟩
theorem count_any (n s : Nat) (w : World) (hn : n ≤ 1000) (hs : s ≤ 1000) : Calls Tryz.prog 120 #[.int .i64 (n : Int), .int .i64 (s : Int)] w fun e w' => e = .returned (.int .u64 ((s * n : Nat) : Int)) ∧ w = w' := by
 have h1 : IntKind.u64.wrap (n : Int) = (n : Int) := by rw [IntKind.wrap_u64]; omega
 have h2 : IntKind.u64.wrap (s : Int) = (s : Int) := by rw [IntKind.wrap_u64]; omega
 have hb : s * n ≤ 1000 * 1000 := Nat.mul_le_mul hs hn
 have h3 : IntKind.u64.wrap ((n : Int) * (s : Int)) = ((s * n : Nat) : Int) := by
  have : (n : Int) * (s : Int) = ((s * n : Nat) : Int) := by rw [Nat.mul_comm]; simp
  rw [this, IntKind.wrap_u64]
  omega
 generalize s * n = r at h3 ⊢
 clear hb hn hs
 go_enter Tryz.func120, Tryz.ntmps120
 go_wp2
 go_ret
 exact ⟨rfl, rfl⟩
theorem next_any (e v a : Nat) (w : World) (he : e ≤ 65537) (ha : a < 18446744073709551616) (h1 : ones a ≤ 1) :
  Calls Tryz.prog 151 #[.int .u64 (e : Int), .int .u64 (v : Int), .int .u64 (a : Int)] w fun en w' => en = .returned (.int .u64 (nxt e v a : Nat)) ∧ w = w' := by
 obtain ⟨k, hk, hM⟩ := pow_of ha h1
 have hlt := nxt_lt e v a
 obtain ⟨X, hX⟩ : ∃ X, (v + (18446744073709551616 - e)) % 18446744073709551616 = X := ⟨_, rfl⟩
 obtain ⟨M, hMM⟩ : ∃ M, max a 1 = M := ⟨_, rfl⟩
 have hXl : X < 18446744073709551616 := by omega
 have hM1 : 1 ≤ M := by omega
 have hM2 : M < 18446744073709551616 := by omega
 have q1 : IntKind.u64.wrap ((v : Int) - (e : Int)) = (X : Int) := by rw [IntKind.wrap_u64]; omega
 have q2 : IntKind.u64.wrap ((M : Int) - 1) = ((M - 1 : Nat) : Int) := by rw [IntKind.wrap_u64]; omega
 have q3 : bits BinOp.and IntKind.u64 (X : Int) ((M - 1 : Nat) : Int) = ((X &&& (M - 1) : Nat) : Int) := bits_and_u64_nat X (M - 1) hXl (by omega)
 have q4 : X &&& (M - 1) = X % M := by
  rw [← hMM, hM]
  exact Nat.and_two_pow_sub_one_eq_mod _ _
 have q5 : X % M = nxt e v a - e := by
  unfold nxt
  rw [hMM, ← hX, ← hMM, hM, Nat.mod_mod_of_dvd _ (pow_dvd hk)]
  omega
 have hM3 : M ≤ 9223372036854775808 := by
  rw [← hMM, hM]
  exact Nat.le_trans (Nat.pow_le_pow_right (show 0 < 2 by decide) (show k ≤ 63 by omega)) (by decide)
 have hge := nxt_ge e v a
 rw [q4, q5] at q3
 rw [hMM] at hlt
 have q6 : IntKind.u64.wrap ((e : Int) + ((nxt e v a - e : Nat) : Int)) = (nxt e v a : Nat) := by rw [IntKind.wrap_u64]; omega
 generalize nxt e v a - e = D at q3 q6
 generalize nxt e v a = R at q6 ⊢
 have q7 : (if (a : Int) < 1 then (1 : Int) else (a : Int)) = (M : Int) := by split <;> omega
 clear hX hM hMM q4 q5 hge hlt hk he ha h1
 generalize M - 1 = M' at q2 q3
 go_enter Tryz.func151, Tryz.ntmps151
 go_wp2
 go_ret
 exact ⟨rfl, rfl⟩
end Go.Proofs.YtfbimboemahhhaaGreatDoor
namespace Go.Proofs.YtfbimboemahhhaaGreatDoor
open Go.Lib (hid)
open Go.RowKit
theorem wpList_appendZ {P : Program} (w : World) {ops : Array Oper} {rest : List Oper} {o : Oper} {a : Act} {Q : Exit → Act → World → Prop} (hgd : o.guard = none) (s x : Operand) (t : TypeId)
  (ho : o.op = .call { callee := .builtin .append, args := #[s, x], argTypes := #[t, t] })
  (base : Nat) (e : TypeId) (zv : Value) (z bytes : Nat) (ht : P.underlying t = some (.slice e)) (hinfo : (P.info? e).map (fun i => (i.zero, i.size, i.bytes)) = some (some zv, z, bytes)) (hzs : zv.cells.size = z) (hz0 : 0 < z)
  (A : Option Addr) (n c : Nat) (l : List (Array Value)) (hs : a.eval s = .slice A n c) (hown : ZO w base e z A n c l)
  (g : Nat) (t' : TypeId) (r : Array Value) (hx : a.eval x = .slice (some ⟨g, 0, none⟩) 1 1) (hr : Blk w g t' r) (hrz : r.size = z) (h1 : r.all (·.oneCell') = true)
  (h63 : n + 1 ≤ maxLen) (hsz : (n + 1) * bytes ≤ 140737488355328) (hbase : base ≤ w.heap.size)
  (h : ∀ A2 c2 w', ZO w' base e z A2 (n + 1) c2 (l ++ [r]) → w.grownBy w' (own A) → (own A2 = own A ∨ own A2 = some w.heap.size) → wpList P ops Q rest (a.put o.dst (.slice A2 (n + 1) c2)) w') : wpList P ops Q (o :: rest) a w := by
 refine wpList_plain hgd fun K hK => ?_
 refine wp_appendZ w s x t ho base e zv z bytes ht hinfo hzs hz0 A n c l hs hown g t' r hx hr hrz h1 h63 hsz hbase fun A2 c2 w' h2 h3 h4 => ?_
 exact hK _ _ (h A2 c2 w' h2 h3 h4)
theorem ZO.other {w : World} {base : Nat} {e : TypeId} {z : Nat} {A : Option Addr} {n c : Nat} {l : List (Array Value)} (h : ZO w base e z A n c l) {g : Nat} (hg : own A ≠ some g) (cs : Array Value) : ZO (w.setRow g cs) base e z A n c l := by
 refine ⟨⟨h.1.1, ?_⟩, h.2⟩
 rcases h.1.2 with h0 | ⟨g', cap, cur, hv, hb, hh, r⟩
 ·exact .inl h0
 ·refine .inr ⟨g', cap, cur, hv, hb, ?_, r⟩
  injection hv with e1 _ _
  subst e1
  have hne : g' ≠ g := fun e => hg (by rw [e]; rfl)
  rw [setRow_other w g g' cs (by omega)]
  exact hh
end Go.Proofs.YtfbimboemahhhaaGreatDoor
