/-
  Small words that the layers behind head share: numbers by a file's class, rows of numbers as cells, slices and blocks. No program's function is spoken of here.
-/
import Derived.Test.YtahmdccalgdiaaaBlk
import Derived.Test.YtahmdccalgdiaaaRowMath
import Derived.Test.YtahmdccalgdiaaaNums
import Derived.Test.YtahmdccalgdiaaaApp
namespace Go.Proofs.Ytahmdccalgdiaaa
open Go.RowKit

/-- A number by the class. -/
def byWide (wide : Bool) (x y : Nat) : Nat := if wide then y else x
def hSize (wide : Bool) : Nat := byWide wide 52 64
def ifSome (b : Bool) (n : Nat) : Nat := if b then n else 0
def u64s (l : List Nat) : Array Value := (l.map fun n : Nat => Value.int .u64 (n : Int)).toArray
def i64s (l : List Nat) : Array Value := (l.map fun n : Nat => Value.int .i64 (n : Int)).toArray

theorem one_u64s (l : List Nat) : (u64s l).all (·.oneCell') = true := by simp [u64s, Value.oneCell']
theorem one_i64s (l : List Nat) : (i64s l).all (·.oneCell') = true := by simp [i64s, Value.oneCell']
theorem ifSome_le (b : Bool) (n : Nat) : ifSome b n ≤ n := by cases b <;> simp [ifSome]
theorem byWide_le (b : Bool) (x y m : Nat) (hx : x ≤ m) (hy : y ≤ m) : byWide b x y ≤ m := by cases b <;> simp [byWide, *]
theorem byWide_pow (b : Bool) (x : Nat) (h : x < 256 ^ byWide b 4 8) : x < 18446744073709551616 := by
  cases b
  · exact Nat.lt_of_lt_of_le h (by decide)
  · exact h
theorem some_of {x : Nat} (h : x ≠ 0) : ((x : Int) != 0) = true := by simp; omega
theorem idx_u64s (l : List Nat) (k : Nat) (h : k < l.length) : (u64s l)[k]? = some (.int .u64 (l.getD k 0 : Nat)) := by simp [u64s, h]
theorem idx_i64s (l : List Nat) (k : Nat) (h : k < l.length) : (i64s l)[k]? = some (.int .i64 (l.getD k 0 : Nat)) := by simp [i64s, h]

theorem list13 {l : List Nat} (h : l.length = 13) : ∃ x0 x1 x2 x3 x4 x5 x6 x7 x8 x9 x10 x11 x12, l = [x0, x1, x2, x3, x4, x5, x6, x7, x8, x9, x10, x11, x12] := by
  match l, h with
  | [x0, x1, x2, x3, x4, x5, x6, x7, x8, x9, x10, x11, x12], _ => exact ⟨_, _, _, _, _, _, _, _, _, _, _, _, _, rfl⟩

theorem arr13 {R : Array Value} (h : R.size = 13) : ∃ r0 r1 r2 r3 r4 r5 r6 r7 r8 r9 r10 r11 r12, R = #[r0, r1, r2, r3, r4, r5, r6, r7, r8, r9, r10, r11, r12] := by
  match R, h with
  | ⟨[r0, r1, r2, r3, r4, r5, r6, r7, r8, r9, r10, r11, r12]⟩, _ => exact ⟨_, _, _, _, _, _, _, _, _, _, _, _, _, rfl⟩
theorem NS.of_blkN {w : World} {B g n : Nat} {k : IntKind} {t : TypeId} {cs : Array Value} {l : List Nat} (h : Blk w g t cs) (hl : l.length = n) (hm : n ≤ maxLen) (hB : g < B) (hcs : cs = (l.map (ival k)).toArray) : NS w B k (some ⟨g, 0, none⟩) n n l := by
  subst hl
  exact NS.of_blk (B := B) h hcs hB hm
theorem NS.of_blk13 {w : World} {B g : Nat} {k : IntKind} {t : TypeId} {cs : Array Value} {l : List Nat} (h : Blk w g t cs) (hl : l.length = 13) (hB : g < B) (hcs : cs = (l.map (ival k)).toArray) : NS w B k (some ⟨g, 0, none⟩) 13 13 l := by
  have := NS.of_blk (B := B) h hcs hB (by rw [hl]; decide)
  rwa [hl] at this

theorem OB.of_blk {w : World} {base g : Nat} {e : TypeId} {l : List UInt8} (h : Blk w g e (l.map byt).toArray) (hb : base ≤ g) (hm : l.length ≤ maxLen) : OB w base e (some ⟨g, 0, none⟩) l.length l.length l :=
  ⟨by simp, .inr ⟨g, l.length, (l.map byt).toArray, rfl, hb, h, Nat.le_refl _, hm, by simp, by simp [List.take_of_length_le]⟩⟩

/-- New memory of no bytes yet. -/
theorem OB.room (w : World) (base : Nat) (t : TypeId) (c : Nat) (v : Value) (h : c ≤ maxLen) (hb : base ≤ w.heap.size) : OB (w.alloc (.cells (Array.replicate c v) t)) base t (some ⟨w.heap.size, 0, none⟩) 0 c [] :=
  ⟨by simp, .inr ⟨w.heap.size, c, Array.replicate c v, rfl, hb, heap_alloc_new w _, Nat.zero_le _, h, by simp, by simp⟩⟩

theorem blk4 {w W : World} {t1 t2 t3 t4 : TypeId} {c1 c2 c3 c4 : Array Value} (h : (((w.alloc (.cells c1 t1)).alloc (.cells c2 t2)).alloc (.cells c3 t3)).alloc (.cells c4 t4) = W) :
    Blk W w.heap.size t1 c1 ∧ Blk W (w.heap.size + 1) t2 c2 ∧ Blk W (w.heap.size + 1 + 1) t3 c3 ∧ Blk W (w.heap.size + 1 + 1 + 1) t4 c4 ∧ Grow w W := by
  obtain ⟨h1, h2, h3, h4⟩ := blk3 (w := w) (t1 := t1) (t2 := t2) (t3 := t3) (c1 := c1) (c2 := c2) (c3 := c3) rfl
  subst h
  have h5 := Blk.new (((w.alloc (.cells c1 t1)).alloc (.cells c2 t2)).alloc (.cells c3 t3)) t4 c4
  rw [show (((w.alloc (.cells c1 t1)).alloc (.cells c2 t2)).alloc (.cells c3 t3)).heap.size = w.heap.size + 1 + 1 + 1 by simp] at h5
  exact ⟨h1.alloc _, h2.alloc _, h3.alloc _, h5, h4.trans (Grow.of_alloc _ _)⟩

theorem rowF_false {q : List (Nat × Nat)} {k : Nat} (hk : k < q.length) (h : decide (q[k].1 < 256 ^ q[k].2) = false) : rowF q = false := by
  have e : q = q.take (k + 1) ++ q.drop (k + 1) := (List.take_append_drop _ _).symm
  rw [e, rowF_append, rowF_succ q k hk, h]
  simp

theorem RB.grow {w w' : World} {A : Option Addr} {n c : Nat} {l : List UInt8} (h : RB w w.heap.size A n c l) (hg : Grow w w') : RB w' w'.heap.size A n c l := (h.belowAt hg (Nat.le_refl _)).more hg.size

/-- b[:m] -/
theorem RB.first {w : World} {B : Nat} {A : Option Addr} {n c m : Nat} {l : List UInt8} (h : RB w B A n c l) (hm : m ≤ n) : RB w B A m c (l.take m) :=
  ⟨by have := h.len; simp; omega, by have := h.cap; omega, h.max, fun hp => by
    obtain ⟨b, off, e, hb, hc⟩ := h.pos (by omega)
    exact ⟨b, off, e, hb, fun j hj => by
      have hj2 : j < l.length := by simp at hj; omega
      rw [hc j hj2]; simp⟩⟩

theorem nums_at (l : List UInt8) (big : Bool) : ∀ (ns : List Nat) (p k : Nat) (h : k < ns.length), (nums l big p ns)[k]? = some (getB ((l.drop (p + sumN (ns.take k))).take ns[k]) big)
  | [], _, _, h => absurd h (by simp)
  | n :: r, p, 0, _ => by simp [nums, sumN]
  | n :: r, p, k + 1, h => by
    have := nums_at l big r (p + n) k (by simpa using h)
    simp only [nums, List.getElem?_cons_succ, this, List.take_succ_cons, sumN, List.getElem_cons_succ, Nat.add_assoc]

/-- The first k of them are laid. -/
def laidTo (kd : IntKind) (l : List Nat) (k j : Nat) : Value := .int kd (if j < k then l.getD j 0 else 0 : Nat)
theorem laidTo_succ {kd : IntKind} {l : List Nat} {k v : Nat} (hv : l[k]? = some v) (j : Nat) : (if j = k then Value.int kd (v : Int) else laidTo kd l k j) = laidTo kd l (k + 1) j := by
  by_cases e : j = k
  · subst e
    simp [laidTo, hv]
  · rw [if_neg e]
    by_cases e2 : j < k
    · simp only [laidTo, if_pos e2, if_pos (show j < k + 1 by omega)]
    · simp only [laidTo, if_neg e2, if_neg (show ¬ j < k + 1 by omega)]
theorem blk_of_rowIs {w : World} {g : Nat} {t : TypeId} {kd : IntKind} {l : List Nat} {n : Nat} (h : w.rowIs g t n (laidTo kd l n)) (hl : l.length = n) : Blk w g t ((l.map fun x : Nat => Value.int kd (x : Int)).toArray) := by
  obtain ⟨c, hb, hn, hc⟩ := h
  have e : c = (l.map fun x : Nat => Value.int kd (x : Int)).toArray := by
    apply Array.ext_getElem?
    intro i
    by_cases hi : i < n
    · rw [hc i hi]
      simp [laidTo, hi, show i < l.length by omega]
    · rw [Array.getElem?_eq_none (by omega), Array.getElem?_eq_none (by simp; omega)]
  rw [Blk, hb, e]

theorem results_cell2 {fn : Func} {p q : Tmp} {ty ty' : TypeId} (h : fn.results = #[.cell p ty, .cell q ty']) (tmps : Array Value) {P : Program} (w : World) (g g' : Nat) (u v : Value)
    (hp : tmps.getD p undef = .pointer (some ⟨g, 0, none⟩)) (hq : tmps.getD q undef = .pointer (some ⟨g', 0, none⟩)) (hu : (loadVar ty ⟨g, 0, none⟩).run P w = .ok u w) (hv : (loadVar ty' ⟨g', 0, none⟩).run P w = .ok v w) :
    (results fn tmps).run P w = .ok (.tuple #[u, v]) w := by
  have hp' : tmps[p]?.getD undef = .pointer (some ⟨g, 0, none⟩) := by simpa using hp
  have hq' : tmps[q]?.getD undef = .pointer (some ⟨g', 0, none⟩) := by simpa using hq
  simp [results, h, hp', hq', asAddr, hu, hv]

theorem leap_eq : Leap (fun w W : World => W = w) := ⟨fun _ => rfl, fun _ _ _ h k => k.trans h⟩

theorem list2 {l : List Nat} (h : l.length = 2) : ∃ x0 x1, l = [x0, x1] := by
  match l, h with
  | [x0, x1], _ => exact ⟨_, _, rfl⟩
theorem arr2 {R : Array Value} (h : R.size = 2) : ∃ r0 r1, R = #[r0, r1] := by
  match R, h with
  | ⟨[r0, r1]⟩, _ => exact ⟨_, _, rfl⟩
theorem list3 {l : List Nat} (h : l.length = 3) : ∃ x0 x1 x2, l = [x0, x1, x2] := by
  match l, h with
  | [x0, x1, x2], _ => exact ⟨_, _, _, rfl⟩
theorem arr3 {R : Array Value} (h : R.size = 3) : ∃ r0 r1 r2, R = #[r0, r1, r2] := by
  match R, h with
  | ⟨[r0, r1, r2]⟩, _ => exact ⟨_, _, _, rfl⟩
theorem list6 {l : List Nat} (h : l.length = 6) : ∃ x0 x1 x2 x3 x4 x5, l = [x0, x1, x2, x3, x4, x5] := by
  match l, h with
  | [x0, x1, x2, x3, x4, x5], _ => exact ⟨_, _, _, _, _, _, rfl⟩
theorem arr6 {R : Array Value} (h : R.size = 6) : ∃ r0 r1 r2 r3 r4 r5, R = #[r0, r1, r2, r3, r4, r5] := by
  match R, h with
  | ⟨[r0, r1, r2, r3, r4, r5]⟩, _ => exact ⟨_, _, _, _, _, _, rfl⟩
theorem list8 {l : List Nat} (h : l.length = 8) : ∃ x0 x1 x2 x3 x4 x5 x6 x7, l = [x0, x1, x2, x3, x4, x5, x6, x7] := by
  match l, h with
  | [x0, x1, x2, x3, x4, x5, x6, x7], _ => exact ⟨_, _, _, _, _, _, _, _, rfl⟩
theorem arr8 {R : Array Value} (h : R.size = 8) : ∃ r0 r1 r2 r3 r4 r5 r6 r7, R = #[r0, r1, r2, r3, r4, r5, r6, r7] := by
  match R, h with
  | ⟨[r0, r1, r2, r3, r4, r5, r6, r7]⟩, _ => exact ⟨_, _, _, _, _, _, _, _, rfl⟩
theorem list10 {l : List Nat} (h : l.length = 10) : ∃ x0 x1 x2 x3 x4 x5 x6 x7 x8 x9, l = [x0, x1, x2, x3, x4, x5, x6, x7, x8, x9] := by
  match l, h with
  | [x0, x1, x2, x3, x4, x5, x6, x7, x8, x9], _ => exact ⟨_, _, _, _, _, _, _, _, _, _, rfl⟩
theorem arr10 {R : Array Value} (h : R.size = 10) : ∃ r0 r1 r2 r3 r4 r5 r6 r7 r8 r9, R = #[r0, r1, r2, r3, r4, r5, r6, r7, r8, r9] := by
  match R, h with
  | ⟨[r0, r1, r2, r3, r4, r5, r6, r7, r8, r9]⟩, _ => exact ⟨_, _, _, _, _, _, _, _, _, _, rfl⟩
theorem Blk.c6 {w : World} {g : Nat} {t : TypeId} {a0 a1 a2 a3 a4 a5 : Value} (h : Blk w g t #[a0, a1, a2, a3, a4, a5]) :
    w.cell? ⟨g, 0, none⟩ = some a0 ∧ w.cell? ⟨g, 1, none⟩ = some a1 ∧ w.cell? ⟨g, 2, none⟩ = some a2 ∧ w.cell? ⟨g, 3, none⟩ = some a3 ∧ w.cell? ⟨g, 4, none⟩ = some a4 ∧ w.cell? ⟨g, 5, none⟩ = some a5 :=
  ⟨h.at 0, h.at 1, h.at 2, h.at 3, h.at 4, h.at 5⟩
theorem Blk.c8 {w : World} {g : Nat} {t : TypeId} {a0 a1 a2 a3 a4 a5 a6 a7 : Value} (h : Blk w g t #[a0, a1, a2, a3, a4, a5, a6, a7]) :
    w.cell? ⟨g, 0, none⟩ = some a0 ∧ w.cell? ⟨g, 1, none⟩ = some a1 ∧ w.cell? ⟨g, 2, none⟩ = some a2 ∧ w.cell? ⟨g, 3, none⟩ = some a3 ∧ w.cell? ⟨g, 4, none⟩ = some a4 ∧ w.cell? ⟨g, 5, none⟩ = some a5 ∧ w.cell? ⟨g, 6, none⟩ = some a6 ∧ w.cell? ⟨g, 7, none⟩ = some a7 :=
  ⟨h.at 0, h.at 1, h.at 2, h.at 3, h.at 4, h.at 5, h.at 6, h.at 7⟩
theorem Blk.c10 {w : World} {g : Nat} {t : TypeId} {a0 a1 a2 a3 a4 a5 a6 a7 a8 a9 : Value} (h : Blk w g t #[a0, a1, a2, a3, a4, a5, a6, a7, a8, a9]) :
    w.cell? ⟨g, 0, none⟩ = some a0 ∧ w.cell? ⟨g, 1, none⟩ = some a1 ∧ w.cell? ⟨g, 2, none⟩ = some a2 ∧ w.cell? ⟨g, 3, none⟩ = some a3 ∧ w.cell? ⟨g, 4, none⟩ = some a4 ∧ w.cell? ⟨g, 5, none⟩ = some a5 ∧ w.cell? ⟨g, 6, none⟩ = some a6 ∧ w.cell? ⟨g, 7, none⟩ = some a7 ∧ w.cell? ⟨g, 8, none⟩ = some a8 ∧ w.cell? ⟨g, 9, none⟩ = some a9 :=
  ⟨h.at 0, h.at 1, h.at 2, h.at 3, h.at 4, h.at 5, h.at 6, h.at 7, h.at 8, h.at 9⟩
/-- The cells of numbers of the call's own, in every world that keeps their block. -/
theorem ON.cells {w : World} {base : Nat} {e : TypeId} {k : IntKind} {A : Option Addr} {n c : Nat} {l : List Nat} (h : ON w base e k A n c l) (hn : 0 < n) :
    ∃ g cs, A = some ⟨g, 0, none⟩ ∧ base ≤ g ∧ Blk w g e cs ∧ n ≤ c ∧ ∀ W, Blk W g e cs → ∀ (j : Nat) (y : Nat), j < n → l[j]? = some y → W.cell? ⟨g, j, none⟩ = some (.int k (y : Int)) := by
  rcases h.2 with ⟨_, h0⟩ | ⟨g, cap, cur, hv, hg, hh, hnc, hcm, hsz, htk⟩
  · omega
  · injection hv with hA _ hc
    refine ⟨g, cur, hA, hg, hh, by omega, fun W hW j y hj hy => ?_⟩
    rw [hW.at]
    have e1 : (cur.toList.take (n * 1))[j]? = some (Value.int k (y : Int)) := by
      rw [htk, List.getElem?_map, hy]; rfl
    rw [List.getElem?_take_of_lt (by omega)] at e1
    simpa using e1
end Go.Proofs.Ytahmdccalgdiaaa
