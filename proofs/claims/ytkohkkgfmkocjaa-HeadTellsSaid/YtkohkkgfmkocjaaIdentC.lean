/-
  Small words on beginnings, errors, and blocks of cells, that later layers use too.
-/
import Derived.Test.YtkohkkgfmkocjaaIdentRef
import Derived.Test.YtkohkkgfmkocjaaConv
import Derived.Lib.SmallJoins
namespace Go.Proofs.Ytkohkkgfmkocjaa
open Go.RowKit

theorem told_nil : Told [] 2 0 := .inr (.inl ⟨rfl, rfl, fun _ h => absurd h (Nat.not_lt_zero _), by decide⟩)

/-- Bytes whose first seven are those of a file. -/
theorem clean_of {l : List UInt8} {wide big : Bool} {o a : UInt8} (h : ∀ j (hj : j < l.length), j < 7 → l[j] = (idL wide big o a).getD j 0) : Clean l 7 := fun j hj hlt => by
  rw [h j hj hlt]
  match j, hlt with
  | 0, _ => simp [idL, faultN]
  | 1, _ => simp [idL, faultN]
  | 2, _ => simp [idL, faultN]
  | 3, _ => simp [idL, faultN]
  | 4, _ => cases wide <;> simp [idL, faultN, two]
  | 5, _ => cases big <;> simp [idL, faultN, two]
  | 6, _ => simp [idL, faultN]

theorem told_idL (wide big : Bool) (o a : UInt8) : Told (idL wide big o a) 0 0 :=
  .inl ⟨rfl, rfl, clean_of fun j hj _ => by rw [List.getD_eq_getElem?_getD, List.getElem?_eq_getElem hj]; rfl, by simp [idL]⟩

theorem idOf_idL (wide big : Bool) (o a : UInt8) : idOf (idL wide big o a) 0 = idV wide big o a := by
  cases wide <;> cases big <;> rfl

theorem Err.grow {w w' : World} {e : Value} {c p : Nat} (h : Err w e c p) (hg : Grow w w') : Err w' e c p := by
  rcases h with h | ⟨h0, b, h1, h2, h3, h4⟩
  · exact .inl h
  · exact .inr ⟨h0, b, h1, Nat.lt_of_lt_of_le h2 hg.size, by rw [hg.cell h2]; exact h3, by rw [hg.cell h2]; exact h4⟩

theorem Err.nil {w : World} {e : Value} {p : Nat} (h : Err w e 0 p) : e = .nilIface := by
  rcases h with h | ⟨h0, _⟩
  · exact h.2.2
  · omega

/-- What Put tells reads as its bytes. -/
theorem RB.put (w : World) (ob : Obj) (wide big : Bool) (o a : UInt8) (t : TypeId) : RB ((w.alloc ob).alloc (.cells (idC wide big o a) t)) (w.heap.size + 2) (some ⟨w.heap.size + 1, 0, none⟩) 16 16 (idL wide big o a) := by
  have h := RB.lit (w.alloc ob) t (idL wide big o a) (by simp [idL, maxLen])
  simpa [idC, idL] using h

theorem faultN_le (k : Nat) (v : UInt8) : faultN k v ≤ 4 := by
  unfold faultN
  split <;> split <;> first | omega | (split <;> omega)

theorem Told.le {l : List UInt8} {c p : Nat} (h : Told l c p) : c ≤ 4 ∧ p ≤ l.length := by
  rcases h with ⟨rfl, rfl, _⟩ | ⟨rfl, rfl, _⟩ | ⟨_, _, _, h1, rfl⟩
  · omega
  · omega
  · exact ⟨faultN_le _ _, by omega⟩

theorem idOf_agg (l : List UInt8) (c : Nat) : ∃ (P Q : Bool) (R S : Int), idOf l c = .agg #[.bool P, .bool Q, .int .u8 R, .int .u8 S] := by
  unfold idOf
  split <;> exact ⟨_, _, _, _, rfl⟩

/-- The four cells of a block, in every world that has only grown. -/
theorem four (w : World) (a b c d : Value) (t : TypeId) : ∀ W, Grow (w.alloc (.cells #[a, b, c, d] t)) W →
    W.cell? ⟨w.heap.size, 0, none⟩ = some a ∧ W.cell? ⟨w.heap.size, 1, none⟩ = some b ∧ W.cell? ⟨w.heap.size, 2, none⟩ = some c ∧ W.cell? ⟨w.heap.size, 3, none⟩ = some d := fun W h => by
  refine ⟨?_, ?_, ?_, ?_⟩ <;> rw [Below.cell h (by simp)] <;> simp

theorem Grow.trans' {w a b : World} (h : Grow w a) (k : Below w.heap.size a b) : Below w.heap.size w b := Below.trans h k

/-- The bytes of a block of their own. -/
def Own (w : World) (g : Nat) (l : List UInt8) : Prop := w.heap[g]? = some (.cells (l.map byt).toArray 5 (0, 0))
theorem Own.lt {w : World} {g : Nat} {l : List UInt8} (h : Own w g l) : g < w.heap.size := by
  rcases Nat.lt_or_ge g w.heap.size with h1 | h1
  · exact h1
  · rw [Own, Array.getElem?_eq_none h1] at h; cases h
theorem Own.grow {w w' : World} {g : Nat} {l : List UInt8} (h : Own w g l) (hb : Grow w w') : Own w' g l := by
  rw [Own, hb.block g h.lt]; exact h
theorem Own.at {w : World} {g : Nat} {l : List UInt8} (h : Own w g l) (j : Nat) (hj : j < l.length) : w.cell? ⟨g, j, none⟩ = some (.int .u8 (l[j].toNat : Int)) := by
  rw [Joins.cell_of_block h]; simp [hj, byt]
theorem Own.rb {w : World} {g n : Nat} {l : List UInt8} (h : Own w g l) (hn : n = l.length) (hm : n ≤ maxLen) : RB w w.heap.size (some ⟨g, 0, none⟩) n n l :=
  ⟨hn, Nat.le_refl _, hm, fun _ => ⟨g, 0, rfl, h.lt, fun j hj => by rw [Nat.zero_add]; exact h.at j hj⟩⟩
theorem Own.set {w : World} {g : Nat} {l : List UInt8} (h : Own w g l) (k : Nat) (v : UInt8) : Own (w.setCell ⟨g, k, none⟩ (.int .u8 (v.toNat : Int))) g (l.set k v) := by
  rw [Own, Joins.block_setCell h]
  simp [byt, List.map_set]
theorem Own.put (w : World) (ob : Obj) (wide big : Bool) (o a : UInt8) : Own ((w.alloc ob).alloc (.cells (idC wide big o a) 5)) (w.heap.size + 1) (idL wide big o a) := by
  have h := heap_alloc_new (w.alloc ob) (.cells (idC wide big o a) 5)
  simpa [Own, idC] using h
theorem four_after {w W : World} {b : Nat} {x y z t : Value} (h : w.cell? ⟨b, 0, none⟩ = some x ∧ w.cell? ⟨b, 1, none⟩ = some y ∧ w.cell? ⟨b, 2, none⟩ = some z ∧ w.cell? ⟨b, 3, none⟩ = some t) (hb : Below (b + 1) w W) :
    W.cell? ⟨b, 0, none⟩ = some x ∧ W.cell? ⟨b, 1, none⟩ = some y ∧ W.cell? ⟨b, 2, none⟩ = some z ∧ W.cell? ⟨b, 3, none⟩ = some t := by
  have e : ∀ i, W.cell? ⟨b, i, none⟩ = w.cell? ⟨b, i, none⟩ := fun i => hb.cell (Nat.lt_succ_self b)
  rw [e, e, e, e]; exact h

end Go.Proofs.Ytkohkkgfmkocjaa
