/-
  What the document's own reading of a chain answers; numbers at a place by its own Numbers. Small words.
-/
import Derived.Test.YtfnaigeakfgpbaaVeAllA
import Derived.Test.YtfnaigeakfgpbaaVeDef
import Derived.Test.YtfnaigeakfgpbaaRefNums
import Derived.Test.YtfnaigeakfgpbaaFork3
namespace Go.Proofs.Ytfnaigeakfgpbaa
open Go.RowKit

/-- What the document's own answers: all of them, or an error's number and its place. -/
def RAll (M : VM) (S : List Ve × Nat × Nat) (w : World) (e : Ending) (w' : World) : Prop :=
  (S.2.1 = 0 ∧ ∃ A2 c2, e = .returned (.tuple #[.slice A2 S.1.length c2, .int .i64 0, .int .i64 0]) ∧ ZV M w' w'.heap.size A2 S.1.length c2 S.1 ∧ Grow w w') ∨
  (S.2.1 ≠ 0 ∧ e = .returned (.tuple #[.slice none 0 0, .int .i64 S.2.1, .int .i64 S.2.2]) ∧ Grow w w')

theorem Kept.cellset {S : Nat → Prop} (w : World) (g i : Nat) (v : Value) (h : ∀ k, S k → k ≠ g) : Kept S w (w.setCell ⟨g, i, none⟩ v) :=
  ⟨by simp, fun k _ hS => Deep.blk_setCell_other _ _ _ _ (h k hS)⟩
theorem Blk.putN {w : World} {g : Nat} {t : TypeId} {a b : Value} (h : Blk w g t #[a, b]) (v : Value) : Blk (w.setCell ⟨g, 1, none⟩ v) g t #[a, v] := by
  have := Joins.block_setCell (i := 1) h v
  simp at this
  exact this
theorem ZO.cellOther {w : World} {base : Nat} {e : TypeId} {z : Nat} {A : Option Addr} {n c : Nat} {l : List (Array Value)} (h : ZO w base e z A n c l) {g : Nat} (hg : own A ≠ some g) (i : Nat) (v : Value) : ZO (w.setCell ⟨g, i, none⟩ v) base e z A n c l := by
  refine ⟨⟨h.1.1, ?_⟩, h.2⟩
  rcases h.1.2 with h0 | ⟨g', cap, cur, hv, hb, hh, r⟩
  · exact .inl h0
  · refine .inr ⟨g', cap, cur, hv, hb, ?_, r⟩
    injection hv with e1 _ _
    subst e1
    have hne : g' ≠ g := fun e => hg (by rw [e]; rfl)
    rw [Deep.blk_setCell_other _ _ _ _ hne]
    exact hh

/-- Numbers at a place, or that they aren't all there. -/
def NumAt (l : List UInt8) (big : Bool) (n a N : Nat) (ws : List Nat) (w : World) (e : Ending) (w' : World) : Prop :=
  (a + sumN ws ≤ n ∧ ∃ g cs c2, e = .returned (.tuple #[.slice (some ⟨g, 0, none⟩) N c2, .bool true]) ∧ w.heap.size ≤ g ∧ Blk w' g 62 cs ∧ N ≤ c2 ∧
    (∀ W, Blk W g 62 cs → ∀ (j y : Nat), j < N → (nums l big a ws)[j]? = some y → W.cell? ⟨g, j, none⟩ = some (.int .u64 (y : Int))) ∧ Grow w w') ∨
  (n < a + sumN ws ∧ e = .returned (.tuple #[.slice none 0 0, .bool false]) ∧ Grow w w')
theorem num_at (ws : List Nat) (N : Nat) (hN : N = ws.length) (hw : ∀ k (h : k < ws.length), wid ws[k] = true) (h0 : 0 < N) (h1 : N ≤ 100) (A : Option Addr) (n c : Nat) (l : List UInt8) (big : Bool) (a gw : Nat) (w : World) (h : RB w w.heap.size A n c l) (hb : Blk w gw 3 (i64s ws)) (ha : a < 18446744073709551616) :
    Calls Try.prog 27 #[.slice A n c, .int .u64 a, .slice (some ⟨gw, 0, none⟩) N N, .bool big] w (NumAt l big n a N ws w) := by
  have hn := h.len
  have hns : NS w w.heap.size .i64 (some ⟨gw, 0, none⟩) N N ws := NS.of_blkN hb hN.symm (by unfold maxLen; omega) hb.lt (by simp [i64s, ival])
  refine (numbersRef_any A n c l a _ N N ws big w h hns ha hw (by omega) (by omega)).mono fun e w' he => ?_
  rcases he with ⟨hin, A2, c2, he, hon, hg⟩ | ⟨hout, he, hg⟩
  · left
    rw [← hN] at he hon
    obtain ⟨g, cs, hA, hb1, hblk, hnc, hcell⟩ := hon.cells h0
    subst hA
    exact ⟨by omega, g, cs, c2, he, hb1, hblk, hnc, hcell, hg⟩
  · exact .inr ⟨by omega, he, hg⟩
end Go.Proofs.Ytfnaigeakfgpbaa
