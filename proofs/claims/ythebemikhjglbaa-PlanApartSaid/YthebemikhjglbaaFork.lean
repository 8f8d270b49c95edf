/-
  A region that draws its order, walked along a tree of orders: chains, and forks where either of two may come first. No program's function is spoken of here.
-/
import Derived.Test.YthebemikhjglbaaPlPre
namespace Go.Proofs.Ythebemikhjglbaa
open Go.RowKit

/-- Orders: a chain and what follows; or either of two, each with what follows. -/
inductive Tr where
  | done
  | chain (c : Chain) (t : Tr)
  | both (i : Nat) (s : Tr) (j : Nat) (t : Tr)

def Tr.len : Tr → Nat
  | .done => 0
  | .chain c t => c.length + t.len
  | .both _ s _ _ => s.len + 1
/-- The orders are those that the edges allow. -/
def Tr.ok (ops : Array Oper) : Tr → Array Bool → Bool
  | .done, l => Region.ready .any ops l == []
  | .chain c t, l => Chain.ok ops c l && t.ok ops (Chain.after l c)
  | .both i s j t, l => (Region.ready .any ops l == [i, j]) && s.ok ops (l.setIfInBounds i true) && t.ok ops (l.setIfInBounds j true) && (s.len == t.len)

def wpTr (P : Program) (ops : Array Oper) (Q : Exit → Act → World → Prop) (Y : World → World → Prop) : Tr → Act → World → Prop
  | .done, a, w => Q .normal a w
  | .chain c t, a, w => wpChain P ops (NoPanic Q) Y (fun a w => wpTr P ops Q Y t a w) c a w
  | .both i s j t, a, w => wpOp P ops (NoPanic Q) i (fun a' w' => Y w w' ∧ wpTr P ops Q Y s a' w') a w ∧ wpOp P ops (NoPanic Q) j (fun a' w' => Y w w' ∧ wpTr P ops Q Y t a' w') a w

section
variable {P : Program} {ops : Array Oper} {Q : Exit → Act → World → Prop} {Y : World → World → Prop}

theorem wpTr_sound (hy : Leap Y) (hs : Region.noSelect ops = true) : ∀ (t : Tr) (l : Array Bool) (a : Act) (w : World), t.ok ops l = true → wpTr P ops Q Y t a w → wpAnyH P .any ops (NoPanic Q) (Y w) t.len l a w
  | .done, l, a, w, hB, h => ⟨by simpa [Tr.ok] using hB, h⟩
  | .chain c t, l, a, w, hB, h => by
    simp only [Tr.ok, Bool.and_eq_true] at hB
    have := wpChain_sound (P := P) (ops := ops) (Q := NoPanic Q) (Y := Y) (R := fun a w => wpTr P ops Q Y t a w) hy hs (fun _ _ _ h => h) t.len c l a w (fun a w h => wpTr_sound hy hs t _ a w hB.2 h) hB.1 h
    rwa [Nat.add_comm] at this
  | .both i s j t, l, a, w, hB, h => by
    simp only [Tr.ok, Bool.and_eq_true] at hB
    obtain ⟨⟨⟨b1, b2⟩, b3⟩, b4⟩ := hB
    refine wpAnyH_all (rs := [i, j]) (by simpa using b1) (by simp) ?_
    intro k hk
    by_cases hki : k = i
    · subst hki
      exact wpOp_mono (fun a' w' h' => ⟨h'.1, wpAnyH_weaken (fun W hW => hy.trans _ _ _ h'.1 hW) _ _ _ _ (wpTr_sound hy hs s _ a' w' b2 h'.2)⟩) h.1
    · obtain rfl : k = j := by
        rcases List.mem_cons.1 hk with e1 | e1
        · exact absurd e1 hki
        · simpa using e1
      have e : s.len = t.len := by simpa using b4
      rw [e]
      exact wpOp_mono (fun a' w' h' => ⟨h'.1, wpAnyH_weaken (fun W hW => hy.trans _ _ _ h'.1 hW) _ _ _ _ (wpTr_sound hy hs t _ a' w' b3 h'.2)⟩) h.2

/-- The region, along a tree of orders. -/
theorem wp_region_tree (hy : Leap Y) {id : Nat} {a : Act} {w : World} (t : Tr) (hm : P.follows .mixedOrders = true) (hs : Region.noSelect ops = true)
    (hB : (t.ok ops (Array.replicate ops.size false) && (t.len == ops.size)) = true) (h : wpTr P ops Q Y t a w.drew) : (Code.region id ops true).wp P Q a w := by
  simp only [Bool.and_eq_true] at hB
  have hl : t.len = ops.size := by simpa using hB.2
  refine wp_region_noPanic (wp_region_held (S := Y w.drew) hm ?_)
  have := wpTr_sound (P := P) (ops := ops) (Q := Q) (Y := Y) hy hs t _ a w.drew hB.1 h
  rwa [hl] at this
theorem tr_done {a : Act} {w : World} (h : Q .normal a w) : wpTr P ops Q Y .done a w := h
theorem tr_chain {c : Chain} {t : Tr} {a : Act} {w : World} (h : wpChain P ops (NoPanic Q) Y (fun a w => wpTr P ops Q Y t a w) c a w) : wpTr P ops Q Y (.chain c t) a w := h
theorem tr_both {i j : Nat} {s t : Tr} {a : Act} {w : World} (h1 : wpOp P ops (NoPanic Q) i (fun a' w' => Y w w' ∧ wpTr P ops Q Y s a' w') a w) (h2 : wpOp P ops (NoPanic Q) j (fun a' w' => Y w w' ∧ wpTr P ops Q Y t a' w') a w) :
    wpTr P ops Q Y (.both i s j t) a w := ⟨h1, h2⟩
end
attribute [irreducible] wpTr
end Go.Proofs.Ythebemikhjglbaa
