/-
  A slice of bytes that reads as a list, and what keeps it so. No program's function is spoken of here.
-/
import Derived.WalkKit
import Derived.Laws.IdiomStrings
import Derived.Laws.BytesArg
import Derived.Deep.Draws
import Derived.Lib.Hide
namespace Go.Proofs.Ytahmdccalgdiaaa
open Go.RowKit

/-- The slice (A, n, c) reads as the bytes l; its cells lie below block B. -/
structure RB (w : World) (B : Nat) (A : Option Addr) (n c : Nat) (l : List UInt8) : Prop where
  len : n = l.length
  cap : n ≤ c
  max : c ≤ maxLen
  pos : 0 < n → ∃ b off, A = some ⟨b, off, none⟩ ∧ b < B ∧ ∀ j (h : j < l.length), w.cell? ⟨b, off + j, none⟩ = some (.int .u8 (l[j].toNat : Int))

section
variable {w w' : World} {B B' : Nat} {A : Option Addr} {n c : Nat} {l : List UInt8}
theorem RB.keep (h : RB w B A n c l) (hk : ∀ p : Addr, p.block < B → w'.cell? p = w.cell? p) : RB w' B A n c l :=
  ⟨h.len, h.cap, h.max, fun hn => by
    obtain ⟨b, off, e, hb, hc⟩ := h.pos hn
    exact ⟨b, off, e, hb, fun j hj => (hk ⟨b, off + j, none⟩ hb).trans (hc j hj)⟩⟩
theorem RB.more (h : RB w B A n c l) (hB : B ≤ B') : RB w B' A n c l :=
  ⟨h.len, h.cap, h.max, fun hn => by
    obtain ⟨b, off, e, hb, hc⟩ := h.pos hn
    exact ⟨b, off, e, by omega, hc⟩⟩
theorem RB.below (h : RB w B A n c l) (hb : Below B w w') : RB w' B A n c l := h.keep fun _ hp => hb.cell hp
theorem RB.belowAt {B0 : Nat} (h : RB w B A n c l) (hb : Below B0 w w') (hB : B ≤ B0) : RB w' B A n c l := h.keep fun _ hp => hb.cell (by omega)
theorem RB.drewN (h : RB w B A n c l) (k : Nat) : RB (w.drewN k) B A n c l := ⟨h.len, h.cap, h.max, h.pos⟩
theorem RB.drew (h : RB w B A n c l) : RB w.drew B A n c l := ⟨h.len, h.cap, h.max, h.pos⟩
theorem RB.nil : RB w B none 0 0 [] := ⟨rfl, Nat.le_refl _, Nat.zero_le _, fun h => absurd h (by omega)⟩

/-- b[p:p+n], n not 0 -/
theorem RB.sub {b off p m : Nat} (h : RB w B (some ⟨b, off, none⟩) n c l) (hp : p + m ≤ n) (hm : 0 < m) : RB w B (some ⟨b, off + p, none⟩) m (c - p) ((l.drop p).take m) := by
  have hl := h.len
  have hcap := h.cap
  have hmax := h.max
  refine ⟨by simp; omega, by omega, by omega, fun _ => ?_⟩
  obtain ⟨b', off', e, hb, hc⟩ := h.pos (by omega)
  injection e with e
  injection e with e1 e2 _
  subst e1; subst e2
  refine ⟨b, off + p, rfl, hb, fun j hj => ?_⟩
  have hj' : j < m := by simp at hj; omega
  rw [Nat.add_assoc, hc (p + j) (by omega)]
  simp

/-- string(b) -/
theorem RB.str {P : Program} (h : RB w B A n c l) (src dst e : TypeId) (hs : P.underlying src = some (.slice e)) (he : P.underlying e = some (.int .u8)) (hd : P.underlying dst = some .string) :
    (convert src dst (.slice A n c)).run P w = .ok (.string ⟨l.toArray⟩) w := by
  obtain rfl := h.len
  rcases A with _ | a
  · have hl : l = [] := by
      rcases Nat.eq_zero_or_pos l.length with h0 | h0
      · exact List.eq_nil_of_length_eq_zero h0
      · obtain ⟨_, _, e, _⟩ := h.pos h0
        cases e
    subst hl
    exact run_convert_bytes_nil w src e hs he _ _ dst hd
  · refine run_convert_bytes_back w src dst e a c l hs he hd fun j hj => ?_
    obtain ⟨b, off, e, _, hc⟩ := h.pos (by omega)
    injection e with e
    subst e
    have e2 : (⟨b, off, none⟩ : Addr).add j = ⟨b, off + j, none⟩ := by unfold Addr.add; split <;> simp_all
    rw [e2]
    exact hc j hj

/-- What the call's own row holds. -/
theorem RB.of_own {base : Nat} {e : TypeId} (h : w.ownsRow base e 1 (.slice A n c) n (l.map fun b => Value.int .u8 (b.toNat : Int))) : RB w w.heap.size A n c l := by
  have hl : n = l.length := by have := h.1; simp at this; omega
  rcases h.2 with ⟨e0, h0⟩ | ⟨g, cap, cur, hv, _, hh, hnc, hcm, hsz, htk⟩
  · injection e0 with e1 e2 e3
    subst e1; subst e3
    exact ⟨hl, by omega, Nat.zero_le _, fun hp => by omega⟩
  · injection hv with hA _ hc
    subst hA; subst hc
    refine ⟨hl, hnc, hcm, fun _ => ⟨g, 0, rfl, ?_, fun j hj => ?_⟩⟩
    · rcases Nat.lt_or_ge g w.heap.size with h1 | h1
      · exact h1
      · rw [Array.getElem?_eq_none h1] at hh; cases hh
    · rw [cell_of_row w g (0 + j) cur e (0, 0) hh, Nat.zero_add]
      have e1 : (cur.toList.take (n * 1))[j]? = some (Value.int .u8 (l[j].toNat : Int)) := by
        rw [htk]; simp [hj]
      rw [List.getElem?_take_of_lt (by omega)] at e1
      simpa using e1
end
end Go.Proofs.Ytahmdccalgdiaaa
