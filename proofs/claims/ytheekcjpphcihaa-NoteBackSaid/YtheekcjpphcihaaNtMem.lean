/-
  Notes in memory: a slice of structs that hold two slices of bytes and a number; and what an append leaves. No program's function is spoken of here.
-/
import Derived.Test.YtheekcjpphcihaaNtMath
import Derived.Test.YtheekcjpphcihaaZapp
import Derived.Test.YtheekcjpphcihaaRoom
namespace Go.Proofs.Ytheekcjpphcihaa
open Go.RowKit

/-- The row r reads as the note s. -/
def NtR (w : World) (B : Nat) (r : Array Value) (s : Nt) : Prop :=
  ∃ A n c A' n' c', r = #[.slice A n c, .slice A' n' c', .int .u32 (s.typ : Int)] ∧ RB w B A n c s.name ∧ RB w B A' n' c' s.desc
/-- The rows R read as the notes L. -/
def NtRs (w : World) (B : Nat) (R : List (Array Value)) (L : List Nt) : Prop := R.length = L.length ∧ ∀ j (h : j < R.length) (h' : j < L.length), NtR w B R[j] L[j]
/-- The slice (A, n, c) reads as the notes L. -/
def ZN (w : World) (B : Nat) (A : Option Addr) (n c : Nat) (L : List Nt) : Prop := ∃ R, ZS w B 3 A n c R ∧ NtRs w B R L

section
variable {w w' : World} {B B0 B' : Nat} {A : Option Addr} {n c : Nat} {L : List Nt} {R : List (Array Value)} {r : Array Value} {s : Nt}
theorem NtR.belowAt (h : NtR w B r s) (hb : Below B0 w w') (hB : B ≤ B0) : NtR w' B r s := by
  obtain ⟨A, n, c, A', n', c', e, h1, h2⟩ := h
  exact ⟨A, n, c, A', n', c', e, h1.belowAt hb hB, h2.belowAt hb hB⟩
theorem NtR.more (h : NtR w B r s) (hB : B ≤ B') : NtR w B' r s := by
  obtain ⟨A, n, c, A', n', c', e, h1, h2⟩ := h
  exact ⟨A, n, c, A', n', c', e, h1.more hB, h2.more hB⟩
theorem NtRs.belowAt (h : NtRs w B R L) (hb : Below B0 w w') (hB : B ≤ B0) : NtRs w' B R L := ⟨h.1, fun j h1 h2 => (h.2 j h1 h2).belowAt hb hB⟩
theorem NtRs.more (h : NtRs w B R L) (hB : B ≤ B') : NtRs w B' R L := ⟨h.1, fun j h1 h2 => (h.2 j h1 h2).more hB⟩
theorem ZN.belowAt (h : ZN w B A n c L) (hb : Below B0 w w') (hB : B ≤ B0) : ZN w' B A n c L := by
  obtain ⟨R, h1, h2⟩ := h
  exact ⟨R, h1.belowAt hb hB, h2.belowAt hb hB⟩
theorem ZN.more (h : ZN w B A n c L) (hB : B ≤ B') : ZN w B' A n c L := by
  obtain ⟨R, h1, h2⟩ := h
  exact ⟨R, h1.more hB, h2.more hB⟩
theorem ZN.grow (h : ZN w w.heap.size A n c L) (hg : Grow w w') : ZN w' w'.heap.size A n c L := (h.belowAt hg (Nat.le_refl _)).more hg.size
theorem ZN.drew (h : ZN w B A n c L) : ZN w.drew B A n c L := h.belowAt (B0 := B) ⟨rfl, rfl, rfl, Nat.le_refl _, fun _ _ => rfl⟩ (Nat.le_refl _)
theorem ZN.len (h : ZN w B A n c L) : n = L.length := by
  obtain ⟨R, h1, h2⟩ := h
  exact h1.len.trans h2.1
theorem ZN.cap (h : ZN w B A n c L) : n ≤ c := by
  obtain ⟨R, h1, h2⟩ := h
  exact h1.cap
theorem ZN.max (h : ZN w B A n c L) : c ≤ maxLen := by
  obtain ⟨R, h1, h2⟩ := h
  exact h1.max
theorem ZN.nil : ZN w B none 0 0 [] := ⟨[], ZS.nil, rfl, fun j h => absurd h (by simp)⟩
theorem ZN.pos (h : ZN w B A n c L) (hn : 0 < n) : ∃ b off, A = some ⟨b, off, none⟩ := by
  obtain ⟨R, h1, h2⟩ := h
  obtain ⟨b, off, e, _⟩ := h1.pos hn
  exact ⟨b, off, e⟩
/-- One of them: its cells, and its bytes. -/
theorem ZN.at {b off k : Nat} (h : ZN w B (some ⟨b, off, none⟩) n c L) (hk : k < L.length) : ∃ A1 n1 c1 A2 n2 c2, b < B ∧
    (w.cell? ⟨b, off + k * 3, none⟩ = some (.slice A1 n1 c1) ∧ w.cell? ⟨b, off + k * 3 + 1, none⟩ = some (.slice A2 n2 c2) ∧ w.cell? ⟨b, off + k * 3 + 2, none⟩ = some (.int .u32 (L[k].typ : Int))) ∧ RB w B A1 n1 c1 L[k].name ∧ RB w B A2 n2 c2 L[k].desc := by
  obtain ⟨R, h1, h2⟩ := h
  have hkR : k < R.length := by rw [h2.1]; exact hk
  obtain ⟨A1, n1, c1, A2, n2, c2, e, r1, r2⟩ := h2.2 k hkR hk
  obtain ⟨b', off', e', hb, hc⟩ := h1.pos (by have := h1.len; omega)
  injection e' with e'
  injection e' with e1 e2
  subst e1; subst e2
  exact ⟨A1, n1, c1, A2, n2, c2, hb, ⟨hc k hkR 0 _ (by rw [e]; rfl), hc k hkR 1 _ (by rw [e]; rfl), hc k hkR 2 _ (by rw [e]; rfl)⟩, r1, r2⟩
/-- The row itself, for a load of the whole. -/
theorem ZN.row (h : ZN w B A n c L) : ∃ R, ZS w B 3 A n c R ∧ ∀ k (hk : k < L.length), ∃ (hR : k < R.length), ∃ A1 n1 c1 A2 n2 c2, R[k] = #[.slice A1 n1 c1, .slice A2 n2 c2, .int .u32 (L[k].typ : Int)] ∧ RB w B A1 n1 c1 L[k].name ∧ RB w B A2 n2 c2 L[k].desc := by
  obtain ⟨R, h1, h2⟩ := h
  refine ⟨R, h1, fun k hk => ?_⟩
  have hkR : k < R.length := by rw [h2.1]; exact hk
  exact ⟨hkR, h2.2 k hkR hk⟩
end

/-- The row r holds the note s, its bytes the call's own. -/
def NtO (w : World) (base : Nat) (e : TypeId) (r : Array Value) (s : Nt) : Prop :=
  ∃ A n c A' n' c', r = #[.slice A n c, .slice A' n' c', .int .u32 (s.typ : Int)] ∧ OB w base e A n c s.name ∧ OB w base e A' n' c' s.desc
def NtOs (w : World) (base : Nat) (e : TypeId) (R : List (Array Value)) (L : List Nt) : Prop := R.length = L.length ∧ ∀ j (h : j < R.length) (h' : j < L.length), NtO w base e R[j] L[j]

theorem OB.rowsNe {w : World} {base base' : Nat} {e e' : TypeId} {z : Nat} {A A' : Option Addr} {n c n' c' : Nat} {l : List UInt8} {R : List (Array Value)} (h : OB w base e A n c l) (h' : ZO w base' e' z A' n' c' R) (ht : e ≠ e') : own A = none ∨ own A ≠ own A' := by
  rcases h.2 with ⟨hv, _⟩ | ⟨g, cap, cur, hv, _, hh, _⟩
  · injection hv with e1 _ _
    subst e1
    exact .inl rfl
  · injection hv with e1 _ _
    subst e1
    refine .inr fun hA => ?_
    rcases h'.1.2 with ⟨hv', _⟩ | ⟨g', cap', cur', hv', _, hh', _⟩
    · injection hv' with e1 _ _
      subst e1
      cases hA
    · injection hv' with e1 _ _
      subst e1
      have e3 : g = g' := Option.some.inj hA
      subst e3
      rw [hh] at hh'
      injection hh' with hh'
      injection hh' with _ hh'
      exact ht hh'
theorem OB.past {w w' : World} {base : Nat} {e : TypeId} {A : Option Addr} {n c : Nat} {l : List UInt8} {row : Option Nat} (h : OB w base e A n c l) (hg : w.grownBy w' row) (hne : own A = none ∨ own A ≠ row) : OB w' base e A n c l := World.ownsRow.kept h hg (by rw [own_slice]; exact hne)

section
variable {w w' : World} {base : Nat} {e : TypeId} {R : List (Array Value)} {L : List Nt} {r : Array Value} {s : Nt}
theorem NtO.keep (h : NtO w base e r s) (hg : Grow w w') : NtO w' base e r s := by
  obtain ⟨A, n, c, A', n', c', e1, h1, h2⟩ := h
  exact ⟨A, n, c, A', n', c', e1, h1.keep hg, h2.keep hg⟩
theorem NtO.rd (h : NtO w base e r s) : NtR w w.heap.size r s := by
  obtain ⟨A, n, c, A', n', c', e1, h1, h2⟩ := h
  exact ⟨A, n, c, A', n', c', e1, h1.rb, h2.rb⟩
theorem NtO.past {base' : Nat} {e' : TypeId} {z : Nat} {A' : Option Addr} {n' c' : Nat} {M : List (Array Value)} (h : NtO w base e r s) (h' : ZO w base' e' z A' n' c' M) (ht : e ≠ e') (hg : w.grownBy w' (own A')) : NtO w' base e r s := by
  obtain ⟨A, n, c, A', n', c', e1, h1, h2⟩ := h
  exact ⟨A, n, c, A', n', c', e1, h1.past hg (h1.rowsNe h' ht), h2.past hg (h2.rowsNe h' ht)⟩
theorem NtO.row (h : NtO w base e r s) : r.size = 3 ∧ r.all (·.oneCell') = true := by
  obtain ⟨A, n, c, A', n', c', e1, h1, h2⟩ := h
  subst e1
  exact ⟨rfl, by simp [Value.oneCell']⟩
theorem NtOs.nil : NtOs w base e [] [] := ⟨rfl, fun j h => absurd h (by simp)⟩
theorem NtOs.keep (h : NtOs w base e R L) (hg : Grow w w') : NtOs w' base e R L := ⟨h.1, fun j h1 h2 => (h.2 j h1 h2).keep hg⟩
theorem NtOs.past {base' : Nat} {e' : TypeId} {z : Nat} {A' : Option Addr} {n' c' : Nat} {M : List (Array Value)} (h : NtOs w base e R L) (h' : ZO w base' e' z A' n' c' M) (ht : e ≠ e') (hg : w.grownBy w' (own A')) : NtOs w' base e R L := ⟨h.1, fun j h1 h2 => (h.2 j h1 h2).past h' ht hg⟩
theorem NtOs.snoc (h : NtOs w base e R L) (h2 : NtO w base e r s) : NtOs w base e (R ++ [r]) (L ++ [s]) := by
  refine ⟨by simp [h.1], fun j h3 h4 => ?_⟩
  by_cases hj : j < R.length
  · have hj' : j < L.length := by rw [← h.1]; exact hj
    rw [List.getElem_append_left hj, List.getElem_append_left hj']
    exact h.2 j hj hj'
  · have e1 : j = R.length := by simp at h3; omega
    subst e1
    have hl : L.length ≤ R.length := by rw [h.1]; exact Nat.le_refl _
    rw [List.getElem_append_right (Nat.le_refl _), List.getElem_append_right hl]
    simpa using h2
theorem NtOs.rd (h : NtOs w base e R L) : NtRs w w.heap.size R L := ⟨h.1, fun j h1 h2 => (h.2 j h1 h2).rd⟩
theorem ZO.zn {base' : Nat} {e' : TypeId} {A : Option Addr} {n c : Nat} (h : ZO w base' e' 3 A n c R) (h2 : NtOs w base e R L) : ZN w w.heap.size A n c L := ⟨R, h.zs, h2.rd⟩
/-- Another row. -/
theorem NtO.other {g : Nat} (h : NtO w base e r s) (hg : ∀ (A : Option Addr) (n c : Nat) (l : List UInt8), OB w base e A n c l → own A ≠ some g) (cs : Array Value) : NtO (w.setRow g cs) base e r s := by
  have key : ∀ (A : Option Addr) (n c : Nat) (l : List UInt8), OB w base e A n c l → OB (w.setRow g cs) base e A n c l := fun A n c l h => by
    have hne := hg A n c l h
    refine ⟨h.1, ?_⟩
    rcases h.2 with h0 | ⟨g', cap, cur, hv, hb, hh, r⟩
    · exact .inl h0
    · refine .inr ⟨g', cap, cur, hv, hb, ?_, r⟩
      have : g' ≠ g := fun he => hne (by injection hv with e1 _ _; subst e1; subst he; rfl)
      rw [setRow_other w g g' cs (by exact this)]
      exact hh
  obtain ⟨A, n, c, A', n', c', e1, h1, h2⟩ := h
  exact ⟨A, n, c, A', n', c', e1, key _ _ _ _ h1, key _ _ _ _ h2⟩
end

/-- What an append to the bytes at A leaves: every other block stays; the bytes lie where they lay, or in a new block (A2). -/
def Left (w w' : World) (A A2 : Option Addr) : Prop := w.heap.size ≤ w'.heap.size ∧ (∀ k, k < w.heap.size → own A ≠ some k → w'.heap[k]? = w.heap[k]?) ∧ ∀ g, own A2 = some g → own A = some g ∨ w.heap.size ≤ g
theorem Left.refl (w : World) (A : Option Addr) : Left w w A A := ⟨Nat.le_refl _, fun _ _ _ => rfl, fun _ h => .inl h⟩
theorem Left.of_grow {w w' : World} (A : Option Addr) (h : Grow w w') : Left w w' A A := ⟨h.size, fun k hk _ => h.block k hk, fun _ h => .inl h⟩
theorem Left.of_append {w w' : World} {A A2 : Option Addr} (hs : w.heap.size ≤ w'.heap.size) (hk : ∀ k, k < w.heap.size → own A ≠ some k → w'.heap[k]? = w.heap[k]?) (hn : own A2 = own A ∨ own A2 = some w.heap.size) : Left w w' A A2 :=
  ⟨hs, hk, fun g hg => by
    rcases hn with e | e
    · exact .inl (e ▸ hg)
    · rw [e] at hg
      injection hg with hg
      exact .inr (by omega)⟩
theorem Left.trans {w w1 w2 : World} {A A1 A2 : Option Addr} (h : Left w w1 A A1) (k : Left w1 w2 A1 A2) : Left w w2 A A2 := by
  refine ⟨Nat.le_trans h.1 k.1, fun i hi hA => ?_, fun g hg => ?_⟩
  · have h1 : own A1 ≠ some i := fun he => by
      rcases h.2.2 i he with h2 | h2
      · exact hA h2
      · omega
    rw [k.2.1 i (Nat.lt_of_lt_of_le hi h.1) h1, h.2.1 i hi hA]
  · rcases k.2.2 g hg with h1 | h1
    · exact h.2.2 g h1
    · exact .inr (Nat.le_trans h.1 h1)
theorem Left.blk {w w' : World} {A A2 : Option Addr} (h : Left w w' A A2) {g : Nat} {t : TypeId} {cs : Array Value} (hA : own A ≠ some g) (hb : Blk w g t cs) : Blk w' g t cs ∧ own A2 ≠ some g := by
  have hlt := hb.lt
  refine ⟨(h.2.1 g hlt hA).trans hb, fun he => ?_⟩
  rcases h.2.2 g he with h1 | h1
  · exact hA h1
  · omega
end Go.Proofs.Ytheekcjpphcihaa
