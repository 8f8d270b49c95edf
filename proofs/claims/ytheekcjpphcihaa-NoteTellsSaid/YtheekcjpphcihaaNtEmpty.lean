/-
  append onto a new slice of no bytes; the cells of three numbers of the call's own; what fills up a note, byte by byte. No program's function is spoken of here.
-/
import Derived.Test.YtheekcjpphcihaaNtMem
namespace Go.Proofs.Ytheekcjpphcihaa
open Go.RowKit

theorem OB.bar {w W : World} {base k : Nat} {e : TypeId} {A : Option Addr} {n c : Nat} {l : List UInt8} (h : OB w base e A n c l) (hb : Bar k w W) (hA : own A ≠ some k) : OB W base e A n c l := by
  refine ⟨h.1, ?_⟩
  rcases h.2 with h0 | ⟨g, cap, cur, hv, hg, hh, r⟩
  · exact .inl h0
  · refine .inr ⟨g, cap, cur, hv, hg, ?_, r⟩
    have hlt : g < w.heap.size := by
      rcases Nat.lt_or_ge g w.heap.size with h1 | h1
      · exact h1
      · rw [Array.getElem?_eq_none h1] at hh; cases hh
    have hne : g ≠ k := fun he => hA (by injection hv with e1 _ _; subst e1; subst he; rfl)
    rw [hb.2 g hlt hne]
    exact hh

/-- append([]byte{}, x...), as one operation. -/
theorem wp_appendE {P : Program} (w : World) {o : Oper} {a : Act} {K : Act → World → Prop} {Q : Exit → Act → World → Prop} (s x : Operand) (t : TypeId)
    (ho : o.op = .call { callee := .builtin .append, args := #[s, x], argTypes := #[t, t] })
    (base : Nat) (e : TypeId) (ht : P.underlying t = some (.slice e)) (hinfo : (P.info? e).map (fun i => (i.zero, i.size, i.bytes)) = some (some (.int .u8 0), 1, 1))
    (g : Nat) (hs : a.eval s = .slice (some ⟨g, 0, none⟩) 0 0) (hE : Blk w g e #[]) (hg : base ≤ g)
    (B : Nat) (A' : Option Addr) (m c' : Nat) (l' : List UInt8) (hx : a.eval x = .slice A' m c') (hr : RB w B A' m c' l')
    (hsz : m ≤ 140737488355328) (hbase : base ≤ w.heap.size)
    (h : ∀ A2 c2 w', OB w' base e A2 m c2 l' → Below base w w' → Bar g w w' → (own A2 = some g ∨ own A2 = some w.heap.size) → K (a.put o.dst (.slice A2 m c2)) w') : o.wp P a w K Q := by
  have hown : OB w base e (some ⟨g, 0, none⟩) 0 0 [] := OB.of_blk (l := []) hE hg (by decide)
  refine wp_appendS w s x t ho base e ht hinfo _ 0 0 [] hs hown B A' m c' l' hx hr (by omega) hbase fun A2 c2 w' h1 h2 h3 h4 => ?_
  rw [Nat.zero_add, List.nil_append] at h1
  rw [Nat.zero_add]
  exact h A2 c2 w' h1 h2 ⟨h2.size, fun k hk hne => h3 k hk fun he => hne (Option.some.inj he).symm⟩ h4

/-- The cells of three numbers of the call's own. -/
theorem ON.at3 {w : World} {base : Nat} {e : TypeId} {k : IntKind} {A : Option Addr} {c : Nat} {x0 x1 x2 : Nat} (h : ON w base e k A 3 c [x0, x1, x2]) :
    ∃ g cs, A = some ⟨g, 0, none⟩ ∧ base ≤ g ∧ Blk w g e cs ∧ 3 ≤ c ∧ ∀ W, Blk W g e cs → W.cell? ⟨g, 0, none⟩ = some (.int k x0) ∧ W.cell? ⟨g, 1, none⟩ = some (.int k x1) ∧ W.cell? ⟨g, 2, none⟩ = some (.int k x2) := by
  obtain ⟨g, cs, hA, hb, hB, hc, key⟩ := h.cells (by omega)
  exact ⟨g, cs, hA, hb, hB, hc, fun W hW => ⟨key W hW 0 _ (by omega) rfl, key W hW 1 _ (by omega) rfl, key W hW 2 _ (by omega) rfl⟩⟩

theorem zeros_iff (l : List UInt8) (a n k : Nat) : zeros (((l.drop a).take n).drop k) = true ↔ ∀ m (h : m < l.length), a + k ≤ m → m < a + n → l[m] = 0 := by
  unfold zeros
  rw [List.all_eq_true]
  constructor
  · intro h m hm h1 h2
    have hj : m - a - k < (((l.drop a).take n).drop k).length := by simp; omega
    have := h _ (List.getElem_mem hj)
    have e : (((l.drop a).take n).drop k)[m - a - k] = l[m] := by
      simp only [List.getElem_drop, List.getElem_take]
      congr 1
      omega
    rw [e] at this
    simpa using this
  · intro h b hb
    obtain ⟨j, hj, rfl⟩ := List.getElem_of_mem hb
    have hj2 : j < n - k ∧ a + k + j < l.length := by simp at hj; omega
    have e : (((l.drop a).take n).drop k)[j] = l[a + k + j] := by
      simp only [List.getElem_drop, List.getElem_take]
      congr 1
      omega
    rw [e, h _ hj2.2 (by omega) (by omega)]
    rfl

/-- What fills the note at q up, byte by byte. -/
theorem ntZ_iff (l : List UInt8) (big : Bool) (q : Nat) : ntZ (l.drop q) big = true ↔
    ∀ m (h : m < l.length), q + 12 + ntG (l.drop q) big 0 ≤ m → m < q + ntE (l.drop q) big → (m < q + ntM (l.drop q) big ∨ q + ntM (l.drop q) big + ntG (l.drop q) big 4 ≤ m) → l[m] = 0 := by
  unfold ntZ ntN ntD
  have hM : ntM (l.drop q) big = 12 + fil (ntG (l.drop q) big 0) := rfl
  have hE : ntE (l.drop q) big = ntM (l.drop q) big + fil (ntG (l.drop q) big 4) := rfl
  rw [Bool.and_eq_true, List.drop_drop, List.drop_drop, zeros_iff, zeros_iff]
  have f0 := fil_ge (ntG (l.drop q) big 0)
  have f4 := fil_ge (ntG (l.drop q) big 4)
  constructor
  · rintro ⟨h1, h2⟩ m hm a1 a2 (a3 | a3)
    · exact h1 m hm (by omega) (by omega)
    · exact h2 m hm (by omega) (by omega)
  · intro h
    exact ⟨fun m hm a1 a2 => h m hm (by omega) (by omega) (.inl (by omega)), fun m hm a1 a2 => h m hm (by omega) (by omega) (.inr (by omega))⟩
theorem ntOf_parts (l : List UInt8) (big : Bool) (q : Nat) : (ntOf (l.drop q) big).name = (l.drop (q + 12)).take (ntG (l.drop q) big 0) ∧ (ntOf (l.drop q) big).desc = (l.drop (q + ntM (l.drop q) big)).take (ntG (l.drop q) big 4) := by
  have f0 := fil_ge (ntG (l.drop q) big 0)
  have f4 := fil_ge (ntG (l.drop q) big 4)
  constructor
  · simp only [ntOf, ntN, List.take_take, List.drop_drop, Nat.min_eq_left f0]
  · simp only [ntOf, ntD, List.take_take, List.drop_drop, Nat.min_eq_left f4]
end Go.Proofs.Ytheekcjpphcihaa
