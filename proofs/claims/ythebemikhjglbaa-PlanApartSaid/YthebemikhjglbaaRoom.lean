/-
  Bytes and rows of the call's own: where they lie, new memory for them, and append in a list of operations, told with what stays. No program's function is spoken of here.
-/
import Derived.Test.YthebemikhjglbaaPlPre
namespace Go.Proofs.Ythebemikhjglbaa
open Go.RowKit

theorem OB.roomyR (w : World) (base : Nat) (t : TypeId) (c : Nat) (cs : Array Value) (hs : cs.size = c) (h : c ≤ maxLen) (hb : base ≤ w.heap.size) : OB (w.alloc (.cells cs t)) base t (some ⟨w.heap.size, 0, none⟩) 0 c [] :=
  ⟨by simp, .inr ⟨w.heap.size, c, cs, rfl, hb, heap_alloc_new w _, Nat.zero_le _, h, by simp [hs], by simp⟩⟩
theorem own_lt_of {w : World} {base : Nat} {e : TypeId} {z n c : Nat} {A : Option Addr} {cs : List Value} (h : w.ownsRow base e z (.slice A n c) n cs) {g : Nat} (hg : own A = some g) : base ≤ g ∧ g < w.heap.size := by
  rcases h.2 with ⟨hv, _⟩ | ⟨g', cap, cur, hv, hb, hh, _⟩
  · injection hv with e1 _ _
    subst e1
    cases hg
  · injection hv with e1 _ _
    subst e1
    have e3 : g' = g := Option.some.inj hg
    subst e3
    refine ⟨hb, ?_⟩
    rcases Nat.lt_or_ge g' w.heap.size with h1 | h1
    · exact h1
    · rw [Array.getElem?_eq_none h1] at hh; cases hh
theorem OB.in {w : World} {base : Nat} {e : TypeId} {A : Option Addr} {n c : Nat} {l : List UInt8} (h : OB w base e A n c l) {g : Nat} (hg : own A = some g) : base ≤ g ∧ g < w.heap.size := own_lt_of h hg
theorem OB.ne {w : World} {base : Nat} {e : TypeId} {A : Option Addr} {n c : Nat} {l : List UInt8} (h : OB w base e A n c l) {g : Nat} (hg : g < base ∨ w.heap.size ≤ g) : own A ≠ some g := fun he => by
  have := h.in he
  omega
theorem ZO.in {w : World} {base : Nat} {e : TypeId} {z : Nat} {A : Option Addr} {n c : Nat} {l : List (Array Value)} (h : ZO w base e z A n c l) {g : Nat} (hg : own A = some g) : base ≤ g ∧ g < w.heap.size := own_lt_of h.1 hg
theorem ZO.ne {w : World} {base : Nat} {e : TypeId} {z : Nat} {A : Option Addr} {n c : Nat} {l : List (Array Value)} (h : ZO w base e z A n c l) {g : Nat} (hg : g < base ∨ w.heap.size ≤ g) : own A ≠ some g := fun he => by
  have := h.in he
  omega

/-- What an append leaves: a block that isn't the own one stays, and isn't the new one's. -/
theorem blk_left {w w' : World} {A A2 : Option Addr} (hk : ∀ k, k < w.heap.size → own A ≠ some k → w'.heap[k]? = w.heap[k]?) (hn : own A2 = own A ∨ own A2 = some w.heap.size) {g : Nat} {t : TypeId} {cs : Array Value} (hA : own A ≠ some g) (h : Blk w g t cs) :
    Blk w' g t cs ∧ own A2 ≠ some g := by
  have hlt := h.lt
  refine ⟨(hk g hlt hA).trans h, ?_⟩
  rcases hn with e | e
  · rw [e]; exact hA
  · rw [e]; exact fun h => by injection h; omega

theorem wpList_appendS {P : Program} (w : World) {ops : Array Oper} {rest : List Oper} {o : Oper} {a : Act} {Q : Exit → Act → World → Prop} (hgd : o.guard = none) (s x : Operand) (t : TypeId)
    (ho : o.op = .call { callee := .builtin .append, args := #[s, x], argTypes := #[t, t] })
    (base : Nat) (e : TypeId) (ht : P.underlying t = some (.slice e)) (hinfo : (P.info? e).map (fun i => (i.zero, i.size, i.bytes)) = some (some (.int .u8 0), 1, 1))
    (A : Option Addr) (n c : Nat) (l : List UInt8) (hs : a.eval s = .slice A n c) (hown : OB w base e A n c l)
    (B : Nat) (A' : Option Addr) (m c' : Nat) (l' : List UInt8) (hx : a.eval x = .slice A' m c') (hr : RB w B A' m c' l')
    (hsz : n + m ≤ 140737488355328) (hbase : base ≤ w.heap.size)
    (h : ∀ A2 c2 w', OB w' base e A2 (n + m) c2 (l ++ l') → Below base w w' → (∀ k, k < w.heap.size → own A ≠ some k → w'.heap[k]? = w.heap[k]?) → (own A2 = own A ∨ own A2 = some w.heap.size) →
      wpList P ops Q rest (a.put o.dst (.slice A2 (n + m) c2)) w') : wpList P ops Q (o :: rest) a w := by
  refine wpList_plain hgd fun K hK => ?_
  obtain ⟨A2, c2, w', hrun, h2, h3, h4, h5⟩ := run_appendS (P := P) w base t o.type e ht hinfo A n c l hown B A' m c' l' hr hsz hbase
  unfold Oper.wp execOp
  simp only [ho, resolve, invoke, builtin, Sem.run_bind, Sem.run_pure, Result.andThen_ok, List.map_toArray, List.map_cons, List.map_nil, hs, hx, hrun]
  exact hK _ _ (h A2 c2 w' h2 h3 h4 h5)
end Go.Proofs.Ythebemikhjglbaa
