/-
  append of one struct in a list of operations; a store beside structs of the call's own. No program's function is spoken of here.
-/
import Derived.Test.YtahmdccalgdiaaaZs
namespace Go.Proofs.Ytahmdccalgdiaaa
open Go.RowKit

theorem wpList_appendZ {P : Program} (w : World) {ops : Array Oper} {rest : List Oper} {o : Oper} {a : Act} {Q : Exit → Act → World → Prop} (hgd : o.guard = none) (s x : Operand) (t : TypeId)
    (ho : o.op = .call { callee := .builtin .append, args := #[s, x], argTypes := #[t, t] })
    (base : Nat) (e : TypeId) (zv : Value) (z bytes : Nat) (ht : P.underlying t = some (.slice e)) (hinfo : (P.info? e).map (fun i => (i.zero, i.size, i.bytes)) = some (some zv, z, bytes)) (hzs : zv.cells.size = z) (hz0 : 0 < z)
    (A : Option Addr) (n c : Nat) (l : List (Array Value)) (hs : a.eval s = .slice A n c) (hown : ZO w base e z A n c l)
    (g : Nat) (t' : TypeId) (r : Array Value) (hx : a.eval x = .slice (some ⟨g, 0, none⟩) 1 1) (hr : Blk w g t' r) (hrz : r.size = z) (h1 : r.all (·.oneCell') = true)
    (h63 : n + 1 ≤ maxLen) (hsz : (n + 1) * bytes ≤ 140737488355328) (hbase : base ≤ w.heap.size)
    (h : ∀ A2 c2 w', ZO w' base e z A2 (n + 1) c2 (l ++ [r]) → w.grownBy w' (own A) → (own A2 = own A ∨ own A2 = some w.heap.size) → wpList P ops Q rest (a.put o.dst (.slice A2 (n + 1) c2)) w') : wpList P ops Q (o :: rest) a w := by
  refine wpList_plain hgd fun K hK => ?_
  refine wp_appendZ w s x t ho base e zv z bytes ht hinfo hzs hz0 A n c l hs hown g t' r hx hr hrz h1 h63 hsz hbase fun A2 c2 w' h2 h3 h4 => ?_
  exact hK _ _ (h A2 c2 w' h2 h3 h4)
/-- A store into another block leaves rows of the call's own. -/
theorem ZO.other {w : World} {base : Nat} {e : TypeId} {z : Nat} {A : Option Addr} {n c : Nat} {l : List (Array Value)} (h : ZO w base e z A n c l) {g : Nat} (hg : own A ≠ some g) (cs : Array Value) : ZO (w.setRow g cs) base e z A n c l := by
  refine ⟨⟨h.1.1, ?_⟩, h.2⟩
  rcases h.1.2 with h0 | ⟨g', cap, cur, hv, hb, hh, r⟩
  · exact .inl h0
  · refine .inr ⟨g', cap, cur, hv, hb, ?_, r⟩
    injection hv with e1 _ _
    subst e1
    have hne : g' ≠ g := fun e => hg (by rw [e]; rfl)
    rw [setRow_other w g g' cs (by omega)]
    exact hh
end Go.Proofs.Ytahmdccalgdiaaa
