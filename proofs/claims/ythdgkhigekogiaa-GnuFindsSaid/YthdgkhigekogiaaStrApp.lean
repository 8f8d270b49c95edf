/-
  append onto names of the call's own, from names of any place; a slice of names from a place on. No program's function is spoken of here.
-/
import Derived.Test.YthdgkhigekogiaaStrs
import Derived.Test.YthdgkhigekogiaaApp
import Derived.Test.YthdgkhigekogiaaAppG
import Derived.Test.YthdgkhigekogiaaNtCut
import Derived.Maps.AppendAt
namespace Go.Proofs.Ythdgkhigekogiaa
open Go.RowKit

def nam (s : Bs) : Value := .string (bstr s)
/-- The slice is the call's own, and holds the names L. -/
def SO (w : World) (base : Nat) (e : TypeId) (A : Option Addr) (n c : Nat) (L : List Bs) : Prop := w.ownsRow base e 1 (.slice A n c) n (L.map nam)
section
variable {w w' : World} {base : Nat} {e : TypeId} {A : Option Addr} {n c : Nat} {L : List Bs}
theorem SO.len (h : SO w base e A n c L) : n = L.length := by have := h.1; simp at this; omega
theorem SO.keep (h : SO w base e A n c L) (hb : Below w.heap.size w w') : SO w' base e A n c L := by
  refine ⟨h.1, ?_⟩
  rcases h.2 with h0 | ⟨g, cap, cur, hv, hg, hh, r⟩
  · exact .inl h0
  · refine .inr ⟨g, cap, cur, hv, hg, ?_, r⟩
    rw [hb.block g ?_]
    · exact hh
    · rcases Nat.lt_or_ge g w.heap.size with h1 | h1
      · exact h1
      · rw [Array.getElem?_eq_none h1] at hh; cases hh
theorem SO.ss (h : SO w base e A n c L) (he : ∀ s ∈ L, s.length ≤ maxLen) : SS w w.heap.size A n c L := by
  have hl := h.len
  rcases h.2 with ⟨e0, h0⟩ | ⟨g, cap, cur, hv, _, hh, hnc, hcm, hsz, htk⟩
  · injection e0 with e1 e2 e3
    subst e1; subst e3
    exact ⟨hl, by omega, Nat.zero_le _, he, fun hp => by omega⟩
  · injection hv with hA _ hc
    subst hA; subst hc
    refine ⟨hl, hnc, hcm, he, fun _ => ⟨g, 0, rfl, ?_, fun j hj => ?_⟩⟩
    · rcases Nat.lt_or_ge g w.heap.size with h1 | h1
      · exact h1
      · rw [Array.getElem?_eq_none h1] at hh; cases hh
    · rw [cell_of_row w g (0 + j) cur e (0, 0) hh, Nat.zero_add]
      have e1 : (cur.toList.take (n * 1))[j]? = some (nam (L.getD j [])) := by
        rw [htk]; simp [hj]
      rw [List.getElem?_take_of_lt (by omega)] at e1
      simpa [nam] using e1
theorem SO.lit (w : World) (base : Nat) (t : TypeId) (hb : base ≤ w.heap.size) : SO (w.alloc (.cells #[] t)) base t (some ⟨w.heap.size, 0, none⟩) 0 0 [] :=
  ⟨by simp, .inr ⟨w.heap.size, 0, #[], rfl, hb, heap_alloc_new w _, Nat.le_refl _, Nat.zero_le _, by simp, by simp⟩⟩
/-- From a place on. -/
theorem SS.drop {B p : Nat} {a : Addr} (h : SS w B (some a) n c L) (hp : p ≤ n) : SS w B (some (cutA a c p)) (n - p) (c - p) (L.drop p) := by
  have hl := h.len
  have hcap := h.cap
  have hmax := h.max
  refine ⟨by simp; omega, by omega, by omega, fun s hs => h.each s (List.mem_of_mem_drop hs), fun h0 => ?_⟩
  obtain ⟨b, off, e, hb, hc⟩ := h.pos (by omega)
  injection e with e
  subst e
  refine ⟨b, off + p, ?_, hb, fun j hj => ?_⟩
  · congr 1
    unfold cutA Addr.add
    rw [if_neg (by omega)]
    split <;> simp_all
  · have hj2 : p + j < L.length := by simp at hj; omega
    rw [Nat.add_assoc, hc (p + j) hj2]
    simp
end

theorem wpList_appendN {P : Program} (w : World) {ops : Array Oper} {rest : List Oper} {o : Oper} {a : Act} {Q : Exit → Act → World → Prop} (hgd : o.guard = none) (s x : Operand) (t : TypeId)
    (ho : o.op = .call { callee := .builtin .append, args := #[s, x], argTypes := #[t, t] })
    (base : Nat) (e : TypeId) (z : Value) (bytes : Nat) (ht : P.underlying t = some (.slice e)) (hinfo : (P.info? e).map (fun i => (i.zero, i.size, i.bytes)) = some (some z, 1, bytes)) (hzs : z.cells.size = 1)
    (A : Option Addr) (n c : Nat) (L : List Bs) (hs : a.eval s = .slice A n c) (hown : SO w base e A n c L)
    (B : Nat) (A' : Option Addr) (m c' : Nat) (L' : List Bs) (hx : a.eval x = .slice A' m c') (hr : SS w B A' m c' L') (hm : 0 < m)
    (h63 : n + m ≤ maxLen) (hsz : (n + m) * bytes ≤ 140737488355328) (hbase : base ≤ w.heap.size)
    (h : ∀ A2 c2 w', SO w' base e A2 (n + m) c2 (L ++ L') → Below base w w' → wpList P ops Q rest (a.put o.dst (.slice A2 (n + m) c2)) w') : wpList P ops Q (o :: rest) a w := by
  refine wpList_plain hgd fun K hK => ?_
  obtain ⟨i, hi, hz, hs1, hby⟩ := info_parts hinfo
  obtain ⟨b, off, rfl, _, hcell⟩ := hr.pos hm
  have hl := hr.len
  obtain ⟨v', w', hrun, h2, h3, _, _⟩ := run_append_own_at (P := P) w base t o.type e i z 1 bytes ht hi hz hs1 hby hzs (by omega) _ n _ hown ⟨b, off, none⟩ m c' (L'.map nam)
    (by simp [hl]) (fun j u hj => by
      have hjl : j < L'.length := by have := (List.getElem?_eq_some_iff.1 hj).1; simpa using this
      have e2 : (⟨b, off, none⟩ : Addr).add j = ⟨b, off + j, none⟩ := by unfold Addr.add; split <;> simp_all
      rw [e2, hcell j hjl, ← hj]
      simp [hjl, nam]) (by intro u hu; obtain ⟨q, _, rfl⟩ := List.mem_map.1 hu; rfl) h63 hsz hbase
  have hv : ∃ A2 c2, v' = .slice A2 (n + m) c2 := by
    rcases h2.2 with ⟨h0, h1⟩ | ⟨g, cap, cur, h0, _⟩
    · exact ⟨none, 0, by rw [h0, h1]⟩
    · exact ⟨_, _, h0⟩
  obtain ⟨A2, c2, rfl⟩ := hv
  unfold Oper.wp execOp
  simp only [ho, resolve, invoke, builtin, Sem.run_bind, Sem.run_pure, Result.andThen_ok, List.map_toArray, List.map_cons, List.map_nil, hs, hx, hrun]
  exact hK _ _ (h A2 c2 w' (by simpa [SO] using h2) ((Below.refl base w).grown h3 hbase fun k hk => (World.ownsRow.lt hown k hk).1))
end Go.Proofs.Ythdgkhigekogiaa
