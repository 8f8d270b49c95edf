/-
  append onto bytes of the call's own, from bytes of whatever place (nil, empty or not). No program's function is spoken of here.
-/
import Derived.Test.YtahmdccalgdiaaaMem
import Derived.Maps.AppendAt
namespace Go.Proofs.Ytahmdccalgdiaaa
open Go.RowKit

/-- A byte's cell. -/
def byt (b : UInt8) : Value := .int .u8 (b.toNat : Int)

/-- The slice (A, n, c) is the call's own (its block is base or later) and holds the bytes l. -/
def OB (w : World) (base : Nat) (e : TypeId) (A : Option Addr) (n c : Nat) (l : List UInt8) : Prop :=
  w.ownsRow base e 1 (.slice A n c) n (l.map byt)

theorem OB.rb {w : World} {base : Nat} {e : TypeId} {A : Option Addr} {n c : Nat} {l : List UInt8} (h : OB w base e A n c l) : RB w w.heap.size A n c l := RB.of_own h
theorem OB.len {w : World} {base : Nat} {e : TypeId} {A : Option Addr} {n c : Nat} {l : List UInt8} (h : OB w base e A n c l) : n = l.length := h.rb.len
theorem OB.nil {w : World} {base : Nat} {e : TypeId} : OB w base e none 0 0 [] := World.ownsRow_nil _ _ _ _

/-- A new block that holds the bytes l. -/
theorem RB.lit (w : World) (t : TypeId) (l : List UInt8) (h : l.length ≤ maxLen) : RB (w.alloc (.cells (l.map byt).toArray t)) (w.heap.size + 1) (some ⟨w.heap.size, 0, none⟩) l.length l.length l :=
  ⟨rfl, Nat.le_refl _, h, fun _ => ⟨w.heap.size, 0, rfl, by omega, fun j hj => by
    rw [Nat.zero_add, World.cell?_alloc_mark]
    simp [hj, byt]⟩⟩
theorem OB.lit (w : World) (base : Nat) (t : TypeId) (l : List UInt8) (h : l.length ≤ maxLen) (hb : base ≤ w.heap.size) : OB (w.alloc (.cells (l.map byt).toArray t)) base t (some ⟨w.heap.size, 0, none⟩) l.length l.length l :=
  ⟨by simp, .inr ⟨w.heap.size, l.length, (l.map byt).toArray, rfl, hb, heap_alloc_new w _, Nat.le_refl _, h, by simp, by simp [List.take_of_length_le]⟩⟩

theorem OB.keep {w w' : World} {base : Nat} {e : TypeId} {A : Option Addr} {n c : Nat} {l : List UInt8} (h : OB w base e A n c l) (hb : Below w.heap.size w w') : OB w' base e A n c l := by
  refine ⟨h.1, ?_⟩
  rcases h.2 with h0 | ⟨g, cap, cur, hv, hg, hh, r⟩
  · exact .inl h0
  · refine .inr ⟨g, cap, cur, hv, hg, ?_, r⟩
    rw [hb.block g ?_]
    · exact hh
    · rcases Nat.lt_or_ge g w.heap.size with h1 | h1
      · exact h1
      · rw [Array.getElem?_eq_none h1] at hh; cases hh
theorem OB.alloc {w : World} {base : Nat} {e : TypeId} {A : Option Addr} {n c : Nat} {l : List UInt8} (h : OB w base e A n c l) (o : Obj) : OB (w.alloc o) base e A n c l :=
  h.keep (Below.alloc (Below.refl _ _) (Nat.le_refl _) o)
theorem OB.mono {w : World} {base base' : Nat} {e : TypeId} {A : Option Addr} {n c : Nat} {l : List UInt8} (h : OB w base e A n c l) (hb : base' ≤ base) : OB w base' e A n c l := by
  refine ⟨h.1, ?_⟩
  rcases h.2 with h0 | ⟨g, cap, cur, hv, hg, r⟩
  · exact .inl h0
  · exact .inr ⟨g, cap, cur, hv, by omega, r⟩

theorem byt_oneCell (l : List UInt8) : ∀ u ∈ l.map byt, u.oneCell' = true := by
  intro u hu
  obtain ⟨b, _, rfl⟩ := List.mem_map.1 hu
  rfl

/-- What the append of bytes leaves: bytes of the call's own; nothing below base has changed. -/
theorem run_appendB {P : Program} (w : World) (base : Nat) (t ty e : TypeId) (ht : P.underlying t = some (.slice e)) (hinfo : (P.info? e).map (fun i => (i.zero, i.size, i.bytes)) = some (some (.int .u8 0), 1, 1))
    (A : Option Addr) (n c : Nat) (l : List UInt8) (hown : OB w base e A n c l) (B : Nat) (A' : Option Addr) (m c' : Nat) (l' : List UInt8) (hr : RB w B A' m c' l')
    (hsz : n + m ≤ 140737488355328) (hbase : base ≤ w.heap.size) :
    ∃ A2 c2 w', (Builtin.append_ #[t, t] ty #[.slice A n c, .slice A' m c']).run P w = .ok (.slice A2 (n + m) c2) w' ∧ OB w' base e A2 (n + m) c2 (l ++ l') ∧ Below base w w' := by
  obtain ⟨i, hi, hz, hs, hby⟩ := info_parts hinfo
  have hbel : ∀ {w' : World}, w.grownBy w' (Value.ownBlock (.slice A n c)) → Below base w w' := fun hg =>
    (Below.refl base w).grown hg hbase fun k hk => (hown.lt k hk).1
  rcases A' with _ | a
  · have hm : m = 0 := by
      rcases Nat.eq_zero_or_pos m with h0 | h0
      · exact h0
      · obtain ⟨_, _, h, _⟩ := hr.pos h0
        cases h
    subst hm
    have hl' : l' = [] := List.eq_nil_of_length_eq_zero hr.len.symm
    subst hl'
    refine ⟨A, c, w, ?_, by simpa using hown, Below.refl _ _⟩
    rcases hown.2 with ⟨h0, h1⟩ | ⟨g, cap, cur, h0, _, _, hnc, _⟩
    · injection h0 with e1 e2 e3
      subst e1; subst e2; subst e3
      simp [Builtin.append_, run_underlying ht, sizeOf, typeInfo, hi, Builtin.lenOf, Builtin.firstCells]
    · injection h0 with e1 e2 e3
      subst e1; subst e3
      simp [Builtin.append_, run_underlying ht, sizeOf, typeInfo, hi, Builtin.lenOf, Builtin.firstCells, hnc, storeCells]
  · obtain ⟨v', w', hrun, h2, h3, _, _⟩ := run_append_own_at (P := P) w base t ty e i (.int .u8 0) 1 1 ht hi hz hs hby rfl (by omega) _ n _ hown a m c' (l'.map byt)
      (by simp [hr.len]) (fun j u hj => by
        have hjl : j < l'.length := by have := (List.getElem?_eq_some_iff.1 hj).1; simpa using this
        obtain ⟨b, off, e1, _, hc⟩ := hr.pos (by have := hr.len; omega)
        injection e1 with e1
        subst e1
        have e2 : (⟨b, off, none⟩ : Addr).add j = ⟨b, off + j, none⟩ := by unfold Addr.add; split <;> simp_all
        rw [e2, hc j hjl]
        simp [hjl, byt] at hj
        rw [← hj]) (byt_oneCell l') (by unfold maxLen; omega) (by omega) hbase
    have hv : ∃ A2 c2, v' = .slice A2 (n + m) c2 := by
      rcases h2.2 with ⟨h0, h1⟩ | ⟨g, cap, cur, h0, _⟩
      · exact ⟨none, 0, by rw [h0, h1]⟩
      · exact ⟨_, _, h0⟩
    obtain ⟨A2, c2, rfl⟩ := hv
    exact ⟨A2, c2, w', hrun, by simpa [OB] using h2, hbel h3⟩

/-- The block that a slice lies in. -/
def own (A : Option Addr) : Option Nat := A.map (·.block)
theorem own_slice (A : Option Addr) (n c : Nat) : (Value.slice A n c).ownBlock = own A := by cases A <;> rfl

/-- What the append of bytes leaves, block by block: every other block is as it was; the bytes lie where they lay, or in a new block. -/
theorem run_appendS {P : Program} (w : World) (base : Nat) (t ty e : TypeId) (ht : P.underlying t = some (.slice e)) (hinfo : (P.info? e).map (fun i => (i.zero, i.size, i.bytes)) = some (some (.int .u8 0), 1, 1))
    (A : Option Addr) (n c : Nat) (l : List UInt8) (hown : OB w base e A n c l) (B : Nat) (A' : Option Addr) (m c' : Nat) (l' : List UInt8) (hr : RB w B A' m c' l')
    (hsz : n + m ≤ 140737488355328) (hbase : base ≤ w.heap.size) :
    ∃ A2 c2 w', (Builtin.append_ #[t, t] ty #[.slice A n c, .slice A' m c']).run P w = .ok (.slice A2 (n + m) c2) w' ∧ OB w' base e A2 (n + m) c2 (l ++ l') ∧ Below base w w' ∧
      (∀ k, k < w.heap.size → own A ≠ some k → w'.heap[k]? = w.heap[k]?) ∧ (own A2 = own A ∨ own A2 = some w.heap.size) := by
  obtain ⟨i, hi, hz, hs, hby⟩ := info_parts hinfo
  rcases A' with _ | a
  · have hm : m = 0 := by
      rcases Nat.eq_zero_or_pos m with h0 | h0
      · exact h0
      · obtain ⟨_, _, h, _⟩ := hr.pos h0
        cases h
    subst hm
    have hl' : l' = [] := List.eq_nil_of_length_eq_zero hr.len.symm
    subst hl'
    refine ⟨A, c, w, ?_, by simpa using hown, Below.refl _ _, fun _ _ _ => rfl, .inl rfl⟩
    rcases hown.2 with ⟨h0, h1⟩ | ⟨g, cap, cur, h0, _, _, hnc, _⟩
    · injection h0 with e1 e2 e3
      subst e1; subst e2; subst e3
      simp [Builtin.append_, run_underlying ht, sizeOf, typeInfo, hi, Builtin.lenOf, Builtin.firstCells]
    · injection h0 with e1 e2 e3
      subst e1; subst e3
      simp [Builtin.append_, run_underlying ht, sizeOf, typeInfo, hi, Builtin.lenOf, Builtin.firstCells, hnc, storeCells]
  · obtain ⟨v', w', hrun, h2, h3, _, h5⟩ := run_append_own_at (P := P) w base t ty e i (.int .u8 0) 1 1 ht hi hz hs hby rfl (by omega) _ n _ hown a m c' (l'.map byt)
      (by simp [hr.len]) (fun j u hj => by
        have hjl : j < l'.length := by have := (List.getElem?_eq_some_iff.1 hj).1; simpa using this
        obtain ⟨b, off, e1, _, hc⟩ := hr.pos (by have := hr.len; omega)
        injection e1 with e1
        subst e1
        have e2 : (⟨b, off, none⟩ : Addr).add j = ⟨b, off + j, none⟩ := by unfold Addr.add; split <;> simp_all
        rw [e2, hc j hjl]
        simp [hjl, byt] at hj
        rw [← hj]) (byt_oneCell l') (by unfold maxLen; omega) (by omega) hbase
    have hv : ∃ A2 c2, v' = .slice A2 (n + m) c2 := by
      rcases h2.2 with ⟨h0, h1⟩ | ⟨g, cap, cur, h0, _⟩
      · exact ⟨none, 0, by rw [h0, h1]⟩
      · exact ⟨_, _, h0⟩
    obtain ⟨A2, c2, rfl⟩ := hv
    rw [own_slice, own_slice] at h5
    exact ⟨A2, c2, w', hrun, by simpa [OB] using h2, (Below.refl base w).grown h3 hbase fun k hk => (hown.lt k hk).1, fun k hk hne => h3.block k hk (by rw [own_slice]; exact Ne.symm hne), h5⟩

theorem wp_appendS {P : Program} (w : World) {o : Oper} {a : Act} {K : Act → World → Prop} {Q : Exit → Act → World → Prop} (s x : Operand) (t : TypeId)
    (ho : o.op = .call { callee := .builtin .append, args := #[s, x], argTypes := #[t, t] })
    (base : Nat) (e : TypeId) (ht : P.underlying t = some (.slice e)) (hinfo : (P.info? e).map (fun i => (i.zero, i.size, i.bytes)) = some (some (.int .u8 0), 1, 1))
    (A : Option Addr) (n c : Nat) (l : List UInt8) (hs : a.eval s = .slice A n c) (hown : OB w base e A n c l)
    (B : Nat) (A' : Option Addr) (m c' : Nat) (l' : List UInt8) (hx : a.eval x = .slice A' m c') (hr : RB w B A' m c' l')
    (hsz : n + m ≤ 140737488355328) (hbase : base ≤ w.heap.size)
    (h : ∀ A2 c2 w', OB w' base e A2 (n + m) c2 (l ++ l') → Below base w w' → (∀ k, k < w.heap.size → own A ≠ some k → w'.heap[k]? = w.heap[k]?) → (own A2 = own A ∨ own A2 = some w.heap.size) →
      K (a.put o.dst (.slice A2 (n + m) c2)) w') : o.wp P a w K Q := by
  obtain ⟨A2, c2, w', hrun, h2, h3, h4, h5⟩ := run_appendS (P := P) w base t o.type e ht hinfo A n c l hown B A' m c' l' hr hsz hbase
  unfold Oper.wp execOp
  simp only [ho, resolve, invoke, builtin, Sem.run_bind, Sem.run_pure, Result.andThen_ok, List.map_toArray, List.map_cons, List.map_nil, hs, hx, hrun]
  exact h A2 c2 w' h2 h3 h4 h5

/-- The same as one operation. -/
theorem wp_appendB {P : Program} (w : World) {o : Oper} {a : Act} {K : Act → World → Prop} {Q : Exit → Act → World → Prop} (s x : Operand) (t : TypeId)
    (ho : o.op = .call { callee := .builtin .append, args := #[s, x], argTypes := #[t, t] })
    (base : Nat) (e : TypeId) (ht : P.underlying t = some (.slice e)) (hinfo : (P.info? e).map (fun i => (i.zero, i.size, i.bytes)) = some (some (.int .u8 0), 1, 1))
    (A : Option Addr) (n c : Nat) (l : List UInt8) (hs : a.eval s = .slice A n c) (hown : OB w base e A n c l)
    (B : Nat) (A' : Option Addr) (m c' : Nat) (l' : List UInt8) (hx : a.eval x = .slice A' m c') (hr : RB w B A' m c' l')
    (hsz : n + m ≤ 140737488355328) (hbase : base ≤ w.heap.size)
    (h : ∀ A2 c2 w', OB w' base e A2 (n + m) c2 (l ++ l') → Below base w w' → K (a.put o.dst (.slice A2 (n + m) c2)) w') : o.wp P a w K Q := by
  obtain ⟨A2, c2, w', hrun, h2, h3⟩ := run_appendB (P := P) w base t o.type e ht hinfo A n c l hown B A' m c' l' hr hsz hbase
  unfold Oper.wp execOp
  simp only [ho, resolve, invoke, builtin, Sem.run_bind, Sem.run_pure, Result.andThen_ok, List.map_toArray, List.map_cons, List.map_nil, hs, hx, hrun]
  exact h A2 c2 w' h2 h3

theorem wpList_appendB {P : Program} (w : World) {ops : Array Oper} {rest : List Oper} {o : Oper} {a : Act} {Q : Exit → Act → World → Prop} (hgd : o.guard = none) (s x : Operand) (t : TypeId)
    (ho : o.op = .call { callee := .builtin .append, args := #[s, x], argTypes := #[t, t] })
    (base : Nat) (e : TypeId) (ht : P.underlying t = some (.slice e)) (hinfo : (P.info? e).map (fun i => (i.zero, i.size, i.bytes)) = some (some (.int .u8 0), 1, 1))
    (A : Option Addr) (n c : Nat) (l : List UInt8) (hs : a.eval s = .slice A n c) (hown : OB w base e A n c l)
    (B : Nat) (A' : Option Addr) (m c' : Nat) (l' : List UInt8) (hx : a.eval x = .slice A' m c') (hr : RB w B A' m c' l')
    (hsz : n + m ≤ 140737488355328) (hbase : base ≤ w.heap.size)
    (h : ∀ A2 c2 w', OB w' base e A2 (n + m) c2 (l ++ l') → Below base w w' → wpList P ops Q rest (a.put o.dst (.slice A2 (n + m) c2)) w') : wpList P ops Q (o :: rest) a w := by
  refine wpList_plain hgd fun K hK => ?_
  obtain ⟨A2, c2, w', hrun, h2, h3⟩ := run_appendB (P := P) w base t o.type e ht hinfo A n c l hown B A' m c' l' hr hsz hbase
  unfold Oper.wp execOp
  simp only [ho, resolve, invoke, builtin, Sem.run_bind, Sem.run_pure, Result.andThen_ok, List.map_toArray, List.map_cons, List.map_nil, hs, hx, hrun]
  exact hK _ _ (h A2 c2 w' h2 h3)
end Go.Proofs.Ytahmdccalgdiaaa
