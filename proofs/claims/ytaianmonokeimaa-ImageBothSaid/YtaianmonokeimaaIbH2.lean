/-
  Several texts in one: append onto bytes of the call's own, from bytes of whatever place (nil, empty or not); Slices of structs (rows of z cells each); Two small words on what is returned.
-/
import Derived.Test.YtaianmonokeimaaIbH1
import Derived.Maps.AppendAt
import Derived.Laws.MakeOwn
import Derived.WalkKit
namespace Go.Proofs.Ytaianmonokeimaa
open Go.RowKit
def byt (b : UInt8) : Value := .int .u8 (b.toNat : Int)
def OB (w : World) (base : Nat) (e : TypeId) (A : Option Addr) (n c : Nat) (l : List UInt8) : Prop :=
 w.ownsRow base e 1 (.slice A n c) n (l.map byt)
theorem OB.rb {w : World} {base : Nat} {e : TypeId} {A : Option Addr} {n c : Nat} {l : List UInt8} (h : OB w base e A n c l) : RB w w.heap.size A n c l := RB.of_own h
theorem OB.nil {w : World} {base : Nat} {e : TypeId} : OB w base e none 0 0 [] := World.ownsRow_nil _ _ _ _
theorem OB.keep {w w' : World} {base : Nat} {e : TypeId} {A : Option Addr} {n c : Nat} {l : List UInt8} (h : OB w base e A n c l) (hb : Below w.heap.size w w') : OB w' base e A n c l := by
 refine ⟨h.1, ?_⟩
 rcases h.2 with h0 | ⟨g, cap, cur, hv, hg, hh, r⟩
 ·exact .inl h0
 ·refine .inr ⟨g, cap, cur, hv, hg, ?_, r⟩
  rw [hb.block g ?_]
  ·exact hh
  ·rcases Nat.lt_or_ge g w.heap.size with h1 | h1
   ·exact h1
   ·rw [Array.getElem?_eq_none h1] at hh; cases hh
theorem OB.mono {w : World} {base base' : Nat} {e : TypeId} {A : Option Addr} {n c : Nat} {l : List UInt8} (h : OB w base e A n c l) (hb : base' ≤ base) : OB w base' e A n c l := by
 refine ⟨h.1, ?_⟩
 rcases h.2 with h0 | ⟨g, cap, cur, hv, hg, r⟩
 ·exact .inl h0
 ·exact .inr ⟨g, cap, cur, hv, by omega, r⟩
theorem byt_oneCell (l : List UInt8) : ∀ u ∈ l.map byt, u.oneCell' = true := by
 intro u hu
 obtain ⟨b, _, rfl⟩ := List.mem_map.1 hu
 rfl
theorem run_appendB {P : Program} (w : World) (base : Nat) (t ty e : TypeId) (ht : P.underlying t = some (.slice e)) (hinfo : (P.info? e).map (fun i => (i.zero, i.size, i.bytes)) = some (some (.int .u8 0), 1, 1))
  (A : Option Addr) (n c : Nat) (l : List UInt8) (hown : OB w base e A n c l) (B : Nat) (A' : Option Addr) (m c' : Nat) (l' : List UInt8) (hr : RB w B A' m c' l')
  (hsz : n + m ≤ 140737488355328) (hbase : base ≤ w.heap.size) :
  ∃ A2 c2 w', (Builtin.append_ #[t, t] ty #[.slice A n c, .slice A' m c']).run P w = .ok (.slice A2 (n + m) c2) w' ∧ OB w' base e A2 (n + m) c2 (l ++ l') ∧ Below base w w' := by
 obtain ⟨i, hi, hz, hs, hby⟩ := info_parts hinfo
 have hbel : ∀ {w' : World}, w.grownBy w' (Value.ownBlock (.slice A n c)) → Below base w w' := fun hg =>
  (Below.refl base w).grown hg hbase fun k hk => (hown.lt k hk).1
 rcases A' with _ | a
 ·have hm : m = 0 := by
   rcases Nat.eq_zero_or_pos m with h0 | h0
   ·exact h0
   ·obtain ⟨_, _, h, _⟩ := hr.pos h0
    cases h
  subst hm
  have hl' : l' = [] := List.eq_nil_of_length_eq_zero hr.len.symm
  subst hl'
  refine ⟨A, c, w, ?_, by simpa using hown, Below.refl _ _⟩
  rcases hown.2 with ⟨h0, h1⟩ | ⟨g, cap, cur, h0, _, _, hnc, _⟩
  ·injection h0 with e1 e2 e3
   subst e1; subst e2; subst e3
   simp [Builtin.append_, run_underlying ht, sizeOf, typeInfo, hi, Builtin.lenOf, Builtin.firstCells]
  ·injection h0 with e1 e2 e3
   subst e1; subst e3
   simp [Builtin.append_, run_underlying ht, sizeOf, typeInfo, hi, Builtin.lenOf, Builtin.firstCells, hnc, storeCells]
 ·obtain ⟨v', w', hrun, h2, h3, _, _⟩ := run_append_own_at (P := P) w base t ty e i (.int .u8 0) 1 1 ht hi hz hs hby rfl (by omega) _ n _ hown a m c' (l'.map byt)
   (by simp [hr.len]) (fun j u hj => by
    have hjl : j < l'.length := by have := (List.getElem?_eq_some_iff.1 hj).1; simpa using this
    obtain ⟨b, off, e1, _, hc⟩ := hr.pos (by have := hr.len; omega)
    injection e1 with e1
    subst e1
    have e2 : (⟨b, off, none⟩ : Addr).add j = ⟨b, off + j, none⟩ := by unfold Addr.add; split <;> simp_all
    rw [e2, hc j hjl]
    simp [hjl, byt] at hj
    rw [← hj]) (byt_oneCell l') (by unfold maxLen; omega) (by omega) hbase
  have hv : ∃ A2 c2, v' = .slice A2 (n + m) c2 := by
   rcases h2.2 with ⟨h0, h1⟩ | ⟨g, cap, cur, h0, _⟩
   ·exact ⟨none, 0, by rw [h0, h1]⟩
   ·exact ⟨_, _, h0⟩
  obtain ⟨A2, c2, rfl⟩ := hv
  exact ⟨A2, c2, w', hrun, by simpa [OB] using h2, hbel h3⟩
def own (A : Option Addr) : Option Nat := A.map (·.block)
theorem own_slice (A : Option Addr) (n c : Nat) : (Value.slice A n c).ownBlock = own A := by cases A <;> rfl
theorem run_appendS {P : Program} (w : World) (base : Nat) (t ty e : TypeId) (ht : P.underlying t = some (.slice e)) (hinfo : (P.info? e).map (fun i => (i.zero, i.size, i.bytes)) = some (some (.int .u8 0), 1, 1))
  (A : Option Addr) (n c : Nat) (l : List UInt8) (hown : OB w base e A n c l) (B : Nat) (A' : Option Addr) (m c' : Nat) (l' : List UInt8) (hr : RB w B A' m c' l')
  (hsz : n + m ≤ 140737488355328) (hbase : base ≤ w.heap.size) :
  ∃ A2 c2 w', (Builtin.append_ #[t, t] ty #[.slice A n c, .slice A' m c']).run P w = .ok (.slice A2 (n + m) c2) w' ∧ OB w' base e A2 (n + m) c2 (l ++ l') ∧ Below base w w' ∧
   (∀ k, k < w.heap.size → own A ≠ some k → w'.heap[k]? = w.heap[k]?) ∧ (own A2 = own A ∨ own A2 = some w.heap.size) := by
 obtain ⟨i, hi, hz, hs, hby⟩ := info_parts hinfo
 rcases A' with _ | a
 ·have hm : m = 0 := by
   rcases Nat.eq_zero_or_pos m with h0 | h0
   ·exact h0
   ·obtain ⟨_, _, h, _⟩ := hr.pos h0
    cases h
  subst hm
  have hl' : l' = [] := List.eq_nil_of_length_eq_zero hr.len.symm
  subst hl'
  refine ⟨A, c, w, ?_, by simpa using hown, Below.refl _ _, fun _ _ _ => rfl, .inl rfl⟩
  rcases hown.2 with ⟨h0, h1⟩ | ⟨g, cap, cur, h0, _, _, hnc, _⟩
  ·injection h0 with e1 e2 e3
   subst e1; subst e2; subst e3
   simp [Builtin.append_, run_underlying ht, sizeOf, typeInfo, hi, Builtin.lenOf, Builtin.firstCells]
  ·injection h0 with e1 e2 e3
   subst e1; subst e3
   simp [Builtin.append_, run_underlying ht, sizeOf, typeInfo, hi, Builtin.lenOf, Builtin.firstCells, hnc, storeCells]
 ·obtain ⟨v', w', hrun, h2, h3, _, h5⟩ := run_append_own_at (P := P) w base t ty e i (.int .u8 0) 1 1 ht hi hz hs hby rfl (by omega) _ n _ hown a m c' (l'.map byt)
   (by simp [hr.len]) (fun j u hj => by
    have hjl : j < l'.length := by have := (List.getElem?_eq_some_iff.1 hj).1; simpa using this
    obtain ⟨b, off, e1, _, hc⟩ := hr.pos (by have := hr.len; omega)
    injection e1 with e1
    subst e1
    have e2 : (⟨b, off, none⟩ : Addr).add j = ⟨b, off + j, none⟩ := by unfold Addr.add; split <;> simp_all
    rw [e2, hc j hjl]
    simp [hjl, byt] at hj
    rw [← hj]) (byt_oneCell l') (by unfold maxLen; omega) (by omega) hbase
  have hv : ∃ A2 c2, v' = .slice A2 (n + m) c2 := by
   rcases h2.2 with ⟨h0, h1⟩ | ⟨g, cap, cur, h0, _⟩
   ·exact ⟨none, 0, by rw [h0, h1]⟩
   ·exact ⟨_, _, h0⟩
  obtain ⟨A2, c2, rfl⟩ := hv
  rw [own_slice, own_slice] at h5
  exact ⟨A2, c2, w', hrun, by simpa [OB] using h2, (Below.refl base w).grown h3 hbase fun k hk => (hown.lt k hk).1, fun k hk hne => h3.block k hk (by rw [own_slice]; exact Ne.symm hne), h5⟩
theorem wp_appendS {P : Program} (w : World) {o : Oper} {a : Act} {K : Act → World → Prop} {Q : Exit → Act → World → Prop} (s x : Operand) (t : TypeId)
  (ho : o.op = .call { callee := .builtin .append, args := #[s, x], argTypes := #[t, t] })
  (base : Nat) (e : TypeId) (ht : P.underlying t = some (.slice e)) (hinfo : (P.info? e).map (fun i => (i.zero, i.size, i.bytes)) = some (some (.int .u8 0), 1, 1))
  (A : Option Addr) (n c : Nat) (l : List UInt8) (hs : a.eval s = .slice A n c) (hown : OB w base e A n c l)
  (B : Nat) (A' : Option Addr) (m c' : Nat) (l' : List UInt8) (hx : a.eval x = .slice A' m c') (hr : RB w B A' m c' l')
  (hsz : n + m ≤ 140737488355328) (hbase : base ≤ w.heap.size)
  (h : ∀ A2 c2 w', OB w' base e A2 (n + m) c2 (l ++ l') → Below base w w' → (∀ k, k < w.heap.size → own A ≠ some k → w'.heap[k]? = w.heap[k]?) → (own A2 = own A ∨ own A2 = some w.heap.size) →
   K (a.put o.dst (.slice A2 (n + m) c2)) w') : o.wp P a w K Q := by
 obtain ⟨A2, c2, w', hrun, h2, h3, h4, h5⟩ := run_appendS (P := P) w base t o.type e ht hinfo A n c l hown B A' m c' l' hr hsz hbase
 unfold Oper.wp execOp
 simp only [ho, resolve, invoke, builtin, Sem.run_bind, Sem.run_pure, Result.andThen_ok, List.map_toArray, List.map_cons, List.map_nil, hs, hx, hrun]
 exact h A2 c2 w' h2 h3 h4 h5
theorem wpList_appendB {P : Program} (w : World) {ops : Array Oper} {rest : List Oper} {o : Oper} {a : Act} {Q : Exit → Act → World → Prop} (hgd : o.guard = none) (s x : Operand) (t : TypeId)
  (ho : o.op = .call { callee := .builtin .append, args := #[s, x], argTypes := #[t, t] })
  (base : Nat) (e : TypeId) (ht : P.underlying t = some (.slice e)) (hinfo : (P.info? e).map (fun i => (i.zero, i.size, i.bytes)) = some (some (.int .u8 0), 1, 1))
  (A : Option Addr) (n c : Nat) (l : List UInt8) (hs : a.eval s = .slice A n c) (hown : OB w base e A n c l)
  (B : Nat) (A' : Option Addr) (m c' : Nat) (l' : List UInt8) (hx : a.eval x = .slice A' m c') (hr : RB w B A' m c' l')
  (hsz : n + m ≤ 140737488355328) (hbase : base ≤ w.heap.size)
  (h : ∀ A2 c2 w', OB w' base e A2 (n + m) c2 (l ++ l') → Below base w w' → wpList P ops Q rest (a.put o.dst (.slice A2 (n + m) c2)) w') : wpList P ops Q (o :: rest) a w := by
 refine wpList_plain hgd fun K hK => ?_
 obtain ⟨A2, c2, w', hrun, h2, h3⟩ := run_appendB (P := P) w base t o.type e ht hinfo A n c l hown B A' m c' l' hr hsz hbase
 unfold Oper.wp execOp
 simp only [ho, resolve, invoke, builtin, Sem.run_bind, Sem.run_pure, Result.andThen_ok, List.map_toArray, List.map_cons, List.map_nil, hs, hx, hrun]
 exact hK _ _ (h A2 c2 w' h2 h3)
theorem Blk.below {w W : World} {g B : Nat} {t : TypeId} {cs : Array Value} (h : Blk w g t cs) (hb : Below B w W) (hg : g < B) : Blk W g t cs := by rw [Blk, hb.block g hg]; exact h
structure ZS (w : World) (B z : Nat) (A : Option Addr) (n c : Nat) (l : List (Array Value)) : Prop where
 len : n = l.length
 cap : n ≤ c
 max : c ≤ maxLen
 size : ∀ r ∈ l, r.size = z
 pos : 0 < n → ∃ b off, A = some ⟨b, off, none⟩ ∧ b < B ∧ ∀ j (h : j < l.length) i v, l[j][i]? = some v → w.cell? ⟨b, off + j * z + i, none⟩ = some v
section
variable {w w' : World} {B z : Nat} {A : Option Addr} {n c : Nat} {l : List (Array Value)}
theorem ZS.keep (h : ZS w B z A n c l) (hk : ∀ p : Addr, p.block < B → w'.cell? p = w.cell? p) : ZS w' B z A n c l :=
 ⟨h.len, h.cap, h.max, h.size, fun hn => by
  obtain ⟨b, off, e, hb, hc⟩ := h.pos hn
  exact ⟨b, off, e, hb, fun j hj i v hv => (hk ⟨b, off + j * z + i, none⟩ hb).trans (hc j hj i v hv)⟩⟩
theorem ZS.belowAt {B0 : Nat} (h : ZS w B z A n c l) (hb : Below B0 w w') (hB : B ≤ B0) : ZS w' B z A n c l := h.keep fun _ hp => hb.cell (by omega)
theorem ZS.more {B' : Nat} (h : ZS w B z A n c l) (hB : B ≤ B') : ZS w B' z A n c l :=
 ⟨h.len, h.cap, h.max, h.size, fun hn => by
  obtain ⟨b, off, e, hb, hc⟩ := h.pos hn
  exact ⟨b, off, e, by omega, hc⟩⟩
theorem ZS.nil : ZS w B z none 0 0 [] := ⟨rfl, Nat.le_refl _, Nat.zero_le _, fun _ h => absurd h (by simp), fun h => absurd h (by omega)⟩
theorem ZS.one {g : Nat} {t : TypeId} {r : Array Value} (h : Blk w g t r) (hB : g < B) : ZS w B r.size (some ⟨g, 0, none⟩) 1 1 [r] :=
 ⟨rfl, Nat.le_refl _, by unfold maxLen; omega, fun x hx => by simp at hx; rw [hx], fun _ => ⟨g, 0, rfl, hB, fun j hj i v hv => by
  obtain rfl : j = 0 := by simpa using hj
  rw [Nat.zero_add, Nat.zero_mul, Nat.zero_add, h.at]
  simpa using hv⟩⟩
end
theorem flat_at {z : Nat} : ∀ (l : List (Array Value)), (∀ r ∈ l, r.size = z) → ∀ (j : Nat) (h : j < l.length) (i : Nat), i < z → (l.flatMap Array.toList)[j * z + i]? = l[j][i]?
 | [], _, _, h, _, _ => absurd h (by simp)
 | r :: l, hs, 0, _, i, hi => by
  have hr := hs r (by simp)
  simp only [List.flatMap_cons, Nat.zero_mul, Nat.zero_add, List.getElem_cons_zero]
  rw [List.getElem?_append_left (by simpa [hr] using hi)]
  simp
 | r :: l, hs, j + 1, h, i, hi => by
  have hr := hs r (by simp)
  have ih := flat_at l (fun x hx => hs x (by simp [hx])) j (by simpa using h) i hi
  simp only [List.flatMap_cons, List.getElem_cons_succ]
  rw [List.getElem?_append_right (by simp [hr, Nat.succ_mul]; omega), ← ih]
  congr 1
  simp [hr, Nat.succ_mul]; omega
def ZO (w : World) (base : Nat) (e : TypeId) (z : Nat) (A : Option Addr) (n c : Nat) (l : List (Array Value)) : Prop :=
 w.ownsRow base e z (.slice A n c) n (l.flatMap Array.toList) ∧ n = l.length ∧ ∀ r ∈ l, r.size = z
section
variable {w w' : World} {base : Nat} {e : TypeId} {z : Nat} {A : Option Addr} {n c : Nat} {l : List (Array Value)}
theorem ZO.nil : ZO w base e z none 0 0 [] := ⟨World.ownsRow_nil _ _ _ _, rfl, fun _ h => absurd h (by simp)⟩
theorem ZO.keep (h : ZO w base e z A n c l) (hb : Below w.heap.size w w') : ZO w' base e z A n c l := by
 refine ⟨⟨h.1.1, ?_⟩, h.2⟩
 rcases h.1.2 with h0 | ⟨g, cap, cur, hv, hg, hh, r⟩
 ·exact .inl h0
 ·refine .inr ⟨g, cap, cur, hv, hg, ?_, r⟩
  rw [hb.block g ?_]
  ·exact hh
  ·rcases Nat.lt_or_ge g w.heap.size with h1 | h1
   ·exact h1
   ·rw [Array.getElem?_eq_none h1] at hh; cases hh
theorem ZO.zs (h : ZO w base e z A n c l) : ZS w w.heap.size z A n c l := by
 rcases h.1.2 with ⟨e0, h0⟩ | ⟨g, cap, cur, hv, _, hh, hnc, hcm, hsz, htk⟩
 ·injection e0 with e1 e2 e3
  subst e1; subst e3
  exact ⟨h.2.1, by omega, Nat.zero_le _, h.2.2, fun hp => by omega⟩
 ·injection hv with hA _ hc
  subst hA; subst hc
  refine ⟨h.2.1, hnc, hcm, h.2.2, fun _ => ⟨g, 0, rfl, ?_, fun j hj i v hv => ?_⟩⟩
  ·rcases Nat.lt_or_ge g w.heap.size with h1 | h1
   ·exact h1
   ·rw [Array.getElem?_eq_none h1] at hh; cases hh
  ·have hiz : i < z := by
    have h1 := h.2.2 _ (List.getElem_mem hj)
    have h2 := (Array.getElem?_eq_some_iff.1 hv).1
    omega
   rw [cell_of_row w g (0 + j * z + i) cur e (0, 0) hh, Nat.zero_add]
   have e1 := flat_at l h.2.2 j hj i hiz
   rw [hv, ← htk] at e1
   have hlt : j * z + i < n * z := by
    have : j + 1 ≤ n := by rw [h.2.1]; exact hj
    have := Nat.mul_le_mul_right z this
    rw [Nat.succ_mul] at this
    omega
   rw [List.getElem?_take_of_lt hlt] at e1
   simpa using e1
theorem ZO.ge (h : ZO w base e z A n c l) {g : Nat} (hg : own A = some g) : base ≤ g := by
 rcases h.1.2 with ⟨hv, _⟩ | ⟨g', cap, cur, hv, hb, _⟩
 ·injection hv with e1 _ _
  subst e1
  cases hg
 ·injection hv with e1 _ _
  subst e1
  have e3 : g' = g := Option.some.inj hg
  omega
theorem ZO.mono {base' : Nat} (h : ZO w base e z A n c l) (hb : base' ≤ base) : ZO w base' e z A n c l := by
 refine ⟨⟨h.1.1, ?_⟩, h.2⟩
 rcases h.1.2 with h0 | ⟨g, cap, cur, hv, hg, r⟩
 ·exact .inl h0
 ·exact .inr ⟨g, cap, cur, hv, by omega, r⟩
end
theorem run_appendZ {P : Program} (w : World) (base : Nat) (t ty e : TypeId) (zv : Value) (z bytes : Nat) (ht : P.underlying t = some (.slice e))
  (hinfo : (P.info? e).map (fun i => (i.zero, i.size, i.bytes)) = some (some zv, z, bytes)) (hzs : zv.cells.size = z) (hz0 : 0 < z)
  (A : Option Addr) (n c : Nat) (l : List (Array Value)) (hown : ZO w base e z A n c l) (g : Nat) (t' : TypeId) (r : Array Value) (hr : Blk w g t' r) (hrz : r.size = z) (h1 : r.all (·.oneCell') = true)
  (h63 : n + 1 ≤ maxLen) (hsz : (n + 1) * bytes ≤ 140737488355328) (hbase : base ≤ w.heap.size) :
  ∃ A2 c2 w', (Builtin.append_ #[t, t] ty #[.slice A n c, .slice (some ⟨g, 0, none⟩) 1 1]).run P w = .ok (.slice A2 (n + 1) c2) w' ∧ ZO w' base e z A2 (n + 1) c2 (l ++ [r]) ∧ w.grownBy w' (own A) ∧ (own A2 = own A ∨ own A2 = some w.heap.size) := by
 obtain ⟨i, hi, hz, hs, hby⟩ := info_parts hinfo
 obtain ⟨v', w', hrun, h2, h3, _, h5⟩ := run_append_own_at (P := P) w base t ty e i zv z bytes ht hi hz hs hby hzs hz0 _ n _ hown.1 ⟨g, 0, none⟩ 1 1 r.toList
  (by simp [hrz]) (fun j u hj => by
   have e2 : (⟨g, 0, none⟩ : Addr).add j = ⟨g, j, none⟩ := by unfold Addr.add; split <;> simp_all
   rw [e2, hr.at]
   simpa using hj) (by intro u hu; exact (Array.all_eq_true_iff_forall_mem.1 h1) u (by simpa using hu)) h63 hsz hbase
 have hv : ∃ A2 c2, v' = .slice A2 (n + 1) c2 := by
  rcases h2.2 with ⟨h0, h1⟩ | ⟨g, cap, cur, h0, _⟩
  ·omega
  ·exact ⟨_, _, h0⟩
 obtain ⟨A2, c2, rfl⟩ := hv
 rw [own_slice, own_slice] at h5
 rw [own_slice] at h3
 refine ⟨A2, c2, w', hrun, ⟨?_, by simp [hown.2.1], fun x hx => ?_⟩, h3, h5⟩
 ·rw [List.flatMap_append]
  simpa using h2
 ·rcases List.mem_append.1 hx with h | h
  ·exact hown.2.2 x h
  ·obtain rfl : x = r := by simpa using h
   exact hrz
theorem wp_appendZ {P : Program} (w : World) {o : Oper} {a : Act} {K : Act → World → Prop} {Q : Exit → Act → World → Prop} (s x : Operand) (t : TypeId)
  (ho : o.op = .call { callee := .builtin .append, args := #[s, x], argTypes := #[t, t] })
  (base : Nat) (e : TypeId) (zv : Value) (z bytes : Nat) (ht : P.underlying t = some (.slice e)) (hinfo : (P.info? e).map (fun i => (i.zero, i.size, i.bytes)) = some (some zv, z, bytes)) (hzs : zv.cells.size = z) (hz0 : 0 < z)
  (A : Option Addr) (n c : Nat) (l : List (Array Value)) (hs : a.eval s = .slice A n c) (hown : ZO w base e z A n c l)
  (g : Nat) (t' : TypeId) (r : Array Value) (hx : a.eval x = .slice (some ⟨g, 0, none⟩) 1 1) (hr : Blk w g t' r) (hrz : r.size = z) (h1 : r.all (·.oneCell') = true)
  (h63 : n + 1 ≤ maxLen) (hsz : (n + 1) * bytes ≤ 140737488355328) (hbase : base ≤ w.heap.size)
  (h : ∀ A2 c2 w', ZO w' base e z A2 (n + 1) c2 (l ++ [r]) → w.grownBy w' (own A) → (own A2 = own A ∨ own A2 = some w.heap.size) → K (a.put o.dst (.slice A2 (n + 1) c2)) w') : o.wp P a w K Q := by
 obtain ⟨A2, c2, w', hrun, h2, h3, h4⟩ := run_appendZ (P := P) w base t o.type e zv z bytes ht hinfo hzs hz0 A n c l hown g t' r hr hrz h1 h63 hsz hbase
 unfold Oper.wp execOp
 simp only [ho, resolve, invoke, builtin, Sem.run_bind, Sem.run_pure, Result.andThen_ok, List.map_toArray, List.map_cons, List.map_nil, hs, hx, hrun]
 exact h A2 c2 w' h2 h3 h4
theorem ret_int {k : IntKind} {a b : Int} (h : a = b) : Ending.returned (.int k a) = .returned (.int k b) := by rw [h]
theorem ret_bool {a b : Bool} (h : a = b) : Ending.returned (.bool a) = .returned (.bool b) := by rw [h]
end Go.Proofs.Ytaianmonokeimaa
