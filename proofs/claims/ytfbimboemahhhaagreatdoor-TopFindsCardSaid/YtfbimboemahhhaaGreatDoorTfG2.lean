/-
  Several texts in one: A slice of bytes that reads as a list, and what keeps it so; append onto bytes of the call's own, from bytes of whatever place (nil, empty or not); Slices of structs (rows of z cells each); Two small words on what is returned; Contracts of span.
-/
import Derived.WalkKit
import Derived.Laws.IdiomStrings
import Derived.Laws.BytesArg
import Derived.Deep.Draws
import Derived.Lib.Hide
import Derived.Maps.AppendAt
import Derived.Test.YtfbimboemahhhaaGreatDoorTfG1
import Derived.Laws.MakeOwn
import Derived.Test.YtfbimboemahhhaaGreatDoorRows
namespace Go.Proofs.YtfbimboemahhhaaGreatDoor
open Go.Lib (hid)
open Go.RowKit
structure RB (w : World) (B : Nat) (A : Option Addr) (n c : Nat) (l : List UInt8) : Prop where
 len : n = l.length
 cap : n ≤ c
 max : c ≤ maxLen
 pos : 0 < n → ∃ b off, A = some ⟨b, off, none⟩ ∧ b < B ∧ ∀ j (h : j < l.length), w.cell? ⟨b, off + j, none⟩ = some (.int .u8 (l[j].toNat : Int))
section
variable {w w' : World} {B B' : Nat} {A : Option Addr} {n c : Nat} {l : List UInt8}
theorem RB.keep (h : RB w B A n c l) (hk : ∀ p : Addr, p.block < B → w'.cell? p = w.cell? p) : RB w' B A n c l :=
 ⟨h.len, h.cap, h.max, fun hn => by
  obtain ⟨b, off, e, hb, hc⟩ := h.pos hn
  exact ⟨b, off, e, hb, fun j hj => (hk ⟨b, off + j, none⟩ hb).trans (hc j hj)⟩⟩
theorem RB.more (h : RB w B A n c l) (hB : B ≤ B') : RB w B' A n c l :=
 ⟨h.len, h.cap, h.max, fun hn => by
  obtain ⟨b, off, e, hb, hc⟩ := h.pos hn
  exact ⟨b, off, e, by omega, hc⟩⟩
theorem RB.belowAt {B0 : Nat} (h : RB w B A n c l) (hb : Below B0 w w') (hB : B ≤ B0) : RB w' B A n c l := h.keep fun _ hp => hb.cell (by omega)
theorem RB.drew (h : RB w B A n c l) : RB w.drew B A n c l := ⟨h.len, h.cap, h.max, h.pos⟩
theorem RB.sub {b off p m : Nat} (h : RB w B (some ⟨b, off, none⟩) n c l) (hp : p + m ≤ n) (hm : 0 < m) : RB w B (some ⟨b, off + p, none⟩) m (c - p) ((l.drop p).take m) := by
 have hl := h.len
 have hcap := h.cap
 have hmax := h.max
 refine ⟨by simp; omega, by omega, by omega, fun _ => ?_⟩
 obtain ⟨b', off', e, hb, hc⟩ := h.pos (by omega)
 injection e with e
 injection e with e1 e2 _
 subst e1; subst e2
 refine ⟨b, off + p, rfl, hb, fun j hj => ?_⟩
 have hj' : j < m := by simp at hj; omega
 rw [Nat.add_assoc, hc (p + j) (by omega)]
 simp
theorem RB.str {P : Program} (h : RB w B A n c l) (src dst e : TypeId) (hs : P.underlying src = some (.slice e)) (he : P.underlying e = some (.int .u8)) (hd : P.underlying dst = some .string) :
  (convert src dst (.slice A n c)).run P w = .ok (.string ⟨l.toArray⟩) w := by
 obtain rfl := h.len
 rcases A with _ | a
 ·have hl : l = [] := by
   rcases Nat.eq_zero_or_pos l.length with h0 | h0
   ·exact List.eq_nil_of_length_eq_zero h0
   ·obtain ⟨_, _, e, _⟩ := h.pos h0
    cases e
  subst hl
  exact run_convert_bytes_nil w src e hs he _ _ dst hd
 ·refine run_convert_bytes_back w src dst e a c l hs he hd fun j hj => ?_
  obtain ⟨b, off, e, _, hc⟩ := h.pos (by omega)
  injection e with e
  subst e
  have e2 : (⟨b, off, none⟩ : Addr).add j = ⟨b, off + j, none⟩ := by unfold Addr.add; split <;> simp_all
  rw [e2]
  exact hc j hj
theorem RB.of_own {base : Nat} {e : TypeId} (h : w.ownsRow base e 1 (.slice A n c) n (l.map fun b => Value.int .u8 (b.toNat : Int))) : RB w w.heap.size A n c l := by
 have hl : n = l.length := by have := h.1; simp at this; omega
 rcases h.2 with ⟨e0, h0⟩ | ⟨g, cap, cur, hv, _, hh, hnc, hcm, hsz, htk⟩
 ·injection e0 with e1 e2 e3
  subst e1; subst e3
  exact ⟨hl, by omega, Nat.zero_le _, fun hp => by omega⟩
 ·injection hv with hA _ hc
  subst hA; subst hc
  refine ⟨hl, hnc, hcm, fun _ => ⟨g, 0, rfl, ?_, fun j hj => ?_⟩⟩
  ·rcases Nat.lt_or_ge g w.heap.size with h1 | h1
   ·exact h1
   ·rw [Array.getElem?_eq_none h1] at hh; cases hh
  ·rw [cell_of_row w g (0 + j) cur e (0, 0) hh, Nat.zero_add]
   have e1 : (cur.toList.take (n * 1))[j]? = some (Value.int .u8 (l[j].toNat : Int)) := by
    rw [htk]; simp [hj]
   rw [List.getElem?_take_of_lt (by omega)] at e1
   simpa using e1
end
def byt (b : UInt8) : Value := .int .u8 (b.toNat : Int)
def OB (w : World) (base : Nat) (e : TypeId) (A : Option Addr) (n c : Nat) (l : List UInt8) : Prop :=
 w.ownsRow base e 1 (.slice A n c) n (l.map byt)
theorem OB.rb {w : World} {base : Nat} {e : TypeId} {A : Option Addr} {n c : Nat} {l : List UInt8} (h : OB w base e A n c l) : RB w w.heap.size A n c l := RB.of_own h
theorem OB.len {w : World} {base : Nat} {e : TypeId} {A : Option Addr} {n c : Nat} {l : List UInt8} (h : OB w base e A n c l) : n = l.length := h.rb.len
theorem OB.nil {w : World} {base : Nat} {e : TypeId} : OB w base e none 0 0 [] := World.ownsRow_nil _ _ _ _
theorem RB.lit (w : World) (t : TypeId) (l : List UInt8) (h : l.length ≤ maxLen) : RB (w.alloc (.cells (l.map byt).toArray t)) (w.heap.size + 1) (some ⟨w.heap.size, 0, none⟩) l.length l.length l :=
 ⟨rfl, Nat.le_refl _, h, fun _ => ⟨w.heap.size, 0, rfl, by omega, fun j hj => by
  rw [Nat.zero_add, World.cell?_alloc_mark]
  simp [hj, byt]⟩⟩
theorem OB.lit (w : World) (base : Nat) (t : TypeId) (l : List UInt8) (h : l.length ≤ maxLen) (hb : base ≤ w.heap.size) : OB (w.alloc (.cells (l.map byt).toArray t)) base t (some ⟨w.heap.size, 0, none⟩) l.length l.length l :=
 ⟨by simp, .inr ⟨w.heap.size, l.length, (l.map byt).toArray, rfl, hb, heap_alloc_new w _, Nat.le_refl _, h, by simp, by simp [List.take_of_length_le]⟩⟩
theorem OB.keep {w w' : World} {base : Nat} {e : TypeId} {A : Option Addr} {n c : Nat} {l : List UInt8} (h : OB w base e A n c l) (hb : Below w.heap.size w w') : OB w' base e A n c l := by
 refine ⟨h.1, ?_⟩
 rcases h.2 with h0 | ⟨g, cap, cur, hv, hg, hh, r⟩
 ·exact .inl h0
 ·refine .inr ⟨g, cap, cur, hv, hg, ?_, r⟩
  rw [hb.block g ?_]
  ·exact hh
  ·rcases Nat.lt_or_ge g w.heap.size with h1 | h1
   ·exact h1
   ·rw [Array.getElem?_eq_none h1] at hh; cases hh
theorem OB.alloc {w : World} {base : Nat} {e : TypeId} {A : Option Addr} {n c : Nat} {l : List UInt8} (h : OB w base e A n c l) (o : Obj) : OB (w.alloc o) base e A n c l :=
 h.keep (Below.alloc (Below.refl _ _) (Nat.le_refl _) o)
theorem OB.mono {w : World} {base base' : Nat} {e : TypeId} {A : Option Addr} {n c : Nat} {l : List UInt8} (h : OB w base e A n c l) (hb : base' ≤ base) : OB w base' e A n c l := by
 refine ⟨h.1, ?_⟩
 rcases h.2 with h0 | ⟨g, cap, cur, hv, hg, r⟩
 ·exact .inl h0
 ·exact .inr ⟨g, cap, cur, hv, by omega, r⟩
theorem byt_oneCell (l : List UInt8) : ∀ u ∈ l.map byt, u.oneCell' = true := by
 intro u hu
 obtain ⟨b, _, rfl⟩ := List.mem_map.1 hu
 rfl
theorem run_appendB {P : Program} (w : World) (base : Nat) (t ty e : TypeId) (ht : P.underlying t = some (.slice e)) (hinfo : (P.info? e).map (fun i => (i.zero, i.size, i.bytes)) = some (some (.int .u8 0), 1, 1))
  (A : Option Addr) (n c : Nat) (l : List UInt8) (hown : OB w base e A n c l) (B : Nat) (A' : Option Addr) (m c' : Nat) (l' : List UInt8) (hr : RB w B A' m c' l')
  (hsz : n + m ≤ 140737488355328) (hbase : base ≤ w.heap.size) :
  ∃ A2 c2 w', (Builtin.append_ #[t, t] ty #[.slice A n c, .slice A' m c']).run P w = .ok (.slice A2 (n + m) c2) w' ∧ OB w' base e A2 (n + m) c2 (l ++ l') ∧ Below base w w' := by
 obtain ⟨i, hi, hz, hs, hby⟩ := info_parts hinfo
 have hbel : ∀ {w' : World}, w.grownBy w' (Value.ownBlock (.slice A n c)) → Below base w w' := fun hg =>
  (Below.refl base w).grown hg hbase fun k hk => (hown.lt k hk).1
 rcases A' with _ | a
 ·have hm : m = 0 := by
   rcases Nat.eq_zero_or_pos m with h0 | h0
   ·exact h0
   ·obtain ⟨_, _, h, _⟩ := hr.pos h0
    cases h
  subst hm
  have hl' : l' = [] := List.eq_nil_of_length_eq_zero hr.len.symm
  subst hl'
  refine ⟨A, c, w, ?_, by simpa using hown, Below.refl _ _⟩
  rcases hown.2 with ⟨h0, h1⟩ | ⟨g, cap, cur, h0, _, _, hnc, _⟩
  ·injection h0 with e1 e2 e3
   subst e1; subst e2; subst e3
   simp [Builtin.append_, run_underlying ht, sizeOf, typeInfo, hi, Builtin.lenOf, Builtin.firstCells]
  ·injection h0 with e1 e2 e3
   subst e1; subst e3
   simp [Builtin.append_, run_underlying ht, sizeOf, typeInfo, hi, Builtin.lenOf, Builtin.firstCells, hnc, storeCells]
 ·obtain ⟨v', w', hrun, h2, h3, _, _⟩ := run_append_own_at (P := P) w base t ty e i (.int .u8 0) 1 1 ht hi hz hs hby rfl (by omega) _ n _ hown a m c' (l'.map byt)
   (by simp [hr.len]) (fun j u hj => by
    have hjl : j < l'.length := by have := (List.getElem?_eq_some_iff.1 hj).1; simpa using this
    obtain ⟨b, off, e1, _, hc⟩ := hr.pos (by have := hr.len; omega)
    injection e1 with e1
    subst e1
    have e2 : (⟨b, off, none⟩ : Addr).add j = ⟨b, off + j, none⟩ := by unfold Addr.add; split <;> simp_all
    rw [e2, hc j hjl]
    simp [hjl, byt] at hj
    rw [← hj]) (byt_oneCell l') (by unfold maxLen; omega) (by omega) hbase
  have hv : ∃ A2 c2, v' = .slice A2 (n + m) c2 := by
   rcases h2.2 with ⟨h0, h1⟩ | ⟨g, cap, cur, h0, _⟩
   ·exact ⟨none, 0, by rw [h0, h1]⟩
   ·exact ⟨_, _, h0⟩
  obtain ⟨A2, c2, rfl⟩ := hv
  exact ⟨A2, c2, w', hrun, by simpa [OB] using h2, hbel h3⟩
def own (A : Option Addr) : Option Nat := A.map (·.block)
theorem own_slice (A : Option Addr) (n c : Nat) : (Value.slice A n c).ownBlock = own A := by cases A <;> rfl
theorem run_appendS {P : Program} (w : World) (base : Nat) (t ty e : TypeId) (ht : P.underlying t = some (.slice e)) (hinfo : (P.info? e).map (fun i => (i.zero, i.size, i.bytes)) = some (some (.int .u8 0), 1, 1))
  (A : Option Addr) (n c : Nat) (l : List UInt8) (hown : OB w base e A n c l) (B : Nat) (A' : Option Addr) (m c' : Nat) (l' : List UInt8) (hr : RB w B A' m c' l')
  (hsz : n + m ≤ 140737488355328) (hbase : base ≤ w.heap.size) :
  ∃ A2 c2 w', (Builtin.append_ #[t, t] ty #[.slice A n c, .slice A' m c']).run P w = .ok (.slice A2 (n + m) c2) w' ∧ OB w' base e A2 (n + m) c2 (l ++ l') ∧ Below base w w' ∧
   (∀ k, k < w.heap.size → own A ≠ some k → w'.heap[k]? = w.heap[k]?) ∧ (own A2 = own A ∨ own A2 = some w.heap.size) := by
 obtain ⟨i, hi, hz, hs, hby⟩ := info_parts hinfo
 rcases A' with _ | a
 ·have hm : m = 0 := by
   rcases Nat.eq_zero_or_pos m with h0 | h0
   ·exact h0
   ·obtain ⟨_, _, h, _⟩ := hr.pos h0
    cases h
  subst hm
  have hl' : l' = [] := List.eq_nil_of_length_eq_zero hr.len.symm
  subst hl'
  refine ⟨A, c, w, ?_, by simpa using hown, Below.refl _ _, fun _ _ _ => rfl, .inl rfl⟩
  rcases hown.2 with ⟨h0, h1⟩ | ⟨g, cap, cur, h0, _, _, hnc, _⟩
  ·injection h0 with e1 e2 e3
   subst e1; subst e2; subst e3
   simp [Builtin.append_, run_underlying ht, sizeOf, typeInfo, hi, Builtin.lenOf, Builtin.firstCells]
  ·injection h0 with e1 e2 e3
   subst e1; subst e3
   simp [Builtin.append_, run_underlying ht, sizeOf, typeInfo, hi, Builtin.lenOf, Builtin.firstCells, hnc, storeCells]
 ·obtain ⟨v', w', hrun, h2, h3, _, h5⟩ := run_append_own_at (P := P) w base t ty e i (.int .u8 0) 1 1 ht hi hz hs hby rfl (by omega) _ n _ hown a m c' (l'.map byt)
   (by simp [hr.len]) (fun j u hj => by
    have hjl : j < l'.length := by have := (List.getElem?_eq_some_iff.1 hj).1; simpa using this
    obtain ⟨b, off, e1, _, hc⟩ := hr.pos (by have := hr.len; omega)
    injection e1 with e1
    subst e1
    have e2 : (⟨b, off, none⟩ : Addr).add j = ⟨b, off + j, none⟩ := by unfold Addr.add; split <;> simp_all
    rw [e2, hc j hjl]
    simp [hjl, byt] at hj
    rw [← hj]) (byt_oneCell l') (by unfold maxLen; omega) (by omega) hbase
  have hv : ∃ A2 c2, v' = .slice A2 (n + m) c2 := by
   rcases h2.2 with ⟨h0, h1⟩ | ⟨g, cap, cur, h0, _⟩
   ·exact ⟨none, 0, by rw [h0, h1]⟩
   ·exact ⟨_, _, h0⟩
  obtain ⟨A2, c2, rfl⟩ := hv
  rw [own_slice, own_slice] at h5
  exact ⟨A2, c2, w', hrun, by simpa [OB] using h2, (Below.refl base w).grown h3 hbase fun k hk => (hown.lt k hk).1, fun k hk hne => h3.block k hk (by rw [own_slice]; exact Ne.symm hne), h5⟩
theorem wp_appendS {P : Program} (w : World) {o : Oper} {a : Act} {K : Act → World → Prop} {Q : Exit → Act → World → Prop} (s x : Operand) (t : TypeId)
  (ho : o.op = .call { callee := .builtin .append, args := #[s, x], argTypes := #[t, t] })
  (base : Nat) (e : TypeId) (ht : P.underlying t = some (.slice e)) (hinfo : (P.info? e).map (fun i => (i.zero, i.size, i.bytes)) = some (some (.int .u8 0), 1, 1))
  (A : Option Addr) (n c : Nat) (l : List UInt8) (hs : a.eval s = .slice A n c) (hown : OB w base e A n c l)
  (B : Nat) (A' : Option Addr) (m c' : Nat) (l' : List UInt8) (hx : a.eval x = .slice A' m c') (hr : RB w B A' m c' l')
  (hsz : n + m ≤ 140737488355328) (hbase : base ≤ w.heap.size)
  (h : ∀ A2 c2 w', OB w' base e A2 (n + m) c2 (l ++ l') → Below base w w' → (∀ k, k < w.heap.size → own A ≠ some k → w'.heap[k]? = w.heap[k]?) → (own A2 = own A ∨ own A2 = some w.heap.size) →
   K (a.put o.dst (.slice A2 (n + m) c2)) w') : o.wp P a w K Q := by
 obtain ⟨A2, c2, w', hrun, h2, h3, h4, h5⟩ := run_appendS (P := P) w base t o.type e ht hinfo A n c l hown B A' m c' l' hr hsz hbase
 unfold Oper.wp execOp
 simp only [ho, resolve, invoke, builtin, Sem.run_bind, Sem.run_pure, Result.andThen_ok, List.map_toArray, List.map_cons, List.map_nil, hs, hx, hrun]
 exact h A2 c2 w' h2 h3 h4 h5
theorem wpList_appendB {P : Program} (w : World) {ops : Array Oper} {rest : List Oper} {o : Oper} {a : Act} {Q : Exit → Act → World → Prop} (hgd : o.guard = none) (s x : Operand) (t : TypeId)
  (ho : o.op = .call { callee := .builtin .append, args := #[s, x], argTypes := #[t, t] })
  (base : Nat) (e : TypeId) (ht : P.underlying t = some (.slice e)) (hinfo : (P.info? e).map (fun i => (i.zero, i.size, i.bytes)) = some (some (.int .u8 0), 1, 1))
  (A : Option Addr) (n c : Nat) (l : List UInt8) (hs : a.eval s = .slice A n c) (hown : OB w base e A n c l)
  (B : Nat) (A' : Option Addr) (m c' : Nat) (l' : List UInt8) (hx : a.eval x = .slice A' m c') (hr : RB w B A' m c' l')
  (hsz : n + m ≤ 140737488355328) (hbase : base ≤ w.heap.size)
  (h : ∀ A2 c2 w', OB w' base e A2 (n + m) c2 (l ++ l') → Below base w w' → wpList P ops Q rest (a.put o.dst (.slice A2 (n + m) c2)) w') : wpList P ops Q (o :: rest) a w := by
 refine wpList_plain hgd fun K hK => ?_
 obtain ⟨A2, c2, w', hrun, h2, h3⟩ := run_appendB (P := P) w base t o.type e ht hinfo A n c l hown B A' m c' l' hr hsz hbase
 unfold Oper.wp execOp
 simp only [ho, resolve, invoke, builtin, Sem.run_bind, Sem.run_pure, Result.andThen_ok, List.map_toArray, List.map_cons, List.map_nil, hs, hx, hrun]
 exact hK _ _ (h A2 c2 w' h2 h3)
theorem Blk.below {w W : World} {g B : Nat} {t : TypeId} {cs : Array Value} (h : Blk w g t cs) (hb : Below B w W) (hg : g < B) : Blk W g t cs := by rw [Blk, hb.block g hg]; exact h
structure ZS (w : World) (B z : Nat) (A : Option Addr) (n c : Nat) (l : List (Array Value)) : Prop where
 len : n = l.length
 cap : n ≤ c
 max : c ≤ maxLen
 size : ∀ r ∈ l, r.size = z
 pos : 0 < n → ∃ b off, A = some ⟨b, off, none⟩ ∧ b < B ∧ ∀ j (h : j < l.length) i v, l[j][i]? = some v → w.cell? ⟨b, off + j * z + i, none⟩ = some v
section
variable {w w' : World} {B z : Nat} {A : Option Addr} {n c : Nat} {l : List (Array Value)}
theorem ZS.keep (h : ZS w B z A n c l) (hk : ∀ p : Addr, p.block < B → w'.cell? p = w.cell? p) : ZS w' B z A n c l :=
 ⟨h.len, h.cap, h.max, h.size, fun hn => by
  obtain ⟨b, off, e, hb, hc⟩ := h.pos hn
  exact ⟨b, off, e, hb, fun j hj i v hv => (hk ⟨b, off + j * z + i, none⟩ hb).trans (hc j hj i v hv)⟩⟩
theorem ZS.belowAt {B0 : Nat} (h : ZS w B z A n c l) (hb : Below B0 w w') (hB : B ≤ B0) : ZS w' B z A n c l := h.keep fun _ hp => hb.cell (by omega)
theorem ZS.more {B' : Nat} (h : ZS w B z A n c l) (hB : B ≤ B') : ZS w B' z A n c l :=
 ⟨h.len, h.cap, h.max, h.size, fun hn => by
  obtain ⟨b, off, e, hb, hc⟩ := h.pos hn
  exact ⟨b, off, e, by omega, hc⟩⟩
theorem ZS.grow (h : ZS w w.heap.size z A n c l) (hg : Grow w w') : ZS w' w'.heap.size z A n c l := (h.belowAt hg (Nat.le_refl _)).more hg.size
theorem ZS.nil : ZS w B z none 0 0 [] := ⟨rfl, Nat.le_refl _, Nat.zero_le _, fun _ h => absurd h (by simp), fun h => absurd h (by omega)⟩
theorem ZS.one {g : Nat} {t : TypeId} {r : Array Value} (h : Blk w g t r) (hB : g < B) : ZS w B r.size (some ⟨g, 0, none⟩) 1 1 [r] :=
 ⟨rfl, Nat.le_refl _, by unfold maxLen; omega, fun x hx => by simp at hx; rw [hx], fun _ => ⟨g, 0, rfl, hB, fun j hj i v hv => by
  obtain rfl : j = 0 := by simpa using hj
  rw [Nat.zero_add, Nat.zero_mul, Nat.zero_add, h.at]
  simpa using hv⟩⟩
theorem ZS.exec {P : Program} {b off j : Nat} (h : ZS w B z (some ⟨b, off, none⟩) n c l) (hj : j < l.length) {o : Oper} {ev : Operand → Value} (ty : TypeId) (x : Operand) (ho : o.op = .load ty x) (hx : ev x = .pointer (some ⟨b, off + j * z, none⟩))
  (d : TypeDesc) (hu : P.underlying ty = some d) (hd : (match d with | .struct _ | .array _ _ => true | _ => false) = true) (hi : (P.info? ty).map (·.size) = some z) :
  (execOp ev o).run P w = .ok (.value (.agg l[j])) w := by
 have hz : l[j].size = z := h.size _ (List.getElem_mem hj)
 obtain ⟨b', off', e, _, hc⟩ := h.pos (by have := h.len; omega)
 injection e with e
 injection e with e1 e2
 subst e1; subst e2
 have hl : (loadCells ⟨b, off + j * z, none⟩ l[j].toList.length).run P w = .ok l[j].toList.toArray w :=
  run_loadCells_list (P := P) w ⟨b, off + j * z, none⟩ l[j].toList (fun i v hv => by
   have hadd : (⟨b, off + j * z, none⟩ : Addr).add i = ⟨b, off + j * z + i, none⟩ := by unfold Addr.add; split <;> simp_all
   rw [hadd]
   exact hc j hj i v (by simpa using hv))
 have hv : (loadVar ty ⟨b, off + j * z, none⟩).run P w = .ok (.agg l[j]) w := by
  cases hq : P.info? ty with
  | none => simp [hq] at hi
  | some i =>
   have hs : i.size = l[j].size := by rw [hz]; simpa [hq] using hi
   have hagg : (isAgg ty).run P w = .ok true w := by
    unfold isAgg
    rw [Sem.run_bind, run_underlying hu w]
    cases d <;> simp_all
   rw [Array.toArray_toList] at hl
   rw [Array.length_toList] at hl
   simp [loadVar, hagg, sizeOf, typeInfo, hq, hs, hl]
 unfold execOp
 simp only [ho, hx, Instr.loadAt, Instr.sureAddr, Sem.run_bind, Sem.run_pure, Result.andThen_ok, hv]
theorem wpList_load_zs {P : Program} {ops : Array Oper} {rest : List Oper} {o : Oper} {a : Act} {Q : Exit → Act → World → Prop} {b off j : Nat} (h : ZS w B z (some ⟨b, off, none⟩) n c l) (hj : j < l.length) (hgd : o.guard = none) (ty : TypeId) (x : Operand) (ho : o.op = .load ty x)
  (hx : a.eval x = .pointer (some ⟨b, off + j * z, none⟩)) (d : TypeDesc) (hu : P.underlying ty = some d) (hd : (match d with | .struct _ | .array _ _ => true | _ => false) = true) (hi : (P.info? ty).map (·.size) = some z)
  (r : Array Value) (hr : l[j] = r) (hn : wpList P ops Q rest (a.put o.dst (.agg r)) w) : wpList P ops Q (o :: rest) a w := by
 refine wpList_plain hgd fun K hK => ?_
 have := h.exec hj (ev := a.eval) ty x ho hx d hu hd hi
 unfold Oper.wp
 rw [this, hr]
 exact hK _ _ hn
end
theorem flat_at {z : Nat} : ∀ (l : List (Array Value)), (∀ r ∈ l, r.size = z) → ∀ (j : Nat) (h : j < l.length) (i : Nat), i < z → (l.flatMap Array.toList)[j * z + i]? = l[j][i]?
 | [], _, _, h, _, _ => absurd h (by simp)
 | r :: l, hs, 0, _, i, hi => by
  have hr := hs r (by simp)
  simp only [List.flatMap_cons, Nat.zero_mul, Nat.zero_add, List.getElem_cons_zero]
  rw [List.getElem?_append_left (by simpa [hr] using hi)]
  simp
 | r :: l, hs, j + 1, h, i, hi => by
  have hr := hs r (by simp)
  have ih := flat_at l (fun x hx => hs x (by simp [hx])) j (by simpa using h) i hi
  simp only [List.flatMap_cons, List.getElem_cons_succ]
  rw [List.getElem?_append_right (by simp [hr, Nat.succ_mul]; omega), ← ih]
  congr 1
  simp [hr, Nat.succ_mul]; omega
def ZO (w : World) (base : Nat) (e : TypeId) (z : Nat) (A : Option Addr) (n c : Nat) (l : List (Array Value)) : Prop :=
 w.ownsRow base e z (.slice A n c) n (l.flatMap Array.toList) ∧ n = l.length ∧ ∀ r ∈ l, r.size = z
section
variable {w w' : World} {base : Nat} {e : TypeId} {z : Nat} {A : Option Addr} {n c : Nat} {l : List (Array Value)}
theorem ZO.nil : ZO w base e z none 0 0 [] := ⟨World.ownsRow_nil _ _ _ _, rfl, fun _ h => absurd h (by simp)⟩
theorem ZO.keep (h : ZO w base e z A n c l) (hb : Below w.heap.size w w') : ZO w' base e z A n c l := by
 refine ⟨⟨h.1.1, ?_⟩, h.2⟩
 rcases h.1.2 with h0 | ⟨g, cap, cur, hv, hg, hh, r⟩
 ·exact .inl h0
 ·refine .inr ⟨g, cap, cur, hv, hg, ?_, r⟩
  rw [hb.block g ?_]
  ·exact hh
  ·rcases Nat.lt_or_ge g w.heap.size with h1 | h1
   ·exact h1
   ·rw [Array.getElem?_eq_none h1] at hh; cases hh
theorem ZO.zs (h : ZO w base e z A n c l) : ZS w w.heap.size z A n c l := by
 rcases h.1.2 with ⟨e0, h0⟩ | ⟨g, cap, cur, hv, _, hh, hnc, hcm, hsz, htk⟩
 ·injection e0 with e1 e2 e3
  subst e1; subst e3
  exact ⟨h.2.1, by omega, Nat.zero_le _, h.2.2, fun hp => by omega⟩
 ·injection hv with hA _ hc
  subst hA; subst hc
  refine ⟨h.2.1, hnc, hcm, h.2.2, fun _ => ⟨g, 0, rfl, ?_, fun j hj i v hv => ?_⟩⟩
  ·rcases Nat.lt_or_ge g w.heap.size with h1 | h1
   ·exact h1
   ·rw [Array.getElem?_eq_none h1] at hh; cases hh
  ·have hiz : i < z := by
    have h1 := h.2.2 _ (List.getElem_mem hj)
    have h2 := (Array.getElem?_eq_some_iff.1 hv).1
    omega
   rw [cell_of_row w g (0 + j * z + i) cur e (0, 0) hh, Nat.zero_add]
   have e1 := flat_at l h.2.2 j hj i hiz
   rw [hv, ← htk] at e1
   have hlt : j * z + i < n * z := by
    have : j + 1 ≤ n := by rw [h.2.1]; exact hj
    have := Nat.mul_le_mul_right z this
    rw [Nat.succ_mul] at this
    omega
   rw [List.getElem?_take_of_lt hlt] at e1
   simpa using e1
theorem ZO.ge (h : ZO w base e z A n c l) {g : Nat} (hg : own A = some g) : base ≤ g := by
 rcases h.1.2 with ⟨hv, _⟩ | ⟨g', cap, cur, hv, hb, _⟩
 ·injection hv with e1 _ _
  subst e1
  cases hg
 ·injection hv with e1 _ _
  subst e1
  have e3 : g' = g := Option.some.inj hg
  omega
theorem ZO.mono {base' : Nat} (h : ZO w base e z A n c l) (hb : base' ≤ base) : ZO w base' e z A n c l := by
 refine ⟨⟨h.1.1, ?_⟩, h.2⟩
 rcases h.1.2 with h0 | ⟨g, cap, cur, hv, hg, r⟩
 ·exact .inl h0
 ·exact .inr ⟨g, cap, cur, hv, by omega, r⟩
theorem ZO.room (w : World) (base : Nat) (t : TypeId) (c z : Nat) (cs : Array Value) (h : c ≤ maxLen) (hb : base ≤ w.heap.size) (hs : cs.size = c * z) : ZO (w.alloc (.cells cs t)) base t z (some ⟨w.heap.size, 0, none⟩) 0 c [] :=
 ⟨⟨by simp, .inr ⟨w.heap.size, c, cs, rfl, hb, heap_alloc_new w _, Nat.zero_le _, h, hs, by simp⟩⟩, rfl, fun _ h => absurd h (by simp)⟩
end
theorem run_appendZ {P : Program} (w : World) (base : Nat) (t ty e : TypeId) (zv : Value) (z bytes : Nat) (ht : P.underlying t = some (.slice e))
  (hinfo : (P.info? e).map (fun i => (i.zero, i.size, i.bytes)) = some (some zv, z, bytes)) (hzs : zv.cells.size = z) (hz0 : 0 < z)
  (A : Option Addr) (n c : Nat) (l : List (Array Value)) (hown : ZO w base e z A n c l) (g : Nat) (t' : TypeId) (r : Array Value) (hr : Blk w g t' r) (hrz : r.size = z) (h1 : r.all (·.oneCell') = true)
  (h63 : n + 1 ≤ maxLen) (hsz : (n + 1) * bytes ≤ 140737488355328) (hbase : base ≤ w.heap.size) :
  ∃ A2 c2 w', (Builtin.append_ #[t, t] ty #[.slice A n c, .slice (some ⟨g, 0, none⟩) 1 1]).run P w = .ok (.slice A2 (n + 1) c2) w' ∧ ZO w' base e z A2 (n + 1) c2 (l ++ [r]) ∧ w.grownBy w' (own A) ∧ (own A2 = own A ∨ own A2 = some w.heap.size) := by
 obtain ⟨i, hi, hz, hs, hby⟩ := info_parts hinfo
 obtain ⟨v', w', hrun, h2, h3, _, h5⟩ := run_append_own_at (P := P) w base t ty e i zv z bytes ht hi hz hs hby hzs hz0 _ n _ hown.1 ⟨g, 0, none⟩ 1 1 r.toList
  (by simp [hrz]) (fun j u hj => by
   have e2 : (⟨g, 0, none⟩ : Addr).add j = ⟨g, j, none⟩ := by unfold Addr.add; split <;> simp_all
   rw [e2, hr.at]
   simpa using hj) (by intro u hu; exact (Array.all_eq_true_iff_forall_mem.1 h1) u (by simpa using hu)) h63 hsz hbase
 have hv : ∃ A2 c2, v' = .slice A2 (n + 1) c2 := by
  rcases h2.2 with ⟨h0, h1⟩ | ⟨g, cap, cur, h0, _⟩
  ·omega
  ·exact ⟨_, _, h0⟩
 obtain ⟨A2, c2, rfl⟩ := hv
 rw [own_slice, own_slice] at h5
 rw [own_slice] at h3
 refine ⟨A2, c2, w', hrun, ⟨?_, by simp [hown.2.1], fun x hx => ?_⟩, h3, h5⟩
 ·rw [List.flatMap_append]
  simpa using h2
 ·rcases List.mem_append.1 hx with h | h
  ·exact hown.2.2 x h
  ·obtain rfl : x = r := by simpa using h
   exact hrz
theorem wp_appendZ {P : Program} (w : World) {o : Oper} {a : Act} {K : Act → World → Prop} {Q : Exit → Act → World → Prop} (s x : Operand) (t : TypeId)
  (ho : o.op = .call { callee := .builtin .append, args := #[s, x], argTypes := #[t, t] })
  (base : Nat) (e : TypeId) (zv : Value) (z bytes : Nat) (ht : P.underlying t = some (.slice e)) (hinfo : (P.info? e).map (fun i => (i.zero, i.size, i.bytes)) = some (some zv, z, bytes)) (hzs : zv.cells.size = z) (hz0 : 0 < z)
  (A : Option Addr) (n c : Nat) (l : List (Array Value)) (hs : a.eval s = .slice A n c) (hown : ZO w base e z A n c l)
  (g : Nat) (t' : TypeId) (r : Array Value) (hx : a.eval x = .slice (some ⟨g, 0, none⟩) 1 1) (hr : Blk w g t' r) (hrz : r.size = z) (h1 : r.all (·.oneCell') = true)
  (h63 : n + 1 ≤ maxLen) (hsz : (n + 1) * bytes ≤ 140737488355328) (hbase : base ≤ w.heap.size)
  (h : ∀ A2 c2 w', ZO w' base e z A2 (n + 1) c2 (l ++ [r]) → w.grownBy w' (own A) → (own A2 = own A ∨ own A2 = some w.heap.size) → K (a.put o.dst (.slice A2 (n + 1) c2)) w') : o.wp P a w K Q := by
 obtain ⟨A2, c2, w', hrun, h2, h3, h4⟩ := run_appendZ (P := P) w base t o.type e zv z bytes ht hinfo hzs hz0 A n c l hown g t' r hr hrz h1 h63 hsz hbase
 unfold Oper.wp execOp
 simp only [ho, resolve, invoke, builtin, Sem.run_bind, Sem.run_pure, Result.andThen_ok, List.map_toArray, List.map_cons, List.map_nil, hs, hx, hrun]
 exact h A2 c2 w' h2 h3 h4
theorem ret_int {k : IntKind} {a b : Int} (h : a = b) : Ending.returned (.int k a) = .returned (.int k b) := by rw [h]
theorem ret_bool {a b : Bool} (h : a = b) : Ending.returned (.bool a) = .returned (.bool b) := by rw [h]
def lastN (a n : Nat) : Nat := min (a + n - 1) 18446744073709551615
def belowN (a n v : Nat) : Bool := if n = 0 then decide (a ≤ v) else decide (lastN a n < v)
theorem last_any (a n : Nat) (w : World) (ha : a < 18446744073709551616) (hn : n < 18446744073709551616) (h0 : 0 < n) :
  Calls Tryz.prog 162 #[.agg #[.int .u64 a, .int .u64 n]] w fun e w' => e = .returned (.int .u64 (lastN a n : Nat)) ∧ Grow w w' := by
 have z1 : IntKind.u64.wrap ((n : Int) - 1) = (n : Int) - 1 := by rw [IntKind.wrap_u64]; omega
 have z2 : IntKind.u64.wrap (18446744073709551615 - (a : Int)) = 18446744073709551615 - (a : Int) := by rw [IntKind.wrap_u64]; omega
 by_cases h : (n : Int) - 1 ≤ 18446744073709551615 - (a : Int)
 ·have E := hid (show (lastN a n : Int) = (a : Int) + (n - 1) by unfold lastN; omega)
  go_enter Tryz.func162, Tryz.ntmps162
  go_wp2
  go_ret
  exact ⟨ret_int E.out.symm, Grow.of_alloc _ _⟩
 ·have E := hid (show (lastN a n : Int) = (a : Int) + (18446744073709551615 - (a : Int)) by unfold lastN; omega)
  go_enter Tryz.func162, Tryz.ntmps162
  go_wp2
  go_ret
  exact ⟨ret_int E.out.symm, Grow.of_alloc _ _⟩
theorem below_any (a n v : Nat) (w : World) (ha : a < 18446744073709551616) (hn : n < 18446744073709551616) :
  Calls Tryz.prog 158 #[.agg #[.int .u64 a, .int .u64 n], .int .u64 v] w fun e w' => e = .returned (.bool (belowN a n v)) ∧ Grow w w' := by
 by_cases n0 : n = 0
 ·subst n0
  have E := hid (show belowN a 0 v = decide (a ≤ v) by simp [belowN])
  go_enter Tryz.func158, Tryz.ntmps158
  go_wp2
  go_ret
  exact ⟨ret_bool (by simp [E.out]), Grow.of_alloc _ _⟩
 ·have E := hid (show belowN a n v = decide (lastN a n < v) by simp [belowN, n0])
  have d1 : ((n : Int) == 0) = false := by simp [n0]
  have hn0 := hid (Nat.pos_of_ne_zero n0)
  clear n0
  go_enter Tryz.func158, Tryz.ntmps158
  go_wp2_with (go_at_call 162; refine (last_any _ _ _ ha hn hn0.out).mono ?_; rintro e w' ⟨rfl, hb⟩; have HB := hid hb; clear hb)
  go_ret
  exact ⟨ret_bool (by simp [E.out]), (Grow.of_alloc _ _).trans HB.out⟩
def spC (x : Nat × Nat) : Array Value := #[.int .u64 (x.1 : Nat), .int .u64 (x.2 : Nat)]
def belowAt (l : List (Nat × Nat)) (i k : Nat) : Bool := belowN (l.getD i (0, 0)).1 (l.getD i (0, 0)).2 (l.getD k (0, 0)).1
def Up (l : List (Nat × Nat)) : Prop := ∀ k, 0 < k → k < l.length → belowAt l (k - 1) k = true
def rises (l : List (Nat × Nat)) : Bool := (List.range l.length).all fun k => decide (k = 0) || belowAt l (k - 1) k
theorem rises_iff (l : List (Nat × Nat)) : rises l = true ↔ Up l := by
 unfold rises Up
 rw [List.all_eq_true]
 constructor
 ·intro h k h0 hk
  have := h k (by simpa using hk)
  rw [Bool.or_eq_true, decide_eq_true_iff] at this
  rcases this with h | h
  ·omega
  ·exact h
 ·intro h k hk
  rw [Bool.or_eq_true, decide_eq_true_iff]
  rcases Nat.eq_zero_or_pos k with h0 | h0
  ·exact .inl h0
  ·exact .inr (h k h0 (by simpa using hk))
theorem up_no {l : List (Nat × Nat)} {k : Nat} (h0 : 0 < k) (hk : k < l.length) (h : belowAt l (k - 1) k = false) : rises l = false := by
 cases hr : rises l
 ·rfl
 ·have := (rises_iff l).1 hr k h0 hk
  rw [h] at this
  cases this
theorem up_step {l : List (Nat × Nat)} {k : Nat} (hu : ∀ j, 0 < j → j < k → belowAt l (j - 1) j = true) (h : belowAt l (k - 1) k = true) : ∀ j, 0 < j → j < k + 1 → belowAt l (j - 1) j = true := fun j h1 h2 => by
 rcases Nat.lt_or_ge j k with h3 | h3
 ·exact hu j h1 h3
 ·obtain rfl : j = k := by omega
  exact h
set_option maxHeartbeats 800000 in
theorem rising_any (A : Option Addr) (n c : Nat) (l : List (Nat × Nat)) (w : World) (h : ZS w w.heap.size 2 A n c (l.map spC)) (hs : ∀ x ∈ l, x.1 < 18446744073709551616 ∧ x.2 < 18446744073709551616) :
  Calls Tryz.prog 147 #[.slice A n c] w fun e w' => e = .returned (.bool (rises l)) ∧ Grow w w' := by
 have hc := h.cap
 have hm := h.max
 have hlen : n = l.length := by have := h.len; simpa using this
 have HL := hid hlen
 unfold maxLen at hm
 by_cases hn : n ≤ 1
 ·have HU := hid (show rises l = true from (rises_iff l).2 (by intro k h1 h2; rw [← hlen] at h2; omega))
  clear h hlen
  go_enter Tryz.func147, Tryz.ntmps147
  go_wp2
  go_loop [3] (fun i => i = .int .i64 1) (fun _ => 0)
  case atStart => rfl
  case round =>
   obtain rfl := hrel
   go_wp2
   go_ret
   exact ⟨ret_bool HU.out.symm, Grow.refl _⟩
 ·obtain ⟨b, off, rfl, hb, hcell⟩ := h.pos (by omega)
  have hat : ∀ j (_ : j < l.length), w.cell? ⟨b, off + j * 2, none⟩ = some (.int .u64 ((l.getD j (0, 0)).1 : Nat)) ∧ w.cell? ⟨b, off + j * 2 + 1, none⟩ = some (.int .u64 ((l.getD j (0, 0)).2 : Nat)) := by
   intro j hj
   have e : l.getD j (0, 0) = l[j] := by simp [List.getD_eq_getElem?_getD, hj]
   rw [e]
   exact ⟨hcell j (by simpa using hj) 0 _ (by simp [spC]), hcell j (by simpa using hj) 1 _ (by simp [spC])⟩
  have hsm : ∀ j (_ : j < l.length), (l.getD j (0, 0)).1 < 18446744073709551616 ∧ (l.getD j (0, 0)).2 < 18446744073709551616 := by
   intro j hj
   have e : l.getD j (0, 0) = l[j] := by simp [List.getD_eq_getElem?_getD, hj]
   rw [e]
   exact hs _ (List.getElem_mem hj)
  have HC := hid hat
  have HS := hid hsm
  have HB := hid (show b < w.heap.size by omega)
  clear h hcell hb hat hsm hs hlen
  go_enter Tryz.func147, Tryz.ntmps147
  go_wp2
  go_loopw [3] (fun i wr => ∃ k : Nat, 0 < k ∧ k ≤ n ∧ i = .int .i64 k ∧ (∀ j, 0 < j → j < k → belowAt l (j - 1) j = true) ∧ Grow w wr) (fun i _ => n - (intOf i).toNat)
  case atStart => exact ⟨1, by omega, by omega, rfl, fun j h1 h2 => by omega, Grow.refl _⟩
  case round =>
   obtain ⟨k, h0, hk, rfl, hup, hg⟩ := hrel
   have HG := hid hg
   have HU := hid hup
   clear hg hup
   by_cases hlt : k < n
   ·obtain ⟨x, hx⟩ : ∃ x, x = l.getD (k - 1) (0, 0) := ⟨_, rfl⟩
    obtain ⟨y, hy⟩ : ∃ y, y = l.getD k (0, 0) := ⟨_, rfl⟩
    have hkl : k < l.length := by rw [← HL.out]; exact hlt
    have c0 : ∀ W, Grow wr.drew W → W.cell? ⟨b, off + (k - 1) * 2, none⟩ = some (.int .u64 (x.1 : Nat)) := fun W hW => by rw [Below.cell (HG.out.trans ((Grow.of_drew _).trans hW)) HB.out, hx]; exact (HC.out (k - 1) (by omega)).1
    have c1 : ∀ W, Grow wr.drew W → W.cell? ⟨b, off + (k - 1) * 2 + 1, none⟩ = some (.int .u64 (x.2 : Nat)) := fun W hW => by rw [Below.cell (HG.out.trans ((Grow.of_drew _).trans hW)) HB.out, hx]; exact (HC.out (k - 1) (by omega)).2
    have c2 : ∀ W, Grow wr.drew W → W.cell? ⟨b, off + k * 2, none⟩ = some (.int .u64 (y.1 : Nat)) := fun W hW => by rw [Below.cell (HG.out.trans ((Grow.of_drew _).trans hW)) HB.out, hy]; exact (HC.out k (by omega)).1
    have HE := hid (show belowAt l (k - 1) k = belowN x.1 x.2 y.1 by rw [hx, hy]; rfl)
    have sx := HS.out (k - 1) (by omega)
    rw [← hx] at sx
    clear hx hy
    go_wp2_with fail
    refine wp_region_chain [(0, true), (1, true), (2, true), (3, true), (4, true), (5, true), (6, true), (7, true), (8, true), (9, true), (10, false), (11, true)] (by kernel_rfl) (by kernel_rfl) (by kernel_rfl) ?_
    have HD : Hid (Grow w wr.drew) := HG.out.trans (Grow.of_drew _)
    generalize wr.drew = w1 at HD c0 c1 c2 ⊢
    have z1 : IntKind.i64.wrap ((k : Int) - 1) = (k : Int) - 1 := IntWalk.i64_in _ (by omega)
    have z2 : (1 : Int) ≤ (k : Int) := by omega
    have z3 : ((k : Int) - 1).toNat = k - 1 := by omega
    have z4 : (k : Int) - 1 < (n : Int) := by omega
    repeat ((first | (refine chain_take rfl (by rfl) ?_ (fun W hG => ?_) ?_; rotate_left; (go_simp; rfl)) | refine chain_skip rfl (by rfl) ?_); simp only [Act.put, List.setIfInBounds_toArray, List.set_cons_zero, List.set_cons_succ])
    refine chain_only rfl (by rfl) (fun K hK => ?_)
    go_simp
    refine (below_any _ _ _ _ sx.1 sx.2).mono ?_
    rintro e w2 ⟨rfl, hb⟩
    refine hK _ _ hb ?_
    have HF : Hid (Grow w w2) := HD.out.trans hb
    clear hK K hb z1 z2 z3 z4 c0 c1 c2 sx
    cases hr : belowN x.1 x.2 y.1
    ·rw [hr] at HE
     clear hr
     repeat ((first | (refine chain_take rfl (by rfl) ?_ (fun W hG => ?_) ?_; rotate_left; (go_simp; rfl)) | refine chain_skip rfl (by rfl) ?_); simp only [Act.put, List.setIfInBounds_toArray, List.set_cons_zero, List.set_cons_succ])
     refine chain_done ?_
     go_wp2
     go_ret
     exact ⟨ret_bool (up_no h0 hkl HE.out).symm, HF.out⟩
    ·rw [hr] at HE
     clear hr
     repeat ((first | (refine chain_take rfl (by rfl) ?_ (fun W hG => ?_) ?_; rotate_left; (go_simp; rfl)) | refine chain_skip rfl (by rfl) ?_); simp only [Act.put, List.setIfInBounds_toArray, List.set_cons_zero, List.set_cons_succ])
     refine chain_done ?_
     go_wp2
     go_roundw
     case rel => exact ⟨k + 1, by omega, by omega, by go_num, up_step HU.out HE.out, HF.out⟩
     case measure => simp [intOf]; omega
   ·have HU2 := hid (show rises l = true from (rises_iff l).2 fun j h1 h2 => HU.out j h1 (by have := HL.out; omega))
    go_wp2
    go_ret
    exact ⟨ret_bool HU2.out.symm, HG.out⟩
end Go.Proofs.YtfbimboemahhhaaGreatDoor
