/-
  Several texts in one: Rows that a call cloned; The contracts of slices; What strip; A region that draws its order and whose last operation changes what the others read.
-/
import Derived.Test.YtfbimboemahhhaaSbG9
import Derived.Test.YtfbimboemahhhaaSbG3
import Derived.Test.YtfbimboemahhhaaSbG4
import Derived.Test.YtfbimboemahhhaaSbG5
import Derived.Test.YtfbimboemahhhaaSbG6
import Derived.Test.YtfbimboemahhhaaSbG1
namespace Go.Proofs.Ytfbimboemahhhaa
open Go.Lib (hid)
open Go.RowKit
set_option linter.unusedVariables false
theorem wpList_appendZs {P : Program} (w : World) {ops : Array Oper} {rest : List Oper} {o : Oper} {a : Act} {Q : Exit → Act → World → Prop} (hgd : o.guard = none) (s x : Operand) (t : TypeId)
  (ho : o.op = .call { callee := .builtin .append, args := #[s, x], argTypes := #[t, t] })
  (base : Nat) (e : TypeId) (zv : Value) (z bytes : Nat) (ht : P.underlying t = some (.slice e)) (hinfo : (P.info? e).map (fun i => (i.zero, i.size, i.bytes)) = some (some zv, z, bytes)) (hzs : zv.cells.size = z) (hz0 : 0 < z)
  (A : Option Addr) (n c : Nat) (l : List (Array Value)) (hs : a.eval s = .slice A n c) (hown : ZO w base e z A n c l)
  (B : Nat) (p : Addr) (m c' : Nat) (R : List (Array Value)) (hx : a.eval x = .slice (some p) m c') (hr : ZS w B z (some p) m c' R) (h1 : ∀ r ∈ R, r.all (·.oneCell') = true)
  (h63 : n + m ≤ maxLen) (hsz : (n + m) * bytes ≤ 140737488355328) (hbase : base ≤ w.heap.size) (hne : A ≠ none)
  (h : ∀ A2 c2 w', ZO w' base e z A2 (n + m) c2 (l ++ R) → Below base w w' → wpList P ops Q rest (a.put o.dst (.slice A2 (n + m) c2)) w') : wpList P ops Q (o :: rest) a w := by
 refine wpList_plain hgd fun K hK => ?_
 obtain ⟨i, hi, hz, hsi, hby⟩ := info_parts hinfo
 have hlen : (R.flatMap Array.toList).length = m * z := by
  have key : ∀ l : List (Array Value), (∀ r ∈ l, r.size = z) → (l.flatMap Array.toList).length = l.length * z := by
   intro l
   induction l with
   | nil => intro _; simp
   | cons r l ih =>
    intro h
    rw [List.flatMap_cons, List.length_append, ih fun x hx => h x (List.mem_cons_of_mem _ hx), List.length_cons, Nat.succ_mul]
    have := h r (List.mem_cons_self ..)
    simp [this, Nat.add_comm]
  rw [key R hr.size, hr.len]
 obtain ⟨v', w', hrun, h2, h3, h4, h5⟩ := run_append_own_at (P := P) w base t o.type e i zv z bytes ht hi hz hsi hby hzs hz0 _ n _ hown.1 p m c' (R.flatMap Array.toList)
  hlen (fun j u hj => by
   have hjl : j < m * z := by rw [← hlen]; exact (List.getElem?_eq_some_iff.1 hj).1
   have hm0 : 0 < m := by
    rcases Nat.eq_zero_or_pos m with h | h
    ·subst h; omega
    ·exact h
   obtain ⟨b, off, e1, hb, hc⟩ := hr.pos hm0
   injection e1 with e1
   subst e1
   have hq : j / z < R.length := by rw [← hr.len]; exact Nat.div_lt_of_lt_mul (by rw [Nat.mul_comm]; exact hjl)
   have hf := flat_at R hr.size (j / z) hq (j % z) (Nat.mod_lt _ hz0)
   rw [Nat.div_add_mod' j z, hj] at hf
   have := hc (j / z) hq (j % z) u hf.symm
   rw [Nat.add_assoc, Nat.div_add_mod' j z] at this
   have e2 : (⟨b, off, none⟩ : Addr).add j = ⟨b, off + j, none⟩ := by unfold Addr.add; split <;> simp_all
   rw [e2]
   exact this)
  (by
   intro u hu
   obtain ⟨r, hr1, hr2⟩ := List.mem_flatMap.1 hu
   exact (Array.all_eq_true_iff_forall_mem.1 (h1 r hr1)) u (by simpa using hr2)) h63 hsz hbase
 have hv : ∃ A2 c2, v' = .slice A2 (n + m) c2 := by
  rcases h2.2 with ⟨h0, _⟩ | ⟨g, cap, cur, h0, _⟩
  ·have := (h4.1 h0).1
   injection this with this
   exact absurd this hne
  ·exact ⟨_, _, h0⟩
 obtain ⟨A2, c2, rfl⟩ := hv
 unfold Oper.wp execOp
 simp only [ho, resolve, invoke, builtin, Sem.run_bind, Sem.run_pure, Result.andThen_ok, List.map_toArray, List.map_cons, List.map_nil, hs, hx, hrun]
 refine hK _ _ (h A2 c2 w' ⟨by rw [List.flatMap_append]; exact h2, by rw [List.length_append, hown.2.1, hr.len], fun r hr1 => ?_⟩ ?_)
 ·rcases List.mem_append.1 hr1 with h | h
  ·exact hown.2.2 r h
  ·exact hr.size r h
 ·refine (Below.refl base w).grown h3 hbase fun k hk => (World.ownsRow.lt hown.1 k hk).1
def RM {α : Type} (K : RK α) (w : World) (B : Nat) (r : Array Value) (a : α) : Prop := ∃ A n c, r = K.cs a (.slice A n c) ∧ (RB w B A n c (K.by_ a) ∨ OB w B 5 A n c (K.by_ a))
def GM {α : Type} (K : RK α) (w : World) (B : Nat) (e : TypeId) (A : Option Addr) (k c : Nat) (L : List α) : Prop :=
 ∃ R, ZO w B e K.z A k c R ∧ R.length = L.length ∧ ∀ j (h : j < R.length) (h' : j < L.length), RM K w B R[j] L[j]
section
variable {α : Type} {K : RK α} {w w' : World} {B : Nat} {e t : TypeId} {A : Option Addr} {k c : Nat} {L : List α} {r : Array Value} {a : α}
theorem RM.keep (h : RM K w B r a) (hg : Grow w w') (hB : B ≤ w.heap.size) : RM K w' B r a := by
 obtain ⟨A, n, c, e1, h1⟩ := h
 refine ⟨A, n, c, e1, ?_⟩
 rcases h1 with h1 | h1
 ·exact .inl (h1.belowAt hg hB)
 ·exact .inr (h1.keep hg)
theorem RM.rb (h : RM K w B r a) (hB : B ≤ w.heap.size) : ∃ A n c, r = K.cs a (.slice A n c) ∧ RB w w.heap.size A n c (K.by_ a) := by
 obtain ⟨A, n, c, e1, h1⟩ := h
 refine ⟨A, n, c, e1, ?_⟩
 rcases h1 with h1 | h1
 ·exact h1.more hB
 ·exact h1.rb
theorem GM.keep (h : GM K w B e A k c L) (hg : Grow w w') (hB : B ≤ w.heap.size) : GM K w' B e A k c L := by
 obtain ⟨R, h1, h2, h3⟩ := h
 exact ⟨R, h1.keep hg, h2, fun j a b => (h3 j a b).keep hg hB⟩
theorem GM.zr (h : GM K w B e A k c L) (hB : B ≤ w.heap.size) : ZR K w w.heap.size A k c L := by
 obtain ⟨R, h1, h2, h3⟩ := h
 exact ⟨R, h1.zs, h2, fun j a b => (h3 j a b).rb hB⟩
theorem GM.of {R : List (Array Value)} (h : ZO w' B e K.z A k c R) (hl : R.length = L.length) (hr : ∀ j (h : j < R.length) (h' : j < L.length), RR K w B R[j] L[j]) (hb : Below B w w') : GM K w' B e A k c L :=
 ⟨R, h, hl, fun j a b => by
  obtain ⟨A, n, c, e1, h1⟩ := hr j a b
  exact ⟨A, n, c, e1, .inl (h1.belowAt hb (Nat.le_refl _))⟩⟩
theorem RM.past {g : Nat} {cs : Array Value} (h : RM K w B r a) (hb : Blk w g t cs) (hu : 5 ≠ t) (hg : w.grownBy w' (some g)) (hB : B ≤ g) (hs : B ≤ w.heap.size) : RM K w' B r a := by
 obtain ⟨A, n, c, e1, h1⟩ := h
 refine ⟨A, n, c, e1, ?_⟩
 rcases h1 with h1 | h1
 ·exact .inl (h1.belowAt ((Below.refl B w).grown hg hs fun k hk => by injection hk with hk; omega) (Nat.le_refl _))
 ·refine .inr (h1.passed hg ?_)
  rcases h1.2 with ⟨hv, _⟩ | ⟨g', cap, cur, hv, _, hh, _⟩
  ·injection hv with e1 _ _
   subst e1
   exact .inl rfl
  ·injection hv with e1 _ _
   subst e1
   refine .inr fun hA => ?_
   have e3 : g' = g := Option.some.inj hA
   subst e3
   rw [hb] at hh
   injection hh with hh
   injection hh with _ hh
   exact hu hh.symm
theorem GM.past {g : Nat} {cs : Array Value} (h : GM K w B e A k c L) (hb : Blk w g t cs) (hne : e ≠ t) (hu : 5 ≠ t) (hg : w.grownBy w' (some g)) (hB : B ≤ g) (hs : B ≤ w.heap.size) : GM K w' B e A k c L := by
 obtain ⟨R, h1, h2, h3⟩ := h
 refine ⟨R, h1.past hg ?_, h2, fun j a b => (h3 j a b).past hb hu hg hB hs⟩
 rcases h1.1.2 with ⟨hv, _⟩ | ⟨g', cap, cur, hv, _, hh, _⟩
 ·injection hv with e1 _ _
  subst e1
  exact .inl rfl
 ·injection hv with e1 _ _
  subst e1
  refine .inr fun hA => ?_
  have e3 : g' = g := Option.some.inj hA
  subst e3
  rw [hb] at hh
  injection hh with hh
  injection hh with _ hh
  exact hne hh.symm
theorem GM.put {g i : Nat} {cur cur' : Array Value} {k c : Nat} (h : GM K w B e (some ⟨g, 0, none⟩) k c L) (hb : Blk w g e cur) (hB : B ≤ g) (hs : B ≤ w.heap.size) (hu : 5 ≠ e) (hi : i < L.length) (hz : 0 < K.z) (hrz : r.size = K.z) (hra : RM K w B r a)
  (hsz : cur'.size = cur.size) (hc : ∀ q s, s < K.z → cur'[q * K.z + s]? = if q = i then r[s]? else cur[q * K.z + s]?) : GM K (w.setRow g cur') B e (some ⟨g, 0, none⟩) k c (L.set i a) := by
 have hgr : w.grownBy (w.setRow g cur') (some g) := ⟨rfl, rfl, rfl, by simp, fun j _ hj => setRow_other w g j cur' (fun e => hj (by rw [e]))⟩
 obtain ⟨R, h1, h2, h3⟩ := h
 have hset : (R.set i r).length = R.length := List.length_set
 have hsizes : ∀ x ∈ R.set i r, x.size = K.z := fun x hx => by
  rcases List.mem_or_eq_of_mem_set hx with h | h
  ·exact h1.2.2 x h
  ·rw [h]; exact hrz
 have hflat : ∀ l : List (Array Value), (∀ r ∈ l, r.size = K.z) → (l.flatMap Array.toList).length = l.length * K.z := by
  intro l
  induction l with
  | nil => intro _; simp
  | cons r l ih =>
   intro h
   rw [List.flatMap_cons, List.length_append, ih fun x hx => h x (List.mem_cons_of_mem _ hx), List.length_cons, Nat.succ_mul]
   have := h r (List.mem_cons_self ..)
   simp [this, Nat.add_comm]
 have hZ : ZO (w.setRow g cur') B e K.z (some ⟨g, 0, none⟩) k c (R.set i r) := by
  refine ⟨⟨by rw [hflat _ hsizes, hset, h1.2.1], ?_⟩, by rw [hset]; exact h1.2.1, hsizes⟩
  rcases h1.1.2 with ⟨hv, _⟩ | ⟨g', cap, cur0, hv, hg', hh, p1, p2, p3, p4⟩
  ·cases hv
  ·injection hv with e1 _ e2
   injection e1 with e1
   injection e1 with e1
   subst e1; subst e2
   rw [hb] at hh
   injection hh with hh
   injection hh with hh
   subst hh
   refine .inr ⟨g, c, cur', rfl, hg', hb.set cur', p1, p2, by rw [hsz]; exact p3, ?_⟩
   refine List.ext_getElem? fun j => ?_
   by_cases hj : j < k * K.z
   ·have hq : j / K.z < R.length := by rw [← h1.2.1]; exact Nat.div_lt_of_lt_mul (by rw [Nat.mul_comm]; exact hj)
    have hm : j % K.z < K.z := Nat.mod_lt _ hz
    have e3 := hc (j / K.z) (j % K.z) hm
    have e4 := flat_at (R.set i r) hsizes (j / K.z) (by rw [hset]; exact hq) (j % K.z) hm
    have e5 := flat_at R h1.2.2 (j / K.z) hq (j % K.z) hm
    rw [Nat.div_add_mod' j K.z] at e3 e4 e5
    rw [List.getElem?_take_of_lt hj, Array.getElem?_toList, e3, e4, List.getElem_set]
    by_cases hqi : i = j / K.z
    ·rw [if_pos hqi.symm, if_pos hqi]
    ·rw [if_neg (Ne.symm hqi), if_neg hqi, ← e5, ← p4, List.getElem?_take_of_lt hj, Array.getElem?_toList]
   ·rw [List.getElem?_eq_none (by rw [List.length_take]; omega), List.getElem?_eq_none (by rw [hflat _ hsizes, hset, ← h1.2.1]; omega)]
 refine ⟨R.set i r, hZ, by rw [hset, List.length_set, h2], fun j p q => ?_⟩
 rw [List.getElem_set, List.getElem_set]
 by_cases hij : i = j
 ·rw [if_pos hij, if_pos hij]
  exact hra.past hb hu hgr hB hs
 ·rw [if_neg hij, if_neg hij]
  exact (h3 j (by rw [← hset]; exact p) (by simpa using q)).past hb hu hgr hB hs
theorem GM.open {i : Nat} (h : GM K w B e A k c L) (hi : i < L.length) (hz : 0 < K.z) (hcs : ∀ v, (K.cs L[i] v).size = K.z) : ∃ g cur A1 n1 c1, A = some ⟨g, 0, none⟩ ∧ Blk w g e cur ∧ B ≤ g ∧ (i + 1) * K.z ≤ cur.size ∧ (∀ s, s < K.z → cur[i * K.z + s]? = (K.cs L[i] (.slice A1 n1 c1))[s]?) ∧ (RB w B A1 n1 c1 (K.by_ L[i]) ∨ OB w B 5 A1 n1 c1 (K.by_ L[i])) := by
 obtain ⟨R, h1, h2, h3⟩ := h
 have hiR : i < R.length := by rw [h2]; exact hi
 obtain ⟨A1, n1, c1, e1, hr⟩ := h3 i hiR hi
 rcases h1.1.2 with ⟨hv, hn⟩ | ⟨g', cap, cur, hv, hg', hh, p1, p2, p3, p4⟩
 ·have := h1.2.1
  omega
 ·injection hv with e2 _ e3
  subst e2; subst e3
  have hik : i + 1 ≤ k := by have := h1.2.1; omega
  have hle : (i + 1) * K.z ≤ k * K.z := Nat.mul_le_mul_right _ hik
  refine ⟨g', cur, A1, n1, c1, rfl, hh, hg', ?_, fun s hs => ?_, hr⟩
  ·rw [p3]
   exact Nat.le_trans hle (Nat.mul_le_mul_right _ p1)
  ·have e5 := flat_at R h1.2.2 i hiR s hs
   rw [Nat.succ_mul] at hle
   rw [← p4, List.getElem?_take_of_lt (by omega), Array.getElem?_toList, e1] at e5
   exact e5
theorem GM.put1 {g i p : Nat} {cur : Array Value} {k c : Nat} {A2 : Option Addr} {n2 c2 : Nat} (h : GM K w B e (some ⟨g, 0, none⟩) k c L) (hb : Blk w g e cur) (hB : B ≤ g) (hs : B ≤ w.heap.size) (hu : 5 ≠ e) (hi : i < L.length) (hz : 0 < K.z) (hp : p < K.z)
  (hcs : ∀ v, (K.cs L[i] v).size = K.z) (hset : ∀ v v', (K.cs L[i] v).setIfInBounds p v' = K.cs L[i] v') (ho : OB w B 5 A2 n2 c2 (K.by_ L[i])) :
  GM K (w.setCell ⟨g, i * K.z + p, none⟩ (.slice A2 n2 c2)) B e (some ⟨g, 0, none⟩) k c L := by
 obtain ⟨g', cur', A1, n1, c1, e1, hb', _, hle, hc, _⟩ := h.open hi hz hcs
 injection e1 with e1
 injection e1 with e1
 subst e1
 unfold Blk at hb'
 rw [hb] at hb'
 injection hb' with hb'
 injection hb' with hb'
 subst hb'
 rw [Nat.succ_mul] at hle
 rw [setCell_eq_setRow w g (i * K.z + p) cur e (0, 0) _ hb]
 have := h.put (r := K.cs L[i] (.slice A2 n2 c2)) (a := L[i]) (cur' := cur.setIfInBounds (i * K.z + p) (.slice A2 n2 c2)) hb hB hs hu hi hz (hcs _) ⟨A2, n2, c2, rfl, .inr ho⟩ (by simp) (fun q s hs => by
  rw [Array.getElem?_setIfInBounds]
  by_cases hq : q = i
  ·subst hq
   rw [if_pos rfl, ← hset (.slice A1 n1 c1) (.slice A2 n2 c2), Array.getElem?_setIfInBounds]
   by_cases hsp : p = s
   ·subst hsp
    rw [if_pos rfl, if_pos rfl, if_pos (by omega), if_pos (by rw [hcs]; exact hp)]
   ·rw [if_neg (by omega), if_neg hsp]
    exact hc s hs
  ·rw [if_neg hq, if_neg]
   intro he
   have : q = i := by
    have a1 : (i * K.z + p) / K.z = i := by rw [Nat.mul_comm, Nat.mul_add_div hz, Nat.div_eq_of_lt hp, Nat.add_zero]
    have a2 : (q * K.z + s) / K.z = q := by rw [Nat.mul_comm, Nat.mul_add_div hz, Nat.div_eq_of_lt hs, Nat.add_zero]
    rw [← a1, ← a2, he]
   exact hq this)
 rw [List.set_getElem_self] at this
 exact this
end
theorem wpList_store_zo {P : Program} {ops : Array Oper} {rest : List Oper} {o : Oper} {a : Act} {w : World} {Q : Exit → Act → World → Prop} (hgd : o.guard = none) {α : Type} {K : RK α} {B : Nat} {e : TypeId} {g i k c : Nat} {L : List α} {cur r : Array Value} {b : α} (ty : TypeId) (x y : Operand) (ho : o.op = .store ty x y)
  (h : GM K w B e (some ⟨g, 0, none⟩) k c L) (hb : Blk w g e cur) (hB : B ≤ g) (hs : B ≤ w.heap.size) (hu : 5 ≠ e) (hi : i < L.length) (hz : 0 < K.z) (hle : (i + 1) * K.z ≤ cur.size) (hrz : r.size = K.z) (h1 : r.all (·.oneCell') = true) (hra : RM K w B r b)
  (hinf : (P.info? ty).map (·.size) = some K.z) (hx : a.eval x = .pointer (some ⟨g, i * K.z, none⟩)) (hy : a.eval y = .agg r)
  (hk : ∀ cs', GM K (w.setRow g cs') B e (some ⟨g, 0, none⟩) k c (L.set i b) → wpList P ops Q rest (a.put o.dst undef) (w.setRow g cs')) : wpList P ops Q (o :: rest) a w := by
 refine wpList_plain hgd fun K' hK => ?_
 rw [Nat.succ_mul] at hle
 have hrl : r.toList.length = K.z := by simpa using hrz
 have := run_storeCells_at (P := P) g (i * K.z) e r.toList 0 cur w hb (by rw [hrl]; omega) (fun v hv => (Array.all_eq_true_iff_forall_mem.1 h1) v (by simpa using hv))
 rw [Nat.add_zero, hrl] at this
 have hrun : (storeVar ty ⟨g, i * K.z, none⟩ (.agg r)).run P w = .ok () (w.setRow g (cur.toList.take (i * K.z) ++ r.toList ++ cur.toList.drop (i * K.z + K.z)).toArray) := by
  cases hq : P.info? ty with
  | none => simp [hq] at hinf
  | some j =>
   have hs : r.size = j.size := by simp [hq] at hinf; omega
   generalize w.setRow g _ = W at this ⊢
   simp [storeVar, sizeOf, typeInfo, hq, hs, this, Value.cells]
 have hG := h.put (r := r) (a := b) (cur' := (cur.toList.take (i * K.z) ++ r.toList ++ cur.toList.drop (i * K.z + K.z)).toArray) hb hB hs hu hi hz hrz hra (by simp [hrl]; omega) (fun q s hs => by
  simp only [List.getElem?_toArray]
  have hl1 : (cur.toList.take (i * K.z)).length = i * K.z := by rw [List.length_take]; simp; omega
  by_cases hq : q = i
  ·subst hq
   rw [if_pos rfl, List.append_assoc, List.getElem?_append_right (by omega), hl1, Nat.add_sub_cancel_left, List.getElem?_append_left (by omega), Array.getElem?_toList]
  ·rw [if_neg hq]
   rcases Nat.lt_or_ge q i with hlt | hge
   ·have : (q + 1) * K.z ≤ i * K.z := Nat.mul_le_mul_right _ hlt
    rw [Nat.succ_mul] at this
    rw [List.append_assoc, List.getElem?_append_left (by omega), List.getElem?_take_of_lt (by omega), Array.getElem?_toList]
   ·have : (i + 1) * K.z ≤ q * K.z := Nat.mul_le_mul_right _ (by omega)
    rw [Nat.succ_mul] at this
    rw [List.getElem?_append_right (by rw [List.length_append]; omega), List.length_append, hl1, hrl, List.getElem?_drop, Array.getElem?_toList]
    congr 1
    omega)
 unfold Oper.wp execOp
 simp only [ho, hx, hy, Instr.storeAt, Instr.sureAddr, Sem.run_bind, Sem.run_pure, Result.andThen_ok, hrun]
 exact hK _ _ (hk _ hG)
set_option maxRecDepth 100000
set_option linter.unusedVariables false
set_option maxHeartbeats 1000000 in
theorem cloneSegs_any (A : Option Addr) (n c : Nat) (L : List Sg) (B : Nat) (w : World) (h : ZR sgK w B A n c L) (hB : B ≤ w.heap.size) (hn : n ≤ 65536) :
  Calls Try.prog 24 #[.slice A n c] w fun e w' => ∃ A2 c2, e = .returned (.slice A2 n c2) ∧ GM sgK w' B 55 A2 n c2 L ∧ Grow w w' := by
 rcases A with _ | a
 ·have hl : n = 0 := by
   rcases Nat.eq_zero_or_pos n with h0 | h0
   ·exact h0
   ·obtain ⟨_, _, e, _⟩ := h.pos h0
    cases e
  subst hl
  have e2 : L = [] := List.eq_nil_of_length_eq_zero h.len.symm
  subst e2
  clear h
  have heq : ∀ w, (binOp .eql 29 (.slice none 0 c) (.slice none 0 0)).run Try.prog w = .ok (.bool true) w := fun w => by rfl
  go_enter Try.func24, Try.ntmps24
  go_wp2
  go_ret
  exact ⟨none, 0, rfl, ⟨[], ZO.nil, rfl, fun j h => absurd h (by simp)⟩, Grow.refl _⟩
 ·obtain ⟨R, h1, h2, h3⟩ := h
  have heq : ∀ w, (binOp .eql 29 (.slice (some a) n c) (.slice none 0 0)).run Try.prog w = .ok (.bool false) w := fun w => by rfl
  have hc := h1.cap
  have hm := h1.max
  unfold maxLen at hm
  have HO := hid (ZO.room w w.heap.size 55 0 10 #[] (Nat.zero_le _) (Nat.le_refl _) (by simp))
  have HG1 := hid (Grow.of_alloc w (.cells #[] 55))
  have HR := hid (h1.belowAt (Grow.of_alloc w (.cells #[] 55)) hB)
  have HC : Hid (∀ r ∈ R, r.all (·.oneCell') = true) := hid fun r hr => by
   obtain ⟨j, hj, rfl⟩ := List.getElem_of_mem hr
   obtain ⟨A1, n1, c1, e1, _⟩ := h3 j hj (by omega)
   rw [e1]
   simp [sgK, sgC, Value.oneCell']
  have H3 := hid h3
  have HB := hid hB
  clear h1 h3 hB
  go_enter Try.func24, Try.ntmps24
  go_wp2_with (at_builtin; refine wpList_appendZs (w.alloc (.cells #[] 55)) rfl (.tmp 5) (.tmp 6) 29 rfl w.heap.size 55 (.agg #[.int .u32 0, .int .u32 0, .int .u64 0, .int .u64 0, .int .u64 0, .int .u64 0, .int .i64 0, .int .u64 0, .int .u64 0, .slice none 0 0]) 10 88 Try.underlying29 (by kernel_rfl) rfl (by omega) _ 0 0 [] rfl HO.out B a n c R rfl HR.out HC.out (by unfold maxLen; omega) (by omega) HG1.out.size (by simp) ?_; intro A5 c5 w9 ho9 hb9; refine Hid.out ?_)
  have HO9 := hid ho9
  have HB9 : Hid (Grow w w9) := HG1.out.trans' hb9
  clear ho9 hb9 HO HR HG1
  refine hid ?_
  go_wp2
  go_ret
  have h9 := HO9.out
  rw [Nat.zero_add, List.nil_append] at h9
  exact ⟨A5, c5, rfl, GM.of (h9.mono HB.out) h2 H3.out (HB9.out.mono HB.out), HB9.out⟩
set_option maxHeartbeats 1000000 in
theorem cloneSecs_any (A : Option Addr) (n c : Nat) (L : List Se) (B : Nat) (w : World) (h : ZR seK w B A n c L) (hB : B ≤ w.heap.size) (hn : n ≤ 65536) :
  Calls Try.prog 25 #[.slice A n c] w fun e w' => ∃ A2 c2, e = .returned (.slice A2 n c2) ∧ GM seK w' B 53 A2 n c2 L ∧ Grow w w' := by
 rcases A with _ | a
 ·have hl : n = 0 := by
   rcases Nat.eq_zero_or_pos n with h0 | h0
   ·exact h0
   ·obtain ⟨_, _, e, _⟩ := h.pos h0
    cases e
  subst hl
  have e2 : L = [] := List.eq_nil_of_length_eq_zero h.len.symm
  subst e2
  clear h
  have heq : ∀ w, (binOp .eql 30 (.slice none 0 c) (.slice none 0 0)).run Try.prog w = .ok (.bool true) w := fun w => by rfl
  go_enter Try.func25, Try.ntmps25
  go_wp2
  go_ret
  exact ⟨none, 0, rfl, ⟨[], ZO.nil, rfl, fun j h => absurd h (by simp)⟩, Grow.refl _⟩
 ·obtain ⟨R, h1, h2, h3⟩ := h
  have heq : ∀ w, (binOp .eql 30 (.slice (some a) n c) (.slice none 0 0)).run Try.prog w = .ok (.bool false) w := fun w => by rfl
  have hc := h1.cap
  have hm := h1.max
  unfold maxLen at hm
  have HO := hid (ZO.room w w.heap.size 53 0 13 #[] (Nat.zero_le _) (Nat.le_refl _) (by simp))
  have HG1 := hid (Grow.of_alloc w (.cells #[] 53))
  have HR := hid (h1.belowAt (Grow.of_alloc w (.cells #[] 53)) hB)
  have HC : Hid (∀ r ∈ R, r.all (·.oneCell') = true) := hid fun r hr => by
   obtain ⟨j, hj, rfl⟩ := List.getElem_of_mem hr
   obtain ⟨A1, n1, c1, e1, _⟩ := h3 j hj (by omega)
   rw [e1]
   simp [seK, seC, Value.oneCell']
  have H3 := hid h3
  have HB := hid hB
  clear h1 h3 hB
  go_enter Try.func25, Try.ntmps25
  go_wp2_with (at_builtin; refine wpList_appendZs (w.alloc (.cells #[] 53)) rfl (.tmp 5) (.tmp 6) 30 rfl w.heap.size 53 (.agg #[.int .u32 0, .int .u32 0, .int .u64 0, .int .u64 0, .int .u64 0, .int .u32 0, .int .u32 0, .int .u64 0, .int .u64 0, .int .i64 0, .int .u64 0, .int .u64 0, .slice none 0 0]) 13 104 Try.underlying30 (by kernel_rfl) rfl (by omega) _ 0 0 [] rfl HO.out B a n c R rfl HR.out HC.out (by unfold maxLen; omega) (by omega) HG1.out.size (by simp) ?_; intro A5 c5 w9 ho9 hb9; refine Hid.out ?_)
  have HO9 := hid ho9
  have HB9 : Hid (Grow w w9) := HG1.out.trans' hb9
  clear ho9 hb9 HO HR HG1
  refine hid ?_
  go_wp2
  go_ret
  have h9 := HO9.out
  rw [Nat.zero_add, List.nil_append] at h9
  exact ⟨A5, c5, rfl, GM.of (h9.mono HB.out) h2 H3.out (HB9.out.mono HB.out), HB9.out⟩
set_option linter.unusedVariables false
def KeepC (g j : Nat) (w W : World) : Prop := Kept (fun k => k ≠ g) w W ∧ W.cell? ⟨g, j, none⟩ = w.cell? ⟨g, j, none⟩
theorem leap_keepC (g j : Nat) : Leap (KeepC g j) := ⟨fun w => ⟨(leap_kept _).refl w, rfl⟩, fun a b c h k => ⟨(leap_kept _).trans a b c h.1 k.1, k.2.trans h.2⟩⟩
theorem KeepC.of_grow {g j : Nat} {w W : World} (h : Grow w W) (hg : g < w.heap.size) : KeepC g j w W := ⟨Kept.of_grow h, Below.cell h hg⟩
theorem KeepC.of_set {g j i : Nat} {w : World} (hne : i ≠ j) (v : Value) : KeepC g j w (w.setCell ⟨g, i, none⟩ v) :=
 ⟨⟨by simp, fun k _ hk => Deep.blk_setCell_other _ _ _ _ hk⟩, World.cell?_setCell_other _ _ _ _ (by intro h; injection h with _ h; first | exact hne h | exact hne h.symm)⟩
theorem grown_set' (w : World) (a : Addr) (v : Value) : w.grownBy (w.setCell a v) (some a.block) := ⟨rfl, rfl, rfl, by simp, fun k _ hk => Deep.blk_setCell_other _ _ _ _ (fun e => hk (by rw [e]))⟩
theorem Blk.apart {w : World} {g g' : Nat} {t t' : TypeId} {cs cs' : Array Value} (h : Blk w g t cs) (h' : Blk w g' t' cs') (ht : t ≠ t') : g ≠ g' := fun e => by
 subst e
 unfold Blk at h h'
 rw [h] at h'
 injection h' with h'
 injection h' with _ h'
 exact ht h'
theorem bools_blk {w : World} {g n : Nat} {t : TypeId} {f : Nat → Value} (h : w.rowIs g t n f) : ∃ cs, Blk w g t cs := by
 obtain ⟨c, h1, _⟩ := h
 exact ⟨c, h1⟩
structure SI (w W : World) (gm gr gg : Nat) (mc zc : Array Value) (n1 n2 : Nat) (A3 : Option Addr) (c3 : Nat) (A4 : Option Addr) (c4 : Nat) (G : Nat → Bool) (L1 : List Sg) (L2 : List Se) : Prop where
 b : Blk W gm 32 mc
 r : Blk W gr 32 zc
 g : W.rowIs gg 4 n2 (bvl G)
 s1 : GM sgK W w.heap.size 55 A3 n1 c3 L1
 s2 : GM seK W w.heap.size 53 A4 n2 c4 L2
 gw : Grow w W
section
variable {w W W' : World} {gm gr gg : Nat} {mc zc : Array Value} {n1 n2 : Nat} {A3 : Option Addr} {c3 : Nat} {A4 : Option Addr} {c4 : Nat} {G : Nat → Bool} {L1 : List Sg} {L2 : List Se}
theorem SI.grow (h : SI w W gm gr gg mc zc n1 n2 A3 c3 A4 c4 G L1 L2) (hg : Grow W W') : SI w W' gm gr gg mc zc n1 n2 A3 c3 A4 c4 G L1 L2 :=
 ⟨h.b.grow hg, h.r.grow hg, bools_grow h.g hg, h.s1.keep hg h.gw.size, h.s2.keep hg h.gw.size, h.gw.trans hg⟩
theorem SI.seg {g3 : Nat} (h : SI w W gm gr gg mc zc n1 n2 (some ⟨g3, 0, none⟩) c3 A4 c4 G L1 L2) {cur : Array Value} (hb : Blk W g3 55 cur) (hB : w.heap.size ≤ g3) {i : Nat} (hi : i < L1.length) {A5 : Option Addr} {n5 c5 : Nat} (ho : OB W w.heap.size 5 A5 n5 c5 L1[i].pl.own) :
  SI w (W.setCell ⟨g3, i * 10 + 9, none⟩ (.slice A5 n5 c5)) gm gr gg mc zc n1 n2 (some ⟨g3, 0, none⟩) c3 A4 c4 G L1 L2 := by
 obtain ⟨gc, hgc⟩ := bools_blk h.g
 exact ⟨h.b.cellset (h.b.apart hb (by decide)) _, h.r.cellset (h.r.apart hb (by decide)) _, h.g.of_block (Deep.blk_setCell_other _ _ _ _ (hgc.apart hb (by decide))),
  h.s1.put1 (p := 9) hb hB h.gw.size (by decide) hi (by decide) (by decide) (fun _ => rfl) (fun _ _ => rfl) ho,
  h.s2.past hb (by decide) (by decide) (grown_set' _ _ _) hB h.gw.size, h.gw.cellset hB _ _⟩
theorem SI.sec {g4 : Nat} (h : SI w W gm gr gg mc zc n1 n2 A3 c3 (some ⟨g4, 0, none⟩) c4 G L1 L2) {cur : Array Value} (hb : Blk W g4 53 cur) (hB : w.heap.size ≤ g4) {i : Nat} (hi : i < L2.length) {A5 : Option Addr} {n5 c5 : Nat} (ho : OB W w.heap.size 5 A5 n5 c5 L2[i].pl.own) :
  SI w (W.setCell ⟨g4, i * 13 + 12, none⟩ (.slice A5 n5 c5)) gm gr gg mc zc n1 n2 A3 c3 (some ⟨g4, 0, none⟩) c4 G L1 L2 := by
 obtain ⟨gc, hgc⟩ := bools_blk h.g
 exact ⟨h.b.cellset (h.b.apart hb (by decide)) _, h.r.cellset (h.r.apart hb (by decide)) _, h.g.of_block (Deep.blk_setCell_other _ _ _ _ (hgc.apart hb (by decide))),
  h.s1.past hb (by decide) (by decide) (grown_set' _ _ _) hB h.gw.size,
  h.s2.put1 (p := 12) hb hB h.gw.size (by decide) hi (by decide) (by decide) (fun _ => rfl) (fun _ _ => rfl) ho, h.gw.cellset hB _ _⟩
theorem SI.row {g4 : Nat} (h : SI w W gm gr gg mc zc n1 n2 A3 c3 (some ⟨g4, 0, none⟩) c4 G L1 L2) {cur : Array Value} (hb : Blk W g4 53 cur) (hB : w.heap.size ≤ g4) {cs : Array Value} {L2' : List Se} (h2 : GM seK (W.setRow g4 cs) w.heap.size 53 (some ⟨g4, 0, none⟩) n2 c4 L2') :
  SI w (W.setRow g4 cs) gm gr gg mc zc n1 n2 A3 c3 (some ⟨g4, 0, none⟩) c4 G L1 L2' := by
 obtain ⟨gc, hgc⟩ := bools_blk h.g
 have hgr : W.grownBy (W.setRow g4 cs) (some g4) := ⟨rfl, rfl, rfl, by simp, fun j _ hj => setRow_other W g4 j cs (fun e => hj (by rw [e]))⟩
 exact ⟨h.b.other (h.b.apart hb (by decide)) _, h.r.other (h.r.apart hb (by decide)) _, h.g.of_block (setRow_other W g4 gg cs (hgc.apart hb (by decide))),
  h.s1.past hb (by decide) (by decide) hgr hB h.gw.size, h2, h.gw.set hB _⟩
end
def waits (ops : Array Oper) : Nat → Nat → Nat → Bool
 | 0, _, _ => false
 | n + 1, z, i => ((ops[z]?).map fun o => o.after.any fun e => Region.binds .any e && (e.on == i || waits ops n e.on i)).getD false
def Closed (ops : Array Oper) (listed : Array Bool) : Prop := ∀ j o, ops[j]? = some o → listed.getD j false = true → ∀ e ∈ o.after, Region.binds .any e = true → listed.getD e.on false = true
theorem Closed.waits {ops : Array Oper} {listed : Array Bool} (h : Closed ops listed) {i : Nat} : ∀ n z, waits ops n z i = true → listed.getD z false = true → listed.getD i false = true
 | 0, _, hw, _ => by simp [Go.Proofs.Ytfbimboemahhhaa.waits] at hw
 | n + 1, z, hw, hz => by
  unfold Go.Proofs.Ytfbimboemahhhaa.waits at hw
  cases ho : ops[z]? with
  | none => simp [ho] at hw
  | some o =>
   simp only [ho, Option.map_some, Option.getD_some, Array.any_eq_true, Bool.and_eq_true, Bool.or_eq_true, beq_iff_eq] at hw
   obtain ⟨q, hq, hb, hi⟩ := hw
   have h1 := h z o ho hz _ (Array.getElem_mem hq) hb
   rcases hi with hi | hi
   ·rw [← hi]; exact h1
   ·exact h.waits n _ hi h1
theorem Closed.set {ops : Array Oper} {listed : Array Bool} (h : Closed ops listed) {j : Nat} (hj : j ∈ Region.ready .any ops listed) : Closed ops (listed.setIfInBounds j true) := fun k o ho hk e he hb => by
 by_cases hjk : j = k
 ·subst hjk
  obtain ⟨_, o', ho', hall⟩ := mem_ready.1 hj
  rw [ho] at ho'
  injection ho' with ho'
  subst ho'
  exact getD_set_true (hall e he hb)
 ·rw [getD_set_ne false hjk] at hk
  exact getD_set_true (h k o ho hk e he hb)
theorem getD_rep (n i : Nat) : (Array.replicate n false).getD i false = false := by
 rw [Array.getD_eq_getD_getElem?, Array.getElem?_replicate]
 split <;> rfl
theorem Closed.start (ops : Array Oper) : Closed ops (Array.replicate ops.size false) := fun k o _ hk => by rw [getD_rep] at hk; cases hk
def wpAnyZ (P : Program) (ops : Array Oper) (Q : Exit → Act → World → Prop) (S : World → Prop) (z : Nat) : Nat → Array Bool → Act → World → Prop
 | 0, listed, a, w => Region.ready .any ops listed = [] ∧ Q .normal a w
 | fuel + 1, listed, a, w => (Region.ready .any ops listed = [] → Q .normal a w) ∧
  ∀ i ∈ Region.ready .any ops listed, wpOp P ops Q i (fun a' w' => (i ≠ z → S w') ∧ wpAnyZ P ops Q S z fuel (listed.setIfInBounds i true) a' w') a w
section
variable {P : Program} {ops : Array Oper} {Q : Exit → Act → World → Prop} {S S' : World → Prop} {z : Nat} {Y : World → World → Prop} {R : Act → World → Prop}
theorem wpAny_of_Z : ∀ (fuel : Nat) (listed : Array Bool) (a : Act) (w : World), wpAnyZ P ops Q S z fuel listed a w → wpAny P .any ops Q fuel listed a w
 | 0, _, _, _, h => h
 | fuel + 1, _, _, _, h => ⟨h.1, fun i hi => wpOp_mono (fun a' w' h' => wpAny_of_Z fuel _ a' w' h'.2) (h.2 i hi)⟩
theorem wpAnyZ_weaken (hS : ∀ w, S' w → S w) : ∀ (fuel : Nat) (listed : Array Bool) (a : Act) (w : World), wpAnyZ P ops Q S' z fuel listed a w → wpAnyZ P ops Q S z fuel listed a w
 | 0, _, _, _, h => h
 | fuel + 1, _, _, _, h => ⟨h.1, fun i hi => wpOp_mono (fun a' w' h' => ⟨fun hz => hS w' (h'.1 hz), wpAnyZ_weaken hS fuel _ a' w' h'.2⟩) (h.2 i hi)⟩
theorem wpAnyZ_all {rs : List Nat} {fuel : Nat} {listed : Array Bool} {a : Act} {w : World} (hr : Region.ready .any ops listed = rs) (hne : rs ≠ [])
  (h : ∀ i ∈ rs, wpOp P ops Q i (fun a' w' => (i ≠ z → S w') ∧ wpAnyZ P ops Q S z fuel (listed.setIfInBounds i true) a' w') a w) : wpAnyZ P ops Q S z (fuel + 1) listed a w :=
 ⟨fun h0 => absurd (hr ▸ h0) hne, hr ▸ h⟩
theorem wpAnyZ_first {i : Nat} {oi : Oper} {v : Value} (hi : ops[i]? = some oi) (hsel : ∀ (j : Nat) (o : Oper) cs b, ops[j]? = some o → o.op ≠ .select cs b)
  (hQ : ∀ c a w, Q (.panic c) (a.put oi.dst v) w → Q (.panic c) a w) {n : Nat} (hz : waits ops n z i = true) :
  ∀ (fuel : Nat) (listed : Array Bool) (a : Act) (w : World), Closed ops listed →
   (∀ j oj, ops[j]? = some oj → j ≠ i → listed.getD j true = false → (∀ e ∈ oj.after, Region.binds .any e = true → e.on ≠ i) → oi.apart ops oj = true) →
   i ∈ Region.ready .any ops listed → YieldsIf P ops S oi v a → S w →
   wpAnyZ P ops Q S z fuel (listed.setIfInBounds i true) (a.put oi.dst v) w → wpAnyZ P ops Q S z (fuel + 1) listed a w := by
 intro fuel
 induction fuel with
 | zero =>
  intro listed a w _ _ hr hy hS H
  refine ⟨fun h => (by rw [h] at hr; cases hr), fun j hj => ?_⟩
  by_cases hji : j = i
  ·subst hji; exact hy.wpOp hi hS ⟨fun _ => hS, H⟩
  ·have := ready_mono hj hji
   rw [H.1] at this
   cases this
 | succ fuel ih =>
  intro listed a w hcl hfree hr hy hS H
  refine ⟨fun h => (by rw [h] at hr; cases hr), fun j hj => ?_⟩
  by_cases hji : j = i
  ·subst hji; exact hy.wpOp hi hS ⟨fun _ => hS, H⟩
  ·have hil : listed.getD i false = false := by
    have h0 := (mem_ready.1 hr).1
    rcases Nat.lt_or_ge i listed.size with h' | h'
    ·simp [h'] at h0 ⊢; exact h0
    ·simp [Array.getElem?_eq_none h']
   have hjz : j ≠ z := fun e => by
    subst e
    have h1 := (hcl.set hj).waits n j hz (by
     obtain ⟨h0, o, ho, _⟩ := mem_ready.1 hj
     rcases Nat.lt_or_ge j listed.size with h' | h'
     ·simp [h']
     ·simp [Array.getElem?_eq_none h'] at h0)
    rw [getD_set_ne false hji, hil] at h1
    cases h1
   have h1 := H.2 j (ready_mono hj hji)
   obtain ⟨hjun, oj, hoj, hall⟩ := mem_ready.1 hj
   have hnot : ∀ e ∈ oj.after, Region.binds .any e = true → e.on ≠ i := fun e he hb heq => by
    have h1 := hall e he hb
    rw [heq, hil] at h1
    cases h1
   have h2 := wpOp_putIf hoj (hfree j oj hoj hji hjun hnot) (fun cs b => hsel i oi cs b hi) (fun cs b => hsel j oj cs b hoj) hQ hy h1
   have hfree' : ∀ k ok, ops[k]? = some ok → k ≠ i → (listed.setIfInBounds j true).getD k true = false →
     (∀ e ∈ ok.after, Region.binds .any e = true → e.on ≠ i) → oi.apart ops ok = true := fun k ok hk hki hun hno => by
    refine hfree k ok hk hki ?_ hno
    by_cases hjk : j = k
    ·subst hjk; exact hjun
    ·rw [getD_set_ne true hjk] at hun; exact hun
   refine wpOp_mono (fun a' w' h3 => ⟨h3.2.1, ih (listed.setIfInBounds j true) a' w' (hcl.set hj) hfree' (ready_mono hr (Ne.symm hji)) h3.1 (h3.2.1 hjz) ?_⟩) h2
   rw [Array.setIfInBounds_comm _ _ hji]
   exact h3.2.2
attribute [local semireducible] wpChain
theorem wpChainZ_sound (hy : Leap Y) (hs : Region.noSelect ops = true) (hQ : ∀ c a w, ¬ Q (.panic c) a w) (n : Nat) : ∀ (c : Chain) (listed : Array Bool) (a : Act) (w : World), Closed ops listed →
  (∀ a w, R a w → wpAnyZ P ops Q (Y w) z n (Chain.after listed c) a w) →
  Chain.ok ops c listed = true → c.all (fun p => !p.2 || waits ops ops.size z p.1) = true → wpChain P ops Q Y R c a w → wpAnyZ P ops Q (Y w) z (n + c.length) listed a w
 | [], listed, a, w, _, hR, _, _, h => hR a w h
 | (i, true) :: r, listed, a, w, hcl, hR, hB, hW, h => by
  simp only [Chain.ok, Bool.and_eq_true] at hB
  simp only [List.all_cons, Bool.and_eq_true, Bool.not_true, Bool.false_or] at hW
  obtain ⟨o, ho, hh⟩ := h
  rw [List.length_cons, ← Nat.add_assoc]
  have hr : i ∈ Region.ready .any ops listed := by simpa using hB.1.2
  rcases hh with ⟨hw, v, hv, hr'⟩ | ⟨hw, hr'⟩
  ·exact wpAnyZ_first ho (Region.noSelect_spec hs) (fun c a w h => absurd h (hQ _ _ _)) hW.1 _ listed a w hcl (Region.free_spec ho hB.1.1) hr (.inl ⟨hw, hv⟩) (hy.refl w) (wpChainZ_sound hy hs hQ n r _ _ w (hcl.set hr) hR hB.2 hW.2 hr')
  ·exact wpAnyZ_first ho (Region.noSelect_spec hs) (fun c a w h => absurd h (hQ _ _ _)) hW.1 _ listed a w hcl (Region.free_spec ho hB.1.1) hr (.inr ⟨hw, rfl⟩) (hy.refl w) (wpChainZ_sound hy hs hQ n r _ _ w (hcl.set hr) hR hB.2 hW.2 hr')
 | (i, false) :: r, listed, a, w, hcl, hR, hB, hW, h => by
  simp only [Chain.ok, Bool.and_eq_true] at hB
  simp only [List.all_cons, Bool.and_eq_true] at hW
  rw [List.length_cons, ← Nat.add_assoc]
  have hr : Region.ready .any ops listed = [i] := by simpa using hB.1
  refine wpAnyZ_all (rs := [i]) hr (by simp) ?_
  intro k hk
  obtain rfl : k = i := by simpa using hk
  exact wpOp_mono (fun a' w' h' => ⟨fun _ => h'.1, wpAnyZ_weaken (fun W hW => hy.trans _ _ _ h'.1 hW) _ _ _ _ (wpChainZ_sound hy hs hQ n r _ a' w' (hcl.set (by rw [hr]; simp)) hR hB.2 hW.2 h'.2)⟩) h
theorem wp_region_last (hy : Leap Y) {id : Nat} {a : Act} {w : World} (c : Chain) (z : Nat) (hm : P.follows .mixedOrders = true) (hs : Region.noSelect ops = true)
  (hB : (Chain.ok ops c (Array.replicate ops.size false) && (Region.ready .any ops (Chain.after (Array.replicate ops.size false) c) == [z]) && (c.length + 1 == ops.size) &&
   (Region.ready .any ops ((Chain.after (Array.replicate ops.size false) c).setIfInBounds z true) == []) && c.all (fun p => !p.2 || waits ops ops.size z p.1)) = true)
  (h : wpChain P ops (NoPanic Q) Y (fun a w => wpOp P ops (NoPanic Q) z (fun a' w' => Q .normal a' w') a w) c a w.drew) : (Code.region id ops true).wp P Q a w := by
 simp only [Bool.and_eq_true] at hB
 obtain ⟨⟨⟨⟨b1, b2⟩, b3⟩, b4⟩, b5⟩ := hB
 have hl : c.length + 1 = ops.size := by simpa using b3
 refine wp_region_noPanic (wp_region_any hm (wpAny_of_Z (S := Y w.drew) (z := z) _ _ _ _ ?_))
 have := wpChainZ_sound (P := P) (ops := ops) (Q := NoPanic Q) (Y := Y) (z := z) (R := fun a w => wpOp P ops (NoPanic Q) z (fun a' w' => Q .normal a' w') a w) hy hs (fun _ _ _ h => h) 1 c (Array.replicate ops.size false) a w.drew (Closed.start ops)
  (fun a w h => by
   have hr : Region.ready .any ops (Chain.after (Array.replicate ops.size false) c) = [z] := by simpa using b2
   refine wpAnyZ_all (fuel := 0) (rs := [z]) hr (by simp) ?_
   intro k hk
   obtain rfl : k = z := by simpa using hk
   exact wpOp_mono (fun a' w' h' => ⟨fun e => absurd rfl e, by simpa using b4, h'⟩) h) b1 b5 h
 rw [Nat.add_comm, hl] at this
 exact this
theorem last_op {l rest : List Oper} {i : Nat} {a : Act} {w : World} {o : Oper} (hi : l.drop i = o :: rest) (hw : Region.wanted o (yielded l.toArray a.tmps) = true)
  (h : ∀ K : Act → World → Prop, (∀ a' w', R a' w' → K a' w') → o.wp P a w K Q) : wpOp P l.toArray Q i (fun a' w' => R a' w') a w := by
 unfold wpOp
 simp only [at_of_drop hi, hw, if_true]
 exact .inl (h _ fun a' w' h1 => h1)
end
end Go.Proofs.Ytfbimboemahhhaa
