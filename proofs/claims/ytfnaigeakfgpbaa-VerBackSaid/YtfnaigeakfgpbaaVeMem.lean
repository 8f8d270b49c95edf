/-
  Definitions and needs in memory: slices of structs that hold slices of structs (of one number, or of four); and a slice that is filled one by one. No program's function is spoken of here.
-/
import Derived.Test.YtfnaigeakfgpbaaVeMath
import Derived.Test.YtfnaigeakfgpbaaZapp
import Derived.Test.YtfnaigeakfgpbaaRoom
namespace Go.Proofs.Ytfnaigeakfgpbaa
open Go.RowKit

/-- A kind in memory: a part's cells, the cells of one with its parts' slice, how many each has, and the types. -/
structure VM where
  K : VK
  pr : List Nat → Array Value
  hr : List Nat → Value → Array Value
  zc : Nat
  zh : Nat
  te : TypeId
def vmD : VM := ⟨vkD, fun x => #[.int .u32 (x.getD 0 0 : Nat)], fun h s => #[.int .u16 (h.getD 0 0 : Nat), .int .u16 (h.getD 1 0 : Nat), .int .u32 (h.getD 2 0 : Nat), s], 1, 4, 52⟩
def vmN : VM := ⟨vkN, fun x => #[.int .u32 (x.getD 0 0 : Nat), .int .u16 (x.getD 1 0 : Nat), .int .u16 (x.getD 2 0 : Nat), .int .u32 (x.getD 3 0 : Nat)], fun h s => #[.int .u32 (h.getD 0 0 : Nat), s], 4, 2, 68⟩
def VM.Is (M : VM) : Prop := M = vmD ∨ M = vmN
theorem VM.Is.k {M : VM} (h : M.Is) : M.K.Is := by
  rcases h with rfl | rfl
  · exact .inl rfl
  · exact .inr rfl
theorem VM.Is.row {M : VM} (h : M.Is) (x : List Nat) : (M.pr x).size = M.zc ∧ (M.pr x).all (·.oneCell') = true := by
  rcases h with rfl | rfl <;> exact ⟨rfl, by simp [vmD, vmN, Value.oneCell']⟩
theorem VM.Is.head {M : VM} (h : M.Is) (x : List Nat) (A : Option Addr) (n c : Nat) : (M.hr x (.slice A n c)).size = M.zh ∧ (M.hr x (.slice A n c)).all (·.oneCell') = true := by
  rcases h with rfl | rfl <;> exact ⟨rfl, by simp [vmD, vmN, Value.oneCell']⟩

/-- The row r reads as e. -/
def VeR (M : VM) (w : World) (B : Nat) (r : Array Value) (e : Ve) : Prop := ∃ A n c, r = M.hr e.h (.slice A n c) ∧ ZS w B M.zc A n c (e.p.map M.pr)
def VeRs (M : VM) (w : World) (B : Nat) (R : List (Array Value)) (L : List Ve) : Prop := R.length = L.length ∧ ∀ j (h : j < R.length) (h' : j < L.length), VeR M w B R[j] L[j]
/-- The slice (A, n, c) reads as L. -/
def ZV (M : VM) (w : World) (B : Nat) (A : Option Addr) (n c : Nat) (L : List Ve) : Prop := ∃ R, ZS w B M.zh A n c R ∧ VeRs M w B R L

section
variable {M : VM} {w w' : World} {B B0 B' : Nat} {A : Option Addr} {n c : Nat} {L : List Ve} {R : List (Array Value)} {r : Array Value} {s : Ve}
theorem VeR.belowAt (h : VeR M w B r s) (hb : Below B0 w w') (hB : B ≤ B0) : VeR M w' B r s := by
  obtain ⟨A, n, c, e, h1⟩ := h
  exact ⟨A, n, c, e, h1.belowAt hb hB⟩
theorem VeR.more (h : VeR M w B r s) (hB : B ≤ B') : VeR M w B' r s := by
  obtain ⟨A, n, c, e, h1⟩ := h
  exact ⟨A, n, c, e, h1.more hB⟩
theorem VeRs.belowAt (h : VeRs M w B R L) (hb : Below B0 w w') (hB : B ≤ B0) : VeRs M w' B R L := ⟨h.1, fun j h1 h2 => (h.2 j h1 h2).belowAt hb hB⟩
theorem VeRs.more (h : VeRs M w B R L) (hB : B ≤ B') : VeRs M w B' R L := ⟨h.1, fun j h1 h2 => (h.2 j h1 h2).more hB⟩
theorem ZV.belowAt (h : ZV M w B A n c L) (hb : Below B0 w w') (hB : B ≤ B0) : ZV M w' B A n c L := by
  obtain ⟨R, h1, h2⟩ := h
  exact ⟨R, h1.belowAt hb hB, h2.belowAt hb hB⟩
theorem ZV.more (h : ZV M w B A n c L) (hB : B ≤ B') : ZV M w B' A n c L := by
  obtain ⟨R, h1, h2⟩ := h
  exact ⟨R, h1.more hB, h2.more hB⟩
theorem ZV.grow (h : ZV M w w.heap.size A n c L) (hg : Grow w w') : ZV M w' w'.heap.size A n c L := (h.belowAt hg (Nat.le_refl _)).more hg.size
theorem ZV.drew (h : ZV M w B A n c L) : ZV M w.drew B A n c L := h.belowAt (B0 := B) ⟨rfl, rfl, rfl, Nat.le_refl _, fun _ _ => rfl⟩ (Nat.le_refl _)
theorem ZV.len (h : ZV M w B A n c L) : n = L.length := by
  obtain ⟨R, h1, h2⟩ := h
  exact h1.len.trans h2.1
theorem ZV.cap (h : ZV M w B A n c L) : n ≤ c := by
  obtain ⟨R, h1, h2⟩ := h
  exact h1.cap
theorem ZV.max (h : ZV M w B A n c L) : c ≤ maxLen := by
  obtain ⟨R, h1, h2⟩ := h
  exact h1.max
theorem ZV.nil : ZV M w B none 0 0 [] := ⟨[], ZS.nil, rfl, fun j h => absurd h (by simp)⟩
theorem ZV.pos (h : ZV M w B A n c L) (hn : 0 < n) : ∃ b off, A = some ⟨b, off, none⟩ := by
  obtain ⟨R, h1, h2⟩ := h
  obtain ⟨b, off, e, _⟩ := h1.pos hn
  exact ⟨b, off, e⟩
/-- One of them, as a row; the row is read whole, or cell by cell. -/
theorem ZV.row (h : ZV M w B A n c L) : ∃ R, ZS w B M.zh A n c R ∧ ∀ k (hk : k < L.length), ∃ (hR : k < R.length), ∃ A1 n1 c1, R[k] = M.hr L[k].h (.slice A1 n1 c1) ∧ ZS w B M.zc A1 n1 c1 (L[k].p.map M.pr) := by
  obtain ⟨R, h1, h2⟩ := h
  refine ⟨R, h1, fun k hk => ?_⟩
  have hkR : k < R.length := by rw [h2.1]; exact hk
  exact ⟨hkR, h2.2 k hkR hk⟩
theorem ZV.at {b off k : Nat} (h : ZV M w B (some ⟨b, off, none⟩) n c L) (hk : k < L.length) : ∃ A1 n1 c1, b < B ∧
    (∀ i v, (M.hr L[k].h (.slice A1 n1 c1))[i]? = some v → w.cell? ⟨b, off + k * M.zh + i, none⟩ = some v) ∧ ZS w B M.zc A1 n1 c1 (L[k].p.map M.pr) := by
  obtain ⟨R, h1, h2⟩ := h
  have hkR : k < R.length := by rw [h2.1]; exact hk
  obtain ⟨A1, n1, c1, e, r1⟩ := h2.2 k hkR hk
  obtain ⟨b', off', e', hb, hc⟩ := h1.pos (by have := h1.len; omega)
  injection e' with e'
  injection e' with e1 e2
  subst e1; subst e2
  exact ⟨A1, n1, c1, hb, fun i v hv => hc k hkR i v (by rw [e]; exact hv), r1⟩
end

/-- The row r holds e, its parts the call's own. -/
def VeO (M : VM) (w : World) (base : Nat) (r : Array Value) (e : Ve) : Prop := ∃ A n c, r = M.hr e.h (.slice A n c) ∧ ZO w base M.te M.zc A n c (e.p.map M.pr)
def VeOs (M : VM) (w : World) (base : Nat) (R : List (Array Value)) (L : List Ve) : Prop := R.length = L.length ∧ ∀ j (h : j < R.length) (h' : j < L.length), VeO M w base R[j] L[j]

theorem ZO.rowsNe {w : World} {base base' : Nat} {e e' : TypeId} {z z' : Nat} {A A' : Option Addr} {n c n' c' : Nat} {l R : List (Array Value)} (h : ZO w base e z A n c l) (h' : ZO w base' e' z' A' n' c' R) (ht : e ≠ e') : own A = none ∨ own A ≠ own A' := by
  rcases h.1.2 with ⟨hv, _⟩ | ⟨g, cap, cur, hv, _, hh, _⟩
  · injection hv with e1 _ _
    subst e1
    exact .inl rfl
  · injection hv with e1 _ _
    subst e1
    refine .inr fun hA => ?_
    rcases h'.1.2 with ⟨hv', _⟩ | ⟨g', cap', cur', hv', _, hh', _⟩
    · injection hv' with e1 _ _
      subst e1
      cases hA
    · injection hv' with e1 _ _
      subst e1
      have e3 : g = g' := Option.some.inj hA
      subst e3
      rw [hh] at hh'
      injection hh' with hh'
      injection hh' with _ hh'
      exact ht hh'
theorem ZO.past {w w' : World} {base : Nat} {e : TypeId} {z : Nat} {A : Option Addr} {n c : Nat} {l : List (Array Value)} {row : Option Nat} (h : ZO w base e z A n c l) (hg : w.grownBy w' row) (hne : own A = none ∨ own A ≠ row) : ZO w' base e z A n c l :=
  ⟨World.ownsRow.kept h.1 hg (by rw [own_slice]; exact hne), h.2⟩
theorem ZO.blkNe {w : World} {base : Nat} {e t : TypeId} {z : Nat} {A : Option Addr} {n c g : Nat} {l : List (Array Value)} {cs : Array Value} (h : ZO w base e z A n c l) (hb : Blk w g t cs) (ht : e ≠ t) : own A ≠ some g := fun hA => by
  rcases h.1.2 with ⟨hv, _⟩ | ⟨g', cap, cur, hv, _, hh, _⟩
  · injection hv with e1 _ _
    subst e1
    cases hA
  · injection hv with e1 _ _
    subst e1
    have e3 : g' = g := Option.some.inj hA
    subst e3
    rw [hb] at hh
    injection hh with hh
    injection hh with _ hh
    exact ht hh.symm

section
variable {M : VM} {w w' : World} {base : Nat} {R : List (Array Value)} {L : List Ve} {r : Array Value} {s : Ve}
theorem VeO.keep (h : VeO M w base r s) (hg : Grow w w') : VeO M w' base r s := by
  obtain ⟨A, n, c, e1, h1⟩ := h
  exact ⟨A, n, c, e1, h1.keep hg⟩
theorem VeO.mono {base' : Nat} (h : VeO M w base r s) (hb : base' ≤ base) : VeO M w base' r s := by
  obtain ⟨A, n, c, e1, h1⟩ := h
  exact ⟨A, n, c, e1, h1.mono hb⟩
theorem VeO.rd (h : VeO M w base r s) : VeR M w w.heap.size r s := by
  obtain ⟨A, n, c, e1, h1⟩ := h
  exact ⟨A, n, c, e1, h1.zs⟩
theorem VeO.past {base' : Nat} {e' : TypeId} {z : Nat} {A' : Option Addr} {n' c' : Nat} {N : List (Array Value)} (h : VeO M w base r s) (h' : ZO w base' e' z A' n' c' N) (ht : M.te ≠ e') (hg : w.grownBy w' (own A')) : VeO M w' base r s := by
  obtain ⟨A, n, c, e1, h1⟩ := h
  exact ⟨A, n, c, e1, h1.past hg (h1.rowsNe h' ht)⟩
theorem VeO.otherRow {t : TypeId} {g : Nat} {cs : Array Value} (h : VeO M w base r s) (hb : Blk w g t cs) (ht : M.te ≠ t) (cs' : Array Value) : VeO M (w.setRow g cs') base r s := by
  obtain ⟨A, n, c, e1, h1⟩ := h
  exact ⟨A, n, c, e1, h1.other (h1.blkNe hb ht) cs'⟩
theorem VeO.row (hM : M.Is) (h : VeO M w base r s) : r.size = M.zh ∧ r.all (·.oneCell') = true := by
  obtain ⟨A, n, c, e1, h1⟩ := h
  subst e1
  exact hM.head _ _ _ _
theorem VeOs.nil : VeOs M w base [] [] := ⟨rfl, fun j h => absurd h (by simp)⟩
theorem VeOs.keep (h : VeOs M w base R L) (hg : Grow w w') : VeOs M w' base R L := ⟨h.1, fun j h1 h2 => (h.2 j h1 h2).keep hg⟩
theorem VeOs.past {base' : Nat} {e' : TypeId} {z : Nat} {A' : Option Addr} {n' c' : Nat} {N : List (Array Value)} (h : VeOs M w base R L) (h' : ZO w base' e' z A' n' c' N) (ht : M.te ≠ e') (hg : w.grownBy w' (own A')) : VeOs M w' base R L := ⟨h.1, fun j h1 h2 => (h.2 j h1 h2).past h' ht hg⟩
theorem VeOs.otherRow {t : TypeId} {g : Nat} {cs : Array Value} (h : VeOs M w base R L) (hb : Blk w g t cs) (ht : M.te ≠ t) (cs' : Array Value) : VeOs M (w.setRow g cs') base R L := ⟨h.1, fun j h1 h2 => (h.2 j h1 h2).otherRow hb ht cs'⟩
theorem VeOs.snoc (h : VeOs M w base R L) (h2 : VeO M w base r s) : VeOs M w base (R ++ [r]) (L ++ [s]) := by
  refine ⟨by simp [h.1], fun j h3 h4 => ?_⟩
  by_cases hj : j < R.length
  · have hj' : j < L.length := by rw [← h.1]; exact hj
    rw [List.getElem_append_left hj, List.getElem_append_left hj']
    exact h.2 j hj hj'
  · have e1 : j = R.length := by simp at h3; omega
    subst e1
    have hl : L.length ≤ R.length := by rw [h.1]; exact Nat.le_refl _
    rw [List.getElem_append_right (Nat.le_refl _), List.getElem_append_right hl]
    simpa using h2
theorem VeOs.rd (h : VeOs M w base R L) : VeRs M w w.heap.size R L := ⟨h.1, fun j h1 h2 => (h.2 j h1 h2).rd⟩
theorem ZO.zv {base' : Nat} {e' : TypeId} {A : Option Addr} {n c : Nat} (h : ZO w base' e' M.zh A n c R) (h2 : VeOs M w base R L) : ZV M w w.heap.size A n c L := ⟨R, h.zs, h2.rd⟩
end

/-- The block g has room for N rows of z cells; the first of them are T. -/
def Half (w : World) (g : Nat) (t : TypeId) (z N : Nat) (T : List (Array Value)) : Prop :=
  ∃ cs : Array Value, Blk w g t cs ∧ cs.size = N * z ∧ cs.toList.take (T.length * z) = T.flatMap Array.toList ∧ T.length ≤ N ∧ ∀ r ∈ T, r.size = z
section
variable {w w' : World} {g z N : Nat} {t : TypeId} {T : List (Array Value)} {r : Array Value}
theorem Half.new (w : World) (t : TypeId) (N z : Nat) (cs : Array Value) (h : cs.size = N * z) : Half (w.alloc (.cells cs t)) w.heap.size t z N [] := ⟨cs, Blk.new w t cs, h, by simp, Nat.zero_le _, fun _ h => absurd h (by simp)⟩
theorem Half.grow (h : Half w g t z N T) (hg : Grow w w') : Half w' g t z N T := by
  obtain ⟨cs, h1, h2⟩ := h
  exact ⟨cs, h1.grow hg, h2⟩
theorem Half.lt (h : Half w g t z N T) : g < w.heap.size := by
  obtain ⟨cs, h1, h2⟩ := h
  exact h1.lt
theorem Half.other {k : Nat} (h : Half w g t z N T) (hk : g ≠ k) (cs' : Array Value) : Half (w.setRow k cs') g t z N T := by
  obtain ⟨cs, h1, h2⟩ := h
  exact ⟨cs, h1.other hk cs', h2⟩
theorem Half.full {base : Nat} (h : Half w g t z N T) (hT : T.length = N) (hb : base ≤ g) (hm : N ≤ maxLen) : ZO w base t z (some ⟨g, 0, none⟩) N N T := by
  obtain ⟨cs, h1, h2, h3, h4, h5⟩ := h
  have hl : (T.flatMap Array.toList).length = N * z := by rw [← h3, List.length_take, hT]; simp [h2]
  exact ⟨⟨hl, .inr ⟨g, N, cs, rfl, hb, h1, Nat.le_refl _, hm, h2, by rw [← hT]; exact h3⟩⟩, hT.symm, h5⟩
/-- One more is stored. -/
theorem Half.run {P : Program} (h : Half w g t z N T) (hT : T.length < N) (hr : r.size = z) (h1 : r.all (·.oneCell') = true) (ty : TypeId) (v : Value) (hv : v.cells = r) (hi : (P.info? ty).map (·.size) = some z) :
    ∃ cs', (storeVar ty ⟨g, T.length * z, none⟩ v).run P w = .ok () (w.setRow g cs') ∧ Half (w.setRow g cs') g t z N (T ++ [r]) := by
  obtain ⟨cs, k1, k2, k3, k4, k5⟩ := h
  have hend : (T.length + 1) * z ≤ N * z := Nat.mul_le_mul_right _ hT
  rw [Nat.succ_mul] at hend
  have hrl : r.toList.length = z := by simpa using hr
  have := run_storeCells_at (P := P) g (T.length * z) t r.toList 0 cs w k1 (by rw [hrl]; omega) (fun v hv => (Array.all_eq_true_iff_forall_mem.1 h1) v (by simpa using hv))
  refine ⟨(cs.toList.take (T.length * z + 0) ++ r.toList ++ cs.toList.drop (T.length * z + 0 + r.toList.length)).toArray, ?_, ⟨_, k1.set _, ?_, ?_, by simp; omega, fun x hx => ?_⟩⟩
  · cases hq : P.info? ty with
    | none => simp [hq] at hi
    | some i =>
      have hs : r.size = i.size := by simp [hq] at hi; omega
      generalize w.setRow g _ = W at this ⊢
      simp [storeVar, sizeOf, typeInfo, hq, hv, hs, this]
  · simp [hr]; omega
  · have e0 : ((cs.toList.take (T.length * z + 0)).length) = T.length * z := by rw [List.length_take]; simp; omega
    rw [List.length_append, List.length_singleton, Nat.succ_mul, List.flatMap_append, List.take_append_of_le_length (by rw [List.length_append, e0, hrl]; exact Nat.le_refl _),
      List.take_of_length_le (by rw [List.length_append, e0, hrl]; exact Nat.le_refl _), Nat.add_zero, k3]
    simp
  · rcases List.mem_append.1 hx with h | h
    · exact k5 x h
    · obtain rfl : x = r := by simpa using h
      exact hr
end
theorem wp_store_half {P : Program} {o : Oper} {a : Act} {w : World} {K : Act → World → Prop} {Q : Exit → Act → World → Prop} {g z N off : Nat} {t : TypeId} {T : List (Array Value)} {r : Array Value} (ty : TypeId) (x y : Operand) (ho : o.op = .store ty x y)
    (h : Half w g t z N T) (hT : T.length < N) (hr : r.size = z) (h1 : r.all (·.oneCell') = true) (v : Value) (hv : v.cells = r) (hi : (P.info? ty).map (·.size) = some z)
    (hx : a.eval x = .pointer (some ⟨g, off, none⟩)) (hoff : off = T.length * z) (hy : a.eval y = v)
    (hk : ∀ cs', Half (w.setRow g cs') g t z N (T ++ [r]) → K (a.put o.dst undef) (w.setRow g cs')) : o.wp P a w K Q := by
  subst hoff
  obtain ⟨cs', hrun, hh⟩ := h.run (P := P) hT hr h1 ty v hv hi
  unfold Oper.wp execOp
  simp only [ho, hx, hy, Instr.storeAt, Instr.sureAddr, Sem.run_bind, Sem.run_pure, Result.andThen_ok, hrun]
  exact hk cs' hh
end Go.Proofs.Ytfnaigeakfgpbaa
