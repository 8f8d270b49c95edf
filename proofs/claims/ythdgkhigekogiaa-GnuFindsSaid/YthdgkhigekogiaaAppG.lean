/-
  append onto bytes and onto numbers of the call's own, beside other blocks that it writes: only the own block may have changed, and new ones. No program's function is spoken of here.
-/
import Derived.Test.YthdgkhigekogiaaApp
import Derived.Test.YthdgkhigekogiaaNums
import Derived.Test.YthdgkhigekogiaaStrs
import Derived.Lib.AppendStr
import Derived.Maps.OwnSet
import Derived.Deep.OwnRows
namespace Go.Proofs.Ythdgkhigekogiaa
open Go.RowKit

section
variable {w w' : World} {base : Nat} {e t : TypeId} {A A' : Option Addr} {n c n' c' : Nat} {l : List UInt8} {q : List Nat} {k : IntKind}
theorem OB.rowNe {g m : Nat} {f : Nat → Value} (h : OB w base e A n c l) (hr : w.rowIs g t m f) (ht : e ≠ t) : some g ≠ own A := by
  intro hA
  rcases h.2 with ⟨hv, _⟩ | ⟨g', cap, cur, hv, _, hh, _⟩
  · injection hv with e1 _ _
    subst e1
    cases hA
  · injection hv with e1 _ _
    subst e1
    have e3 : g = g' := Option.some.inj hA
    subst e3
    obtain ⟨cs, hb, _⟩ := hr
    rw [hh] at hb
    injection hb with hb
    injection hb with _ hb
    exact ht hb
theorem OB.mapNe {H : Type} {P : Program} {kt : TypeId} {R : Value → Option (DataW H × List MemPlace)} {b m : Nat} {D : DataW H} (h : OB w base e A n c l) (hm : w.ownsMap P kt R b m D) : some b ≠ own A := by
  intro hA
  rcases h.2 with ⟨hv, _⟩ | ⟨g', cap, cur, hv, _, hh, _⟩
  · injection hv with e1 _ _
    subst e1
    cases hA
  · injection hv with e1 _ _
    subst e1
    have e3 : b = g' := Option.some.inj hA
    subst e3
    obtain ⟨es, clock, hb, _⟩ := hm
    rw [hh] at hb
    cases hb
theorem OB.ge (h : OB w base e A n c l) {g : Nat} (hg : own A = some g) : base ≤ g := by
  rcases h.2 with ⟨hv, _⟩ | ⟨g', cap, cur, hv, hb, _⟩
  · injection hv with e1 _ _
    subst e1
    cases hg
  · injection hv with e1 _ _
    subst e1
    have e3 : g' = g := Option.some.inj hg
    omega
theorem ON.ge (h : ON w base e k A n c q) {g : Nat} (hg : own A = some g) : base ≤ g := by
  rcases h.2 with ⟨hv, _⟩ | ⟨g', cap, cur, hv, hb, _⟩
  · injection hv with e1 _ _
    subst e1
    cases hg
  · injection hv with e1 _ _
    subst e1
    have e3 : g' = g := Option.some.inj hg
    omega
theorem OB.numNe (h : OB w base e A n c l) (h' : ON w base t k A' n' c' q) (ht : e ≠ t) : own A = none ∨ own A ≠ own A' := by
  rcases h.2 with ⟨hv, _⟩ | ⟨g, cap, cur, hv, _, hh, _⟩
  · injection hv with e1 _ _
    subst e1
    exact .inl rfl
  · injection hv with e1 _ _
    subst e1
    refine .inr fun hA => ?_
    rcases h'.2 with ⟨hv', _⟩ | ⟨g', cap', cur', hv', _, hh', _⟩
    · injection hv' with e1 _ _
      subst e1
      cases hA
    · injection hv' with e1 _ _
      subst e1
      have e3 : g = g' := Option.some.inj hA
      subst e3
      rw [hh] at hh'
      injection hh' with hh'
      injection hh' with _ hh'
      exact ht hh'
theorem ON.bytNe (h' : ON w base t k A' n' c' q) (h : OB w base e A n c l) (ht : e ≠ t) : own A' = none ∨ own A' ≠ own A := by
  rcases h.numNe h' ht with e1 | e1
  · rcases A' with _ | a
    · exact .inl rfl
    · exact .inr (by rw [e1]; intro e2; cases e2)
  · exact .inr (Ne.symm e1)
theorem OB.grownBy {row : Option Nat} (h : OB w base e A n c l) (hg : w.grownBy w' row) (hne : own A = none ∨ own A ≠ row) : OB w' base e A n c l := World.ownsRow.kept h hg (by rw [own_slice]; exact hne)
theorem ON.grownBy {row : Option Nat} (h : ON w base e k A n c q) (hg : w.grownBy w' row) (hne : own A = none ∨ own A ≠ row) : ON w' base e k A n c q := World.ownsRow.kept h hg (by rw [own_slice]; exact hne)
theorem ON.alloc (h : ON w base e k A n c q) (o : Obj) : ON (w.alloc o) base e k A n c q := h.keep (Below.alloc (Below.refl _ _) (Nat.le_refl _) o)
theorem grown_set (w : World) (a : Addr) (v : Value) : w.grownBy (w.setCell a v) (some a.block) := ⟨rfl, rfl, rfl, by simp, fun k _ hk => Deep.blk_setCell_other _ _ _ _ (fun e => hk (by rw [e]))⟩
theorem below_drewN {B : Nat} (h : Below B w w') (k : Nat) : Below B w (w'.drewN k) := h.trans ⟨rfl, rfl, rfl, Nat.le_refl _, fun _ _ => rfl⟩
theorem below_new {B : Nat} (h : Below B w w') (hB : B ≤ w'.heap.size) (o : Obj) : Below B w (w'.alloc o) := h.alloc hB o
theorem below_of {B : Nat} {row : Option Nat} (hg : w.grownBy w' row) (hB : B ≤ w.heap.size) (hr : ∀ k, row = some k → B ≤ k) : Below B w w' := (Below.refl B w).grown hg hB hr
theorem grownBy_trans {w'' : World} {row : Option Nat} (h : w.grownBy w' none) (h' : w'.grownBy w'' row) : w.grownBy w'' row :=
  ⟨h'.os.trans h.os, h'.tape.trans h.tape, h'.output.trans h.output, Nat.le_trans h.size h'.size, fun k hk hne => (h'.block k (Nat.lt_of_lt_of_le hk h.size) hne).trans (h.block k hk (by simp))⟩
end

/-- The bytes that []byte(s) lays. -/
theorem RB.fresh (w : World) (t : TypeId) {S : ByteArray} (s : Bs) (hS : S = bstr s) (cap : Nat) (fz : Nat × Nat) (h1 : s.length ≤ cap) (h2 : cap ≤ maxLen) : RB (w.alloc (.cells (bytesRow S cap) t fz)) (w.heap.size + 1) (some ⟨w.heap.size, 0, none⟩) s.length cap s := by
  subst hS
  exact ⟨rfl, h1, h2, fun _ => ⟨w.heap.size, 0, rfl, by omega, fun j hj => by
    rw [Nat.zero_add, World.cell?_alloc_mark]
    simp only [bytesRow, bstr, List.map_toArray]
    rw [Array.getElem?_append_left (by simpa using hj)]
    simp [hj]⟩⟩

/-- append of a slice's bytes. -/
theorem wpList_appendG {P : Program} (w : World) {ops : Array Oper} {rest : List Oper} {o : Oper} {a : Act} {Q : Exit → Act → World → Prop} (hgd : o.guard = none) (s x : Operand) (t : TypeId)
    (ho : o.op = .call { callee := .builtin .append, args := #[s, x], argTypes := #[t, t] })
    (base : Nat) (e : TypeId) (ht : P.underlying t = some (.slice e)) (hinfo : (P.info? e).map (fun i => (i.zero, i.size, i.bytes)) = some (some (.int .u8 0), 1, 1))
    (A : Option Addr) (n c : Nat) (l : List UInt8) (hs : a.eval s = .slice A n c) (hown : OB w base e A n c l)
    (B : Nat) (A' : Option Addr) (m c' : Nat) (l' : List UInt8) (hx : a.eval x = .slice A' m c') (hr : RB w B A' m c' l')
    (hsz : n + m ≤ 140737488355328) (hbase : base ≤ w.heap.size)
    (h : ∀ A2 c2 w', OB w' base e A2 (n + m) c2 (l ++ l') → w.grownBy w' (own A) → wpList P ops Q rest (a.put o.dst (.slice A2 (n + m) c2)) w') : wpList P ops Q (o :: rest) a w := by
  refine wpList_plain hgd fun K hK => ?_
  obtain ⟨A2, c2, w', hrun, h2, h3, h4, _⟩ := run_appendS (P := P) w base t o.type e ht hinfo A n c l hown B A' m c' l' hr hsz hbase
  unfold Oper.wp execOp
  simp only [ho, resolve, invoke, builtin, Sem.run_bind, Sem.run_pure, Result.andThen_ok, List.map_toArray, List.map_cons, List.map_nil, hs, hx, hrun]
  exact hK _ _ (h A2 c2 w' h2 ⟨h3.os, h3.tape, h3.output, h3.size, fun k hk hne => h4 k hk (Ne.symm hne)⟩)

/-- append of a string's bytes. -/
theorem wpList_appendStr {P : Program} (w : World) {ops : Array Oper} {rest : List Oper} {o : Oper} {a : Act} {Q : Exit → Act → World → Prop} (hgd : o.guard = none) (s x : Operand) (t u : TypeId)
    (ho : o.op = .call { callee := .builtin .append, args := #[s, x], argTypes := #[t, u] })
    (base : Nat) (e : TypeId) (ht : P.underlying t = some (.slice e)) (hu : P.underlying u = some .string) (hinfo : (P.info? e).map (fun i => (i.zero, i.size, i.bytes)) = some (some (.int .u8 0), 1, 1))
    (A : Option Addr) (n c : Nat) (l : List UInt8) (hs : a.eval s = .slice A n c) (hown : OB w base e A n c l)
    (S : ByteArray) (q : Bs) (hS : S = bstr q) (hx : a.eval x = .string S)
    (hsz : n + q.length ≤ 140737488355328) (hbase : base ≤ w.heap.size)
    (h : ∀ A2 c2 w', OB w' base e A2 (n + q.length) c2 (l ++ q) → w.grownBy w' (own A) → wpList P ops Q rest (a.put o.dst (.slice A2 (n + q.length) c2)) w') : wpList P ops Q (o :: rest) a w := by
  obtain ⟨i, hi, hz, hs1, hby⟩ := info_parts hinfo
  have hq : S.size = q.length := by rw [hS, bstr_size]
  refine Lib.wpList_append_own_string w hgd s x t u ho base e i ht hu hi hz hs1 hby _ n _ hs hown S hx (by unfold maxLen; omega) (by omega) hbase fun v' w' hown' hg _ => ?_
  rw [own_slice] at hg
  have hv : ∃ A2 c2, v' = .slice A2 (n + S.size) c2 := by
    rcases hown'.2 with ⟨h0, h1⟩ | ⟨g, cap, cur, h0, _⟩
    · exact ⟨none, 0, by rw [h0, h1]⟩
    · exact ⟨_, _, h0⟩
  obtain ⟨A2, c2, rfl⟩ := hv
  have e1 : l.map byt ++ Lib.strCells S = (l ++ q).map byt := by
    subst hS
    rw [List.map_append, Lib.strCells, bstr_list]
    rfl
  rw [e1, hq] at hown'
  rw [hq]
  exact h A2 c2 w' hown' hg

/-- append of one number. -/
theorem wpList_append1G {P : Program} (w : World) {ops : Array Oper} {rest : List Oper} {o : Oper} {a : Act} {Q : Exit → Act → World → Prop} (hgd : o.guard = none) (s x : Operand) (t : TypeId)
    (ho : o.op = .call { callee := .builtin .append, args := #[s, x], argTypes := #[t, t] })
    (base : Nat) (e : TypeId) (k : IntKind) (bytes : Nat) (ht : P.underlying t = some (.slice e)) (hinfo : (P.info? e).map (fun i => (i.zero, i.size, i.bytes)) = some (some (.int k 0), 1, bytes))
    (A : Option Addr) (n c : Nat) (l : List Nat) (hs : a.eval s = .slice A n c) (hown : ON w base e k A n c l)
    (g : Nat) (t' : TypeId) (y : Nat) (hx : a.eval x = .slice (some ⟨g, 0, none⟩) 1 1) (hr : Blk w g t' #[.int k (y : Int)])
    (h63 : n + 1 ≤ maxLen) (hsz : (n + 1) * bytes ≤ 140737488355328) (hbase : base ≤ w.heap.size)
    (h : ∀ A2 c2 w', ON w' base e k A2 (n + 1) c2 (l ++ [y]) → w.grownBy w' (own A) → wpList P ops Q rest (a.put o.dst (.slice A2 (n + 1) c2)) w') : wpList P ops Q (o :: rest) a w := by
  refine wpList_plain hgd fun K hK => ?_
  obtain ⟨i, hi, hz, hs1, hby⟩ := info_parts hinfo
  obtain ⟨v', w', hrun, h2, h3, _, _⟩ := run_append_own_at (P := P) w base t o.type e i (.int k 0) 1 bytes ht hi hz hs1 hby rfl (by omega) _ n _ hown ⟨g, 0, none⟩ 1 1 [.int k (y : Int)]
    rfl (fun j u hj => by
      have hj0 : j = 0 := by
        rcases Nat.eq_zero_or_pos j with h0 | h0
        · exact h0
        · rw [List.getElem?_eq_none (by simp; omega)] at hj; cases hj
      subst hj0
      have e2 : (⟨g, 0, none⟩ : Addr).add 0 = ⟨g, 0, none⟩ := by unfold Addr.add; split <;> simp_all
      rw [e2, hr.at]
      simpa using hj) (by intro u hu; simp at hu; subst hu; rfl) h63 hsz hbase
  rw [own_slice] at h3
  have hv : ∃ A2 c2, v' = .slice A2 (n + 1) c2 := by
    rcases h2.2 with ⟨h0, h1⟩ | ⟨g, cap, cur, h0, _⟩
    · omega
    · exact ⟨_, _, h0⟩
  obtain ⟨A2, c2, rfl⟩ := hv
  unfold Oper.wp execOp
  simp only [ho, resolve, invoke, builtin, Sem.run_bind, Sem.run_pure, Result.andThen_ok, List.map_toArray, List.map_cons, List.map_nil, hs, hx, hrun]
  exact hK _ _ (h A2 c2 w' (by simpa [ON, ival] using h2) h3)
end Go.Proofs.Ythdgkhigekogiaa
