/-
  Blocks of cells, whole: what is read from them, and what is laid into them. No program's function is spoken of here.
-/
import Derived.Test.YtahmdccalgdiaaaTree
import Derived.Deep.OwnRows
import Derived.Deep.WholeRow
import Derived.Laws.CopyRow
import Derived.Laws.Tables
namespace Go.Proofs.Ytahmdccalgdiaaa
open Go.RowKit

/-- Block g holds the cells cs. -/
def Blk (w : World) (g : Nat) (t : TypeId) (cs : Array Value) : Prop := w.heap[g]? = some (.cells cs t (0, 0))

section
variable {w W : World} {g : Nat} {t : TypeId} {cs : Array Value}
theorem Blk.lt (h : Blk w g t cs) : g < w.heap.size := by
  rcases Nat.lt_or_ge g w.heap.size with h1 | h1
  · exact h1
  · rw [Blk, Array.getElem?_eq_none h1] at h; cases h
theorem Blk.new (w : World) (t : TypeId) (cs : Array Value) : Blk (w.alloc (.cells cs t)) w.heap.size t cs := heap_alloc_new w _
theorem Blk.grow (h : Blk w g t cs) (hg : Grow w W) : Blk W g t cs := by rw [Blk, hg.block g h.lt]; exact h
theorem Blk.bar {k : Nat} (h : Blk w g t cs) (hb : Bar k w W) (hk : g ≠ k) : Blk W g t cs := by rw [Blk, hb.2 g h.lt hk]; exact h
theorem Blk.alloc (h : Blk w g t cs) (o : Obj) : Blk (w.alloc o) g t cs := h.grow (Grow.of_alloc w o)
theorem Blk.drew (h : Blk w g t cs) : Blk w.drew g t cs := h
theorem Blk.drewN (h : Blk w g t cs) (n : Nat) : Blk (w.drewN n) g t cs := h
theorem Blk.at (h : Blk w g t cs) (j : Nat) : w.cell? ⟨g, j, none⟩ = cs[j]? := cell_of_row w g j cs t (0, 0) h
theorem Blk.soft (h : Blk w g t cs) (j : Nat) : w.frozen? ⟨g, j, none⟩ = false := by
  simp only [World.frozen?]; rw [h]; simp
theorem Blk.loads {P : Program} (h : Blk w g t cs) {n : Nat} (hn : cs.size = n) : (loadCellsFrom ⟨g, 0, none⟩ 0 n #[]).run P w = .ok cs w := by
  subst hn
  have := run_loadCells_list (P := P) w ⟨g, 0, none⟩ cs.toList (fun j v hv => by
    have hadd : (⟨g, 0, none⟩ : Addr).add j = ⟨g, j, none⟩ := by unfold Addr.add; split <;> simp_all
    rw [hadd, h.at]
    simpa using hv)
  simpa [loadCells] using this
theorem Blk.stores {P : Program} (h : Blk w g t cs) {cs' : Array Value} (hn : cs.size = cs'.size) (h1 : cs'.all (·.oneCell') = true) : (storeCells ⟨g, 0, none⟩ cs'.toList 0).run P w = .ok () (w.setRow g cs') := by
  exact run_storeCells_from (P := P) g t cs'.toList 0 cs w h (by simp; omega) (fun v hv => (Array.all_eq_true_iff_forall_mem.1 h1) v (by simpa using hv))
theorem Blk.var {P : Program} (h : Blk w g t cs) (ty : TypeId) (d : TypeDesc) (hu : P.underlying ty = some d) (hd : (match d with | .struct _ | .array _ _ => true | _ => false) = true) (hi : (P.info? ty).map (·.size) = some cs.size) :
    (loadVar ty ⟨g, 0, none⟩).run P w = .ok (.agg cs) w := run_loadVar_row w g t ty cs (0, 0) d h hu hd hi
/-- A whole block is read, as an operation. -/
theorem Blk.exec {P : Program} (h : Blk w g t cs) {o : Oper} {ev : Operand → Value} (ty : TypeId) (x : Operand) (ho : o.op = .load ty x) (hx : ev x = .pointer (some ⟨g, 0, none⟩))
    (d : TypeDesc) (hu : P.underlying ty = some d) (hd : (match d with | .struct _ | .array _ _ => true | _ => false) = true) (hi : (P.info? ty).map (·.size) = some cs.size) :
    (execOp ev o).run P w = .ok (.value (.agg cs)) w := by
  unfold execOp
  simp only [ho, hx, Instr.loadAt, Instr.sureAddr, Sem.run_bind, Sem.run_pure, Result.andThen_ok, run_loadVar_row w g t ty cs (0, 0) d h hu hd hi]
theorem Blk.set (h : Blk w g t cs) (cs' : Array Value) : Blk (w.setRow g cs') g t cs' := setRow_heap w g cs cs' t (0, 0) h
theorem Blk.other {k : Nat} (h : Blk w g t cs) (hk : g ≠ k) (cs' : Array Value) : Blk (w.setRow k cs') g t cs := by
  rw [Blk, setRow_other w k g cs' hk]; exact h
theorem Blk.cellset (h : Blk w g t cs) {a : Addr} (ha : g ≠ a.block) (v : Value) : Blk (w.setCell a v) g t cs := by rw [Blk, Deep.blk_setCell_other _ _ _ _ ha]; exact h
theorem Blk.same (h : Blk w g t cs) : w.setRow g cs = w := setRow_self w g cs t (0, 0) h
theorem Blk.row {f : Nat → Value} (h : Blk w g t cs) (hc : ∀ i, i < cs.size → cs[i]? = some (f i)) : w.rowIs g t cs.size f := ⟨cs, h, rfl, hc⟩
theorem Bar.set (w : World) (g : Nat) (cs' : Array Value) : Bar g w (w.setRow g cs') := ⟨by simp, fun k _ hk => setRow_other w g k cs' hk⟩
theorem Grow.set {w0 : World} (h : Grow w0 w) (hg : w0.heap.size ≤ g) (cs' : Array Value) : Grow w0 (w.setRow g cs') :=
  ⟨h.os, h.tape, h.output, by simpa using h.size, fun k hk => (setRow_other w g k cs' (by omega)).trans (h.block k hk)⟩
theorem Grow.cellset {w0 : World} (h : Grow w0 w) (hg : w0.heap.size ≤ g) (i : Nat) (v : Value) : Grow w0 (w.setCell ⟨g, i, none⟩ v) := Below.setCell h hg v
theorem Blk.c2 {a b : Value} (h : Blk w g t #[a, b]) : w.cell? ⟨g, 0, none⟩ = some a ∧ w.cell? ⟨g, 1, none⟩ = some b := ⟨h.at 0, h.at 1⟩
theorem Blk.c4 {a b c d : Value} (h : Blk w g t #[a, b, c, d]) : w.cell? ⟨g, 0, none⟩ = some a ∧ w.cell? ⟨g, 1, none⟩ = some b ∧ w.cell? ⟨g, 2, none⟩ = some c ∧ w.cell? ⟨g, 3, none⟩ = some d := ⟨h.at 0, h.at 1, h.at 2, h.at 3⟩
theorem Blk.c13 {a0 a1 a2 a3 a4 a5 a6 a7 a8 a9 a10 a11 a12 : Value} (h : Blk w g t #[a0, a1, a2, a3, a4, a5, a6, a7, a8, a9, a10, a11, a12]) :
    w.cell? ⟨g, 0, none⟩ = some a0 ∧ w.cell? ⟨g, 1, none⟩ = some a1 ∧ w.cell? ⟨g, 2, none⟩ = some a2 ∧ w.cell? ⟨g, 3, none⟩ = some a3 ∧ w.cell? ⟨g, 4, none⟩ = some a4 ∧ w.cell? ⟨g, 5, none⟩ = some a5 ∧ w.cell? ⟨g, 6, none⟩ = some a6 ∧ w.cell? ⟨g, 7, none⟩ = some a7 ∧ w.cell? ⟨g, 8, none⟩ = some a8 ∧ w.cell? ⟨g, 9, none⟩ = some a9 ∧ w.cell? ⟨g, 10, none⟩ = some a10 ∧ w.cell? ⟨g, 11, none⟩ = some a11 ∧ w.cell? ⟨g, 12, none⟩ = some a12 :=
  ⟨h.at 0, h.at 1, h.at 2, h.at 3, h.at 4, h.at 5, h.at 6, h.at 7, h.at 8, h.at 9, h.at 10, h.at 11, h.at 12⟩
end
/-- Blocks that were laid one behind the other. -/
theorem blk1 {w W : World} {t1 : TypeId} {c1 : Array Value} (h : w.alloc (.cells c1 t1) = W) : Blk W w.heap.size t1 c1 ∧ Grow w W := by
  subst h; exact ⟨Blk.new _ _ _, Grow.of_alloc _ _⟩
theorem blk2 {w W : World} {t1 t2 : TypeId} {c1 c2 : Array Value} (h : (w.alloc (.cells c1 t1)).alloc (.cells c2 t2) = W) : Blk W w.heap.size t1 c1 ∧ Blk W (w.heap.size + 1) t2 c2 ∧ Grow w W := by
  subst h
  have h2 := Blk.new (w.alloc (.cells c1 t1)) t2 c2
  rw [show (w.alloc (.cells c1 t1)).heap.size = w.heap.size + 1 by simp] at h2
  exact ⟨(Blk.new _ _ _).alloc _, h2, (Grow.of_alloc _ _).trans (Grow.of_alloc _ _)⟩
theorem blk3 {w W : World} {t1 t2 t3 : TypeId} {c1 c2 c3 : Array Value} (h : ((w.alloc (.cells c1 t1)).alloc (.cells c2 t2)).alloc (.cells c3 t3) = W) :
    Blk W w.heap.size t1 c1 ∧ Blk W (w.heap.size + 1) t2 c2 ∧ Blk W (w.heap.size + 1 + 1) t3 c3 ∧ Grow w W := by
  obtain ⟨h1, h2, h3⟩ := blk2 (w := w) (t1 := t1) (t2 := t2) (c1 := c1) (c2 := c2) rfl
  subst h
  have h4 := Blk.new ((w.alloc (.cells c1 t1)).alloc (.cells c2 t2)) t3 c3
  rw [show ((w.alloc (.cells c1 t1)).alloc (.cells c2 t2)).heap.size = w.heap.size + 1 + 1 by simp] at h4
  exact ⟨h1.alloc _, h2.alloc _, h4, h3.trans (Grow.of_alloc _ _)⟩

/-- The blocks of S are as they were. -/
def Kept (S : Nat → Prop) (w W : World) : Prop := w.heap.size ≤ W.heap.size ∧ ∀ k, k < w.heap.size → S k → W.heap[k]? = w.heap[k]?
theorem leap_kept (S : Nat → Prop) : Leap (Kept S) := ⟨fun _ => ⟨Nat.le_refl _, fun _ _ _ => rfl⟩, fun _ _ _ h k => ⟨Nat.le_trans h.1 k.1, fun i hi hg => (k.2 i (Nat.lt_of_lt_of_le hi h.1) hg).trans (h.2 i hi hg)⟩⟩
theorem Kept.of_grow {S : Nat → Prop} {w W : World} (h : Grow w W) : Kept S w W := ⟨h.size, fun k hk _ => h.block k hk⟩
theorem Blk.kept {S : Nat → Prop} {w W : World} {g : Nat} {t : TypeId} {cs : Array Value} (h : Blk w g t cs) (hb : Kept S w W) (hk : S g) : Blk W g t cs := by rw [Blk, hb.2 g h.lt hk]; exact h

/-- An element of an array that is a value. -/
theorem wpList_index {P : Program} {ops : Array Oper} {rest : List Oper} {o : Oper} {a : Act} {w : World} {Q : Exit → Act → World → Prop} (hgd : o.guard = none) (ty e : TypeId) (x y : Operand) (ho : o.op = .index ty x y)
    (n : Nat) (d : TypeDesc) (hu : P.underlying ty = some (.array n e)) (he : P.underlying e = some d) (hd : (match d with | .struct _ | .array _ _ => true | _ => false) = false) (hi : (P.info? e).map (·.size) = some 1)
    (cs : Array Value) (k : Nat) (v : Value) (hx : a.eval x = .agg cs) (hy : a.eval y = .int .i64 (k : Int)) (hk : k < n) (hv : cs[k]? = some v)
    (h : wpList P ops Q rest (a.put o.dst v) w) : wpList P ops Q (o :: rest) a w := by
  refine wpList_plain hgd fun K hK => ?_
  have hr : (Instr.index ty (.agg cs) (.int .i64 (k : Int))).run P w = .ok v w := by
    cases hq : P.info? e with
    | none => simp [hq] at hi
    | some i =>
      have hs : i.size = 1 := by simpa [hq] using hi
      have hagg : (isAgg e).run P w = .ok false w := by
        unfold isAgg
        rw [Sem.run_bind, run_underlying he w]
        cases d <;> simp_all
      have hkn : ¬ n ≤ k := by omega
      simp [Instr.index, asIntOf, run_underlying hu, hkn, part, sizeOf, typeInfo, hq, hs, hagg, hv]
  unfold Oper.wp execOp
  simp only [ho, hx, hy, hr, Sem.run_bind, Sem.run_pure, Result.andThen_ok]
  exact hK _ _ h
end Go.Proofs.Ytahmdccalgdiaaa
