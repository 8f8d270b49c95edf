/-
  The document's own plan in memory: its cells and its two rows; small words for the walk of PlanOf.
-/
import Derived.Test.YthebemikhjglbaaRfPlMath
import Derived.Test.YthebemikhjglbaaRefSizes
import Derived.Test.YthebemikhjglbaaFork3
import Derived.Test.YthebemikhjglbaaCut
namespace Go.Proofs.Ythebemikhjglbaa
open Go.RowKit

theorem Md.segC_load {m : Md} {s : Sg} (h : m.segC s = 0) (ht : s.typ = 1) : s.pl.inn = -1 := by
  unfold Md.segC at h
  split at h
  · omega
  split at h
  · omega
  split at h
  · omega
  split at h
  · omega
  · rename_i h1
    omega
theorem rows_zero (w : World) (n : Nat) : Row (w.alloc (.cells (madeCells #[.int .u64 0] n) 28)) w.heap.size n (fun _ => 0) :=
  (World.rowIs_made w (.int .u64 0) n 28).congr fun i _ => by simp [ivl]
theorem Row.below {w w' : World} {g n B : Nat} {f : Nat → Nat} (h : Row w g n f) (hg : Below B w w') (hB : g < B) : Row w' g n f := World.rowIs.of_block h (hg.block g hB)
theorem Row.grow {w w' : World} {g n : Nat} {f : Nat → Nat} (h : Row w g n f) (hg : Grow w w') : Row w' g n f := h.below hg h.lt
theorem Row.set1 {w : World} {g n : Nat} {f : Nat → Nat} (h : Row w g n f) (k v : Nat) : Row (w.setCell ⟨g, k, none⟩ (.int .u64 (v : Int))) g n (put1 f k v) :=
  (World.rowIs.set h k _).congr fun j _ => by unfold ivl put1; split <;> rfl
theorem Row.setOther {w : World} {g n : Nat} {f : Nat → Nat} (h : Row w g n f) {a : Addr} (ha : g ≠ a.block) (v : Value) : Row (w.setCell a v) g n f := World.rowIs.setOther h ha v
theorem rp_ret {K : Ending → World → Prop} {W : World} {tmps : Array Value} {g : Nat} {cs : Array Value} {ev : Value} (ht : tmps.getD 2 undef = .pointer (some ⟨g, 0, none⟩)) (he : tmps.getD 3 undef = ev)
    (hx : Blk W g 42 cs) (hn : cs.size = 5) (hk : K (.returned (.tuple #[.agg cs, ev])) W) : bodyPost Try.prog Try.f8 K .ret ⟨tmps, []⟩ W := by
  refine bodyPost_ret (v := .tuple #[.agg cs, ev]) ?_ rfl hk
  rw [results_cell_tmp rfl, ht, he]
  simp [asAddr, Result.andThen, hx.var _ _ Try.underlying42 rfl (by rw [hn]; kernel_rfl)]

/-- What PlanOf answers. -/
def RPlanR (m : Md) (w : World) (e : Ending) (w' : World) : Prop := ∃ cs, e = .returned (.tuple #[.agg cs, .int .i64 (m.planC : Nat)]) ∧ PlanR m.planD w' cs ∧ Grow w w'

/-- The three blocks of the plan: its cells, and its two rows. -/
structure Pb (w : World) (gx ga gb n1 n2 : Nat) (cs : Array Value) (F G : Nat → Nat) : Prop where
  x : Blk w gx 42 cs
  a : Row w ga n1 F
  b : Row w gb n2 G
  ax : ga ≠ gx
  bx : gb ≠ gx
  ab : ga ≠ gb
theorem Pb.grow {w w' : World} {gx ga gb n1 n2 : Nat} {cs : Array Value} {F G : Nat → Nat} (h : Pb w gx ga gb n1 n2 cs F G) (hg : Grow w w') : Pb w' gx ga gb n1 n2 cs F G :=
  ⟨h.x.grow hg, h.a.grow hg, h.b.grow hg, h.ax, h.bx, h.ab⟩
theorem Pb.setA {w : World} {gx ga gb n1 n2 : Nat} {cs : Array Value} {F G : Nat → Nat} (h : Pb w gx ga gb n1 n2 cs F G) (k v : Nat) : Pb (w.setCell ⟨ga, k, none⟩ (.int .u64 (v : Int))) gx ga gb n1 n2 cs (put1 F k v) G :=
  ⟨h.x.cellset (fun e => h.ax e.symm) _, h.a.set1 k v, h.b.setOther (fun e => h.ab e.symm) _, h.ax, h.bx, h.ab⟩
theorem Pb.setB {w : World} {gx ga gb n1 n2 : Nat} {cs : Array Value} {F G : Nat → Nat} (h : Pb w gx ga gb n1 n2 cs F G) (k v : Nat) : Pb (w.setCell ⟨gb, k, none⟩ (.int .u64 (v : Int))) gx ga gb n1 n2 cs F (put1 G k v) :=
  ⟨h.x.cellset (fun e => h.bx e.symm) _, h.a.setOther (fun e => h.ab e) _, h.b.set1 k v, h.ax, h.bx, h.ab⟩
theorem Pb.setX {w : World} {gx ga gb n1 n2 : Nat} {cs : Array Value} {F G : Nat → Nat} (h : Pb w gx ga gb n1 n2 cs F G) (k : Nat) (v : Value) (hk : k < cs.size) : Pb (w.setCell ⟨gx, k, none⟩ v) gx ga gb n1 n2 (cs.set k v hk) F G :=
  ⟨h.x.putAt k v hk, h.a.setOther h.ax _, h.b.setOther h.bx _, h.ax, h.bx, h.ab⟩
/-- Nothing has changed but one cell. -/
def But (g k : Nat) (w W : World) : Prop := w.heap.size ≤ W.heap.size ∧ (∀ j, j < w.heap.size → j ≠ g → W.heap[j]? = w.heap[j]?) ∧ ∀ j, j ≠ k → g < w.heap.size → W.cell? ⟨g, j, none⟩ = w.cell? ⟨g, j, none⟩
theorem leap_but (g k : Nat) : Leap (But g k) :=
  ⟨fun _ => ⟨Nat.le_refl _, fun _ _ _ => rfl, fun _ _ _ => rfl⟩,
   fun _ _ _ h h' => ⟨Nat.le_trans h.1 h'.1, fun j hj hg => (h'.2.1 j (Nat.lt_of_lt_of_le hj h.1) hg).trans (h.2.1 j hj hg), fun j hj hg => (h'.2.2 j hj (Nat.lt_of_lt_of_le hg h.1)).trans (h.2.2 j hj hg)⟩⟩
theorem Row.but {w : World} {g n k : Nat} {f : Nat → Nat} (h : Row w g n f) (hk : k < n) (v : Value) : But g k w (w.setCell ⟨g, k, none⟩ v) := by
  obtain ⟨cs, h1, h2, h3⟩ := h
  have hb : Blk w g 28 cs := h1
  refine ⟨by simp, fun j hj hg => Deep.blk_setCell_other _ _ _ _ hg, fun j hj _ => ?_⟩
  rw [(hb.putAt k v (by omega)).at, hb.at, Array.getElem?_set]
  rw [if_neg (by omega)]
theorem Blk.but {w W : World} {g g' k : Nat} {t : TypeId} {cs : Array Value} (h : Blk w g t cs) (hb : But g' k w W) (hne : g ≠ g') : Blk W g t cs := by rw [Blk, hb.2.1 g h.lt hne]; exact h
theorem Row.but_cell {w W : World} {g n k i : Nat} {f : Nat → Nat} (h : Row w g n f) (hb : But g k w W) (hi : i < n) (hik : i ≠ k) : W.cell? ⟨g, i, none⟩ = some (.int .u64 (f i : Int)) := (hb.2.2 i hik h.lt).trans (World.rowIs.cell h hi)
theorem but_cell {w W : World} {g k b o : Nat} {v : Value} (hb : But g k w W) (hlt : b < w.heap.size) (hne : b ≠ g) (h : w.cell? ⟨b, o, none⟩ = some v) : W.cell? ⟨b, o, none⟩ = some v := (World.cell?_of_block (a := ⟨b, o, none⟩) (hb.2.1 b hlt hne)).trans h
theorem kept_cell {S : Nat → Prop} {w W : World} {b o : Nat} {v : Value} (hb : Kept S w W) (hlt : b < w.heap.size) (hS : S b) (h : w.cell? ⟨b, o, none⟩ = some v) : W.cell? ⟨b, o, none⟩ = some v := (World.cell?_of_block (a := ⟨b, o, none⟩) (hb.2 b hlt hS)).trans h
theorem wrap_mod (a b : Nat) : IntKind.u64.wrap ((a : Int) + (b : Int)) = (((a + b) % 18446744073709551616 : Nat) : Int) := by rw [IntKind.wrap_u64]; omega
theorem Pb.drewN {w : World} {gx ga gb n1 n2 : Nat} {cs : Array Value} {F G : Nat → Nat} (h : Pb w gx ga gb n1 n2 cs F G) (n : Nat) : Pb (w.drewN n) gx ga gb n1 n2 cs F G := h.grow (Grow.of_drewN _ _)
theorem Pb.drew {w : World} {gx ga gb n1 n2 : Nat} {cs : Array Value} {F G : Nat → Nat} (h : Pb w gx ga gb n1 n2 cs F G) : Pb w.drew gx ga gb n1 n2 cs F G := h.grow (Grow.of_drew _)
end Go.Proofs.Ythebemikhjglbaa
