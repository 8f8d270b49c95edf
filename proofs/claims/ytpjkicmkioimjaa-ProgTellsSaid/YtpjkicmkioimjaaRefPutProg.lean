/-
  The contract of the document's own PutProg: the same bytes as prog.Put's.
-/
import Derived.Test.YtpjkicmkioimjaaPhPut
namespace Go.Proofs.Ytpjkicmkioimjaa
open Go.RowKit

/-- What PutProg answers. -/
def RPutP (p : Pg) (wide big : Bool) (w : World) (e : Ending) (w' : World) : Prop :=
  ∃ A c, e = .returned (.tuple #[.slice A (p.L wide big).length c, .bool (rowF (p.Q wide))]) ∧ OB w' w.heap.size 5 A (p.L wide big).length c (p.L wide big) ∧ Grow w w'

set_option maxHeartbeats 400000 in
theorem rPutProg_any (p : Pg) (ok : p.Ok) (wide big : Bool) (w : World) : Calls Try.prog 7 #[p.V, .agg #[.bool wide, .bool big]] w (RPutP p wide big w) := by
  have HRw := Lib.hid (p.rowed ok wide)
  unfold RPutP Pg.L
  cases wide
  · have HQ1 : Hid ((p.Q false).map (·.1) = [p.ty, p.off, p.va, p.pa, p.fs, p.ms, p.fl, p.al]) := Lib.hid rfl
    have HQ2 : Hid ((p.Q false).map (·.2) = [4, 4, 4, 4, 4, 4, 4, 4]) := Lib.hid rfl
    generalize p.Q false = q at *
    obtain ⟨ty, fl, off, va, pa, fs, ms, al⟩ := p
    obtain ⟨k1, k2, k3, k4, k5, k6, k7, k8⟩ := ok
    unfold Pg.V Pg.C
    simp only [] at *
    have z1 : IntKind.u64.wrap (ty : Int) = (ty : Int) := by rw [IntKind.wrap_u64]; omega
    have z2 : IntKind.u64.wrap (fl : Int) = (fl : Int) := by rw [IntKind.wrap_u64]; omega
    clear k1 k2 k3 k4 k5 k6 k7 k8
    go_enter Try.func7, Try.ntmps7
    go_wp2_with fail
    generalize hW : World.alloc _ _ = W0
    obtain ⟨_, _, b3, b4, hg0⟩ := blk4 hW
    have HN1 : Hid (NS W0 W0.heap.size .u64 (some ⟨w.heap.size + 1 + 1, 0, none⟩) 8 8 (q.map (·.1))) := by rw [HQ1.out]; exact NS.of_blkN b3 rfl (by decide) b3.lt rfl
    have HN2 : Hid (NS W0 W0.heap.size .i64 (some ⟨w.heap.size + 1 + 1 + 1, 0, none⟩) 8 8 (q.map (·.2))) := by rw [HQ2.out]; exact NS.of_blkN b4 rfl (by decide) b4.lt rfl
    clear hW b3 b4
    refine (row_any q HRw.out _ 8 8 _ 8 8 big _ HN1.out HN2.out).mono ?_
    rintro e W5 ⟨A2, c2, rfl, ho5, hg5⟩
    have HG := Lib.hid (hg0.trans hg5)
    have HO : Hid (OB W5 w.heap.size 5 A2 (rowB big q).length c2 (rowB big q)) := ho5.mono hg0.size
    clear ho5 hg5 hg0 z1 z2
    go_wp2
    go_ret2
    exact ⟨A2, c2, rfl, HO.out, HG.out⟩
  · have HQ1 : Hid ((p.Q true).map (·.1) = [p.ty, p.fl, p.off, p.va, p.pa, p.fs, p.ms, p.al]) := Lib.hid rfl
    have HQ2 : Hid ((p.Q true).map (·.2) = [4, 4, 8, 8, 8, 8, 8, 8]) := Lib.hid rfl
    generalize p.Q true = q at *
    obtain ⟨ty, fl, off, va, pa, fs, ms, al⟩ := p
    obtain ⟨k1, k2, k3, k4, k5, k6, k7, k8⟩ := ok
    unfold Pg.V Pg.C
    simp only [] at *
    have z1 : IntKind.u64.wrap (ty : Int) = (ty : Int) := by rw [IntKind.wrap_u64]; omega
    have z2 : IntKind.u64.wrap (fl : Int) = (fl : Int) := by rw [IntKind.wrap_u64]; omega
    clear k1 k2 k3 k4 k5 k6 k7 k8
    go_enter Try.func7, Try.ntmps7
    go_wp2_with fail
    generalize hW : World.alloc _ _ = W0
    obtain ⟨_, _, b3, b4, hg0⟩ := blk4 hW
    have HN1 : Hid (NS W0 W0.heap.size .u64 (some ⟨w.heap.size + 1 + 1, 0, none⟩) 8 8 (q.map (·.1))) := by rw [HQ1.out]; exact NS.of_blkN b3 rfl (by decide) b3.lt rfl
    have HN2 : Hid (NS W0 W0.heap.size .i64 (some ⟨w.heap.size + 1 + 1 + 1, 0, none⟩) 8 8 (q.map (·.2))) := by rw [HQ2.out]; exact NS.of_blkN b4 rfl (by decide) b4.lt rfl
    clear hW b3 b4
    refine (row_any q HRw.out _ 8 8 _ 8 8 big _ HN1.out HN2.out).mono ?_
    rintro e W5 ⟨A2, c2, rfl, ho5, hg5⟩
    have HG := Lib.hid (hg0.trans hg5)
    have HO : Hid (OB W5 w.heap.size 5 A2 (rowB big q).length c2 (rowB big q)) := ho5.mono hg0.size
    clear ho5 hg5 hg0 z1 z2
    go_wp2
    go_ret2
    exact ⟨A2, c2, rfl, HO.out, HG.out⟩
end Go.Proofs.Ytpjkicmkioimjaa
