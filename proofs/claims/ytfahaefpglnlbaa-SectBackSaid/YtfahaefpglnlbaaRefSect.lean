/-
  The contracts of the document's own sectRow and PutSect: the same bytes as sect.Put's.
-/
import Derived.Test.YtfahaefpglnlbaaSecPut
import Derived.Test.YtfahaefpglnlbaaRefForm
namespace Go.Proofs.Ytfahaefpglnlbaa
open Go.RowKit

theorem sectRow_any (wide big : Bool) (w : World) : Calls Try.prog 18 #[.agg #[.bool wide, .bool big]] w fun e w' =>
    ∃ g, e = .returned (.slice (some ⟨g, 0, none⟩) 10 10) ∧ Blk w' g 3 (i64s (sRow wide)) ∧ w.heap.size ≤ g ∧ Grow w w' := by
  go_enter Try.func18, Try.ntmps18
  go_wp2_with fail
  refine (word_any wide big _).mono ?_
  rintro e w1 ⟨rfl, hg⟩
  have HG := Lib.hid ((Grow.of_alloc _ _).trans hg)
  clear hg
  go_wp2
  go_ret
  exact ⟨w1.heap.size, rfl, Blk.new _ _ _, HG.out.size, HG.out.trans (Grow.of_alloc _ _)⟩

/-- What PutSect answers. -/
def RPutS (p : Sc) (wide big : Bool) (w : World) (e : Ending) (w' : World) : Prop :=
  ∃ A c, e = .returned (.tuple #[.slice A (p.L wide big).length c, .bool (rowF (p.Q wide))]) ∧ OB w' w.heap.size 5 A (p.L wide big).length c (p.L wide big) ∧ Grow w w'

set_option maxRecDepth 100000 in
set_option maxHeartbeats 1000000 in
theorem rPutSect_any (p : Sc) (ok : p.Ok) (wide big : Bool) (w : World) : Calls Try.prog 7 #[p.V, .agg #[.bool wide, .bool big]] w (RPutS p wide big w) := by
  have HRw := Lib.hid (p.rowed ok wide)
  have HRo := Lib.hid (fun w => sectRow_any wide big w)
  unfold RPutS Sc.L
  have HQ1 : Hid ((p.Q wide).map (·.1) = [p.na, p.ty, p.fl, p.ad, p.off, p.sz, p.li, p.inf, p.al, p.en]) := Lib.hid (p.fstQ wide)
  have HQ2 : Hid ((p.Q wide).map (·.2) = sRow wide) := Lib.hid (p.sndQ wide)
  have HSR : Hid ((sRow wide).length = 10) := Lib.hid (len_sRow wide)
  generalize p.Q wide = q at *
  generalize sRow wide = row at HQ2 HRo HSR
  obtain ⟨na, ty, fl, ad, off, sz, li, inf, al, en⟩ := p
  obtain ⟨k1, k2, k3, k4, k5, k6, k7, k8, k9, k10⟩ := ok
  unfold Sc.V Sc.C
  simp only [] at *
  have z1 : IntKind.u64.wrap (na : Int) = (na : Int) := by rw [IntKind.wrap_u64]; omega
  have z2 : IntKind.u64.wrap (ty : Int) = (ty : Int) := by rw [IntKind.wrap_u64]; omega
  have z3 : IntKind.u64.wrap (li : Int) = (li : Int) := by rw [IntKind.wrap_u64]; omega
  have z4 : IntKind.u64.wrap (inf : Int) = (inf : Int) := by rw [IntKind.wrap_u64]; omega
  clear k1 k2 k3 k4 k5 k6 k7 k8 k9 k10
  go_enter Try.func7, Try.ntmps7
  go_wp2_with fail
  generalize hW : World.alloc _ _ = W0
  obtain ⟨b1, bf, hg0⟩ := blk2 hW
  clear hW
  refine wp_region_fork [(0, true), (1, true), (2, true), (3, true), (4, true), (5, true), (6, true), (7, true), (8, true), (9, true), (10, true), (11, true), (12, true), (13, true), (14, true), (15, true), (16, true), (17, true), (18, true), (19, true), (20, true), (21, true), (22, true), (23, true), (25, true), (27, true), (28, true)] 24 [(26, false), (29, false), (30, true), (31, true), (32, true), (33, true)] 26 [(24, false), (29, false), (30, true), (31, true), (32, true), (33, true)] (by kernel_rfl) (by kernel_rfl) (by kernel_rfl) ?_
  have HX : Hid (∀ W, Grow W0.drew W → _ ∧ (_ ∧ _)) := fun W hW => ⟨((b1.drew).grow hW).c10, ((bf.drew).grow hW).c2⟩
  have HG0 : Hid (Grow w W0.drew) := hg0.trans (Grow.of_drew _)
  generalize W0.drew = W1 at HX HG0 ⊢
  clear b1 bf hg0
  repeat (refine chain_take rfl (by rfl) ?_ (fun W hG => ?_) ?_; rotate_left; (obtain ⟨⟨x0, x1, x2, x3, x4, x5, x6, x7, x8, x9⟩, f0, f1⟩ := HX.out W hG; go_simp; rfl); simp only [Act.put, List.setIfInBounds_toArray, List.set_cons_zero, List.set_cons_succ])
  clear HX z1 z2 z3 z4
  refine chain_done ⟨step_op rfl (by rfl) (fun K hK => ?_), step_op rfl (by rfl) (fun K hK => ?_)⟩
  · go_simp
    refine hK _ _ (Grow.of_alloc _ _) ?_
    clear hK K
    generalize hW : World.alloc _ _ = W2
    obtain ⟨bl, hg2⟩ := blk1 hW
    clear hW
    have HNS : Hid (NS W2 W2.heap.size .u64 (some ⟨W1.heap.size, 0, none⟩) 10 10 (q.map (·.1))) := by
      rw [HQ1.out]; exact NS.of_blkN bl rfl (by decide) bl.lt rfl
    have HG2 : Hid (Grow w W2) := HG0.out.trans hg2
    generalize W1.heap.size = gl at HNS ⊢
    clear bl hg2 HG0
    refine chain_only rfl (by rfl) (fun K hK => ?_)
    go_simp
    refine (HRo.out _).mono ?_
    rintro e W4 ⟨gr, rfl, hbr, hle4, hg4⟩
    refine hK _ _ hg4 ?_
    clear hK K
    have HNS4 : Hid (NS W4 W4.heap.size .u64 (some ⟨gl, 0, none⟩) 10 10 (q.map (·.1))) := (HNS.out.belowAt hg4 (Nat.le_refl _)).more hg4.size
    have HNR4 : Hid (NS W4 W4.heap.size .i64 (some ⟨gr, 0, none⟩) 10 10 (q.map (·.2))) := by
      rw [HQ2.out]; exact NS.of_blkN hbr HSR.out (by decide) hbr.lt rfl
    have HG4 : Hid (Grow w W4) := HG2.out.trans hg4
    clear hg4 hbr hle4 HNS HG2
    refine chain_only rfl (by rfl) (fun K hK => ?_)
    go_simp
    refine (row_any q HRw.out _ 10 10 _ 10 10 big _ HNS4.out HNR4.out).mono ?_
    rintro e W5 ⟨A2, c2, rfl, ho5, hg5⟩
    refine hK _ _ hg5 ?_
    clear hK K
    have HO5 := Lib.hid (ho5.mono HG4.out.size)
    have HG5 : Hid (Grow w W5) := HG4.out.trans hg5
    clear ho5 hg5 HNS4 HNR4 HG4
    repeat (refine chain_take rfl (by rfl) ?_ (fun W hG => ?_) ?_; rotate_left; (go_simp; rfl); simp only [Act.put, List.setIfInBounds_toArray, List.set_cons_zero, List.set_cons_succ])
    refine chain_done ?_
    go_wp2
    go_ret2
    exact ⟨A2, c2, rfl, HO5.out, HG5.out⟩
  · go_simp
    refine (HRo.out _).mono ?_
    rintro e W2 ⟨gr, rfl, hbr, hle2, hg2⟩
    refine hK _ _ hg2 ?_
    clear hK K
    have HNR : Hid (NS W2 W2.heap.size .i64 (some ⟨gr, 0, none⟩) 10 10 (q.map (·.2))) := by
      rw [HQ2.out]; exact NS.of_blkN hbr HSR.out (by decide) hbr.lt rfl
    have HG2 : Hid (Grow w W2) := HG0.out.trans hg2
    clear hbr hle2 hg2 HG0
    refine chain_only rfl (by rfl) (fun K hK => ?_)
    go_simp
    refine hK _ _ (Grow.of_alloc _ _) ?_
    clear hK K
    generalize hW : World.alloc _ _ = W4
    obtain ⟨bl, hg4⟩ := blk1 hW
    clear hW
    have HNS4 : Hid (NS W4 W4.heap.size .u64 (some ⟨W2.heap.size, 0, none⟩) 10 10 (q.map (·.1))) := by
      rw [HQ1.out]; exact NS.of_blkN bl rfl (by decide) bl.lt rfl
    have HNR4 : Hid (NS W4 W4.heap.size .i64 (some ⟨gr, 0, none⟩) 10 10 (q.map (·.2))) := (HNR.out.belowAt hg4 (Nat.le_refl _)).more hg4.size
    have HG4 : Hid (Grow w W4) := HG2.out.trans hg4
    generalize W2.heap.size = gl at HNS4 ⊢
    clear bl hg4 HNR HG2
    refine chain_only rfl (by rfl) (fun K hK => ?_)
    go_simp
    refine (row_any q HRw.out _ 10 10 _ 10 10 big _ HNS4.out HNR4.out).mono ?_
    rintro e W5 ⟨A2, c2, rfl, ho5, hg5⟩
    refine hK _ _ hg5 ?_
    clear hK K
    have HO5 := Lib.hid (ho5.mono HG4.out.size)
    have HG5 : Hid (Grow w W5) := HG4.out.trans hg5
    clear ho5 hg5 HNS4 HNR4 HG4
    repeat (refine chain_take rfl (by rfl) ?_ (fun W hG => ?_) ?_; rotate_left; (go_simp; rfl); simp only [Act.put, List.setIfInBounds_toArray, List.set_cons_zero, List.set_cons_succ])
    refine chain_done ?_
    go_wp2
    go_ret2
    exact ⟨A2, c2, rfl, HO5.out, HG5.out⟩
end Go.Proofs.Ytfahaefpglnlbaa
