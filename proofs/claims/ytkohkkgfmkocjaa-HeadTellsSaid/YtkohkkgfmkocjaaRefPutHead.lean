/-
  The contract of the document's own PutHead: the same bytes as head.Put's.
-/
import Derived.Test.YtkohkkgfmkocjaaRefHeadA
import Derived.Test.YtkohkkgfmkocjaaHeadPut
namespace Go.Proofs.Ytkohkkgfmkocjaa
open Go.RowKit

/-- What PutHead answers. -/
def RPut (h : Hd) (w : World) (e : Ending) (w' : World) : Prop :=
  (rowF h.Q = true ∧ ∃ A c, e = .returned (.tuple #[.slice A h.L.length c, .bool true]) ∧ OB w' w.heap.size 5 A h.L.length c h.L ∧ Grow w w') ∨
  (rowF h.Q = false ∧ e = .returned (.tuple #[.slice none 0 0, .bool false]) ∧ Grow w w')

theorem Hd.fstQ (h : Hd) : h.Q.map (·.1) = h.N := rfl
theorem Hd.sndQ (h : Hd) : h.Q.map (·.2) = hRow h.wide := rfl

theorem NS.of_blk13 {w : World} {B g : Nat} {k : IntKind} {t : TypeId} {cs : Array Value} {l : List Nat} (h : Blk w g t cs) (hl : l.length = 13) (hB : g < B) (hcs : cs = (l.map (ival k)).toArray) : NS w B k (some ⟨g, 0, none⟩) 13 13 l := by
  have := NS.of_blk (B := B) h hcs hB (by rw [hl]; decide)
  rwa [hl] at this

set_option maxHeartbeats 1000000 in
theorem rPut_any (h : Hd) (ok : h.Ok) (w : World) : Calls Try.prog 8 #[h.V] w (RPut h w) := by
  have HRw := Lib.hid (h.rowed ok)
  have HQ1 := Lib.hid h.fstQ
  have HQ2 := Lib.hid h.sndQ
  have HI := Lib.hid (fun w => refIdent_any h.wide h.big h.o h.a w)
  have HL : Hid (h.L = idL h.wide h.big h.o h.a ++ rowB h.big h.Q) := Lib.hid rfl
  unfold RPut
  generalize h.L = L at HL ⊢
  obtain ⟨wide, big, o, a, ty, ma, en, ph, sh, fl, pn, sn, st⟩ := h
  obtain ⟨k1, k2, k3, k4, k5, k6, k7, k8, k9⟩ := ok
  generalize Hd.Q ⟨wide, big, o, a, ty, ma, en, ph, sh, fl, pn, sn, st⟩ = q at *
  unfold Hd.V Hd.C
  simp only [] at *
  obtain ⟨P, hP⟩ : ∃ P, P = ifSome ((pn : Int) != 0) (byWide wide 32 56) := ⟨_, rfl⟩
  obtain ⟨T, hT⟩ : ∃ T, T = ifSome ((sh : Int) != 0) (byWide wide 40 64) := ⟨_, rfl⟩
  have HNe : Hid (Hd.N ⟨wide, big, o, a, ty, ma, en, ph, sh, fl, pn, sn, st⟩ = [ty, ma, 1, en, ph, sh, fl, hSize wide, P, pn, T, sn, st]) := by
    rw [hP, hT]; exact Lib.hid rfl
  rw [HNe.out] at HQ1
  unfold idV at HI
  generalize (o.toNat : Int) = ov at HI ⊢
  generalize (a.toNat : Int) = av at HI ⊢
  have HSz := Lib.hid (fun w => sizes_any wide big w)
  have HRo := Lib.hid (fun w => headRow_any wide big w)
  have s0 : hSize wide < 100 := by cases wide <;> decide
  have s1 : byWide wide 32 56 < 100 := by cases wide <;> decide
  have s2 : byWide wide 40 64 < 100 := by cases wide <;> decide
  generalize hSize wide = S at HQ1 HSz s0
  generalize byWide wide 32 56 = S1 at hP HSz s1
  generalize byWide wide 40 64 = S2 at hT HSz s2
  have z1 : IntKind.u64.wrap (ty : Int) = (ty : Int) := by rw [IntKind.wrap_u64]; omega
  have z2 : IntKind.u64.wrap (ma : Int) = (ma : Int) := by rw [IntKind.wrap_u64]; omega
  have z3 : IntKind.u64.wrap (fl : Int) = (fl : Int) := by rw [IntKind.wrap_u64]; omega
  have z4 : IntKind.u64.wrap (pn : Int) = (pn : Int) := by rw [IntKind.wrap_u64]; omega
  have z5 : IntKind.u64.wrap (sn : Int) = (sn : Int) := by rw [IntKind.wrap_u64]; omega
  have z6 : IntKind.u64.wrap (st : Int) = (st : Int) := by rw [IntKind.wrap_u64]; omega
  have z7 : IntKind.u64.wrap (S : Int) = (S : Int) := by rw [IntKind.wrap_u64]; omega
  have z8 : IntKind.u64.wrap (S1 : Int) = (S1 : Int) := by rw [IntKind.wrap_u64]; omega
  have z9 : IntKind.u64.wrap (S2 : Int) = (S2 : Int) := by rw [IntKind.wrap_u64]; omega
  clear k1 k2 k3 k4 k5 k6 k7 k8 k9 s0 s1 s2
  go_enter Try.func8, Try.ntmps8
  go_wp2_with fail
  generalize hW : World.alloc _ _ = W0
  obtain ⟨b1, bf, hg0⟩ := blk2 hW
  refine (HSz.out W0).mono ?_
  rintro e w1 ⟨rfl, hg1⟩
  have HB1 := Lib.hid (b1.grow hg1)
  have HBF := Lib.hid (bf.grow hg1)
  have HG1 : Hid (Grow w w1) := hg0.trans hg1
  clear hW b1 bf hg0 hg1
  obtain ⟨x0, x1, x2, x3, x4, x5, x6, x7, x8, x9, x10, x11, x12⟩ := HB1.out.c13
  cases hp : ((pn : Int) == 0) <;> cases hs : ((sh : Int) == 0)
  all_goals
    rw [show ((pn : Int) != 0) = !((pn : Int) == 0) from rfl, hp] at hP
    rw [show ((sh : Int) != 0) = !((sh : Int) == 0) from rfl, hs] at hT
    simp only [ifSome, Bool.not_true, Bool.not_false, if_true, Bool.false_eq_true, if_false] at hP hT
    rw [hP, hT] at HQ1
    clear hP hT
    go_wp2_with fail
  all_goals
    clear x0 x1 x2 x3 x4 x5 x6 x7 x8 x9 x10 x11 x12 z1 z2 z3 z4 z5 z6 z7 z8 z9 hp hs
    generalize hW : World.alloc _ _ = W2
    obtain ⟨bl, hg2⟩ := blk1 hW
    clear hW
    have HNS : Hid (NS W2 W2.heap.size .u64 (some ⟨w1.heap.size, 0, none⟩) 13 13 (q.map (·.1))) := by
      rw [HQ1.out]; exact NS.of_blk13 bl rfl bl.lt rfl
    have HB2 := Lib.hid (HB1.out.grow hg2)
    have HBF2 := Lib.hid (HBF.out.grow hg2)
    have HG2 : Hid (Grow w W2) := HG1.out.trans hg2
    generalize w1.heap.size = gl at HNS ⊢
    clear bl hg2 HB1 HBF HG1
    refine wp_region_chain [(0, true), (1, true), (3, true), (4, true), (2, false), (5, false), (6, true), (7, true), (8, true), (9, true), (10, true)] (by kernel_rfl) (by kernel_rfl) (by kernel_rfl) ?_
    have HFc : Hid (∀ W, Grow W2.drew W → _ ∧ _) := fun W hW => ((HBF2.out.drew).grow hW).c2
    have HNS3 : Hid (NS W2.drew W2.drew.heap.size .u64 (some ⟨gl, 0, none⟩) 13 13 (q.map (·.1))) := HNS.out.belowAt (Grow.of_drew W2) (Nat.le_refl _)
    have HB3 := Lib.hid HB2.out.drew
    have HG3 : Hid (Grow w W2.drew) := HG2.out.trans (Grow.of_drew _)
    generalize W2.drew = W3 at HFc HNS3 HB3 HG3 ⊢
    clear HNS HB2 HBF2 HG2
    repeat (refine chain_take rfl (by rfl) ?_ (fun W hG => ?_) ?_; rotate_left; (obtain ⟨f1, f2⟩ := HFc.out W hG; go_simp; rfl); simp only [Act.put, List.setIfInBounds_toArray, List.set_cons_zero, List.set_cons_succ])
    clear HFc
    refine chain_only rfl (by rfl) (fun K hK => ?_)
    go_simp
    refine (HRo.out _).mono ?_
    rintro e W4 ⟨gr, rfl, hbr, hle4, hg4⟩
    refine hK _ _ hg4 ?_
    clear hK K
    have HNS4 : Hid (NS W4 W4.heap.size .u64 (some ⟨gl, 0, none⟩) 13 13 (q.map (·.1))) := (HNS3.out.belowAt hg4 (Nat.le_refl _)).more hg4.size
    have HNR4 : Hid (NS W4 W4.heap.size .i64 (some ⟨gr, 0, none⟩) 13 13 (q.map (·.2))) := by
      rw [HQ2.out]; exact NS.of_blk13 hbr rfl hbr.lt rfl
    have HB4 := Lib.hid (HB3.out.grow hg4)
    have HG4 : Hid (Grow w W4) := HG3.out.trans hg4
    clear hg4 hbr hle4 HNS3 HB3 HG3
    refine chain_only rfl (by rfl) (fun K hK => ?_)
    go_simp
    refine (row_any q HRw.out _ 13 13 _ 13 13 big _ HNS4.out HNR4.out).mono ?_
    rintro e W5 ⟨A2, c2, rfl, ho5, hg5⟩
    refine hK _ _ hg5 ?_
    clear hK K
    have HO5 := Lib.hid ho5
    have HB5 := Lib.hid (HB4.out.grow hg5)
    have HG5 : Hid (Grow w W5) := HG4.out.trans hg5
    clear ho5 hg5 HNS4 HNR4 HB4 HG4
    repeat (refine chain_take rfl (by rfl) ?_ (fun W hG => ?_) ?_; rotate_left; (go_simp; rfl); simp only [Act.put, List.setIfInBounds_toArray, List.set_cons_zero, List.set_cons_succ])
    refine chain_done ?_
    have hrl := rowB_le HRw.out big q.length (Nat.le_refl _)
    rw [List.take_length] at hrl
    have HQL : Hid ((rowB big q).length ≤ 800) := by have := HRw.out.few; exact Lib.hid (by omega)
    clear hrl
    generalize hrf : rowF q = rf
    cases rf
    · have HF := Lib.hid hrf
      clear hrf
      go_wp2
      go_ret2
      exact .inr ⟨HF.out, rfl, HG5.out⟩
    · have HF := Lib.hid hrf
      clear hrf
      obtain ⟨x0, x1, x2, x3, x4, x5, x6, x7, x8, x9, x10, x11, x12⟩ := HB5.out.c13
      go_wp2_with fail
      clear x0 x1 x2 x3 x4 x5 x6 x7 x8 x9 x10 x11 x12
      refine (HI.out _).mono ?_
      rintro e W6 ⟨rfl, ob, hw6⟩
      have hg6 : Grow W5 W6 := by rw [hw6]; exact (Grow.of_alloc _ _).trans (Grow.of_alloc _ _)
      have HBB : Hid (Blk W6 (W5.heap.size + 1) 5 ((idL wide big o a).map byt).toArray) := by
        have := Blk.new (W5.alloc ob) 5 (idC wide big o a)
        rw [show (W5.alloc ob).heap.size = W5.heap.size + 1 by simp] at this
        rw [hw6]; exact this
      have HI0 : Hid (OB W6 w.heap.size 5 (some ⟨W5.heap.size + 1, 0, none⟩) 16 16 (idL wide big o a)) := OB.of_blk HBB.out (by have := HG5.out.size; omega) (by simp [idL, maxLen])
      have HO6 := Lib.hid (HO5.out.keep hg6)
      have HG6 : Hid (Grow w W6) := HG5.out.trans hg6
      have HLL : Hid ((idL wide big o a).length = 16) := Lib.hid rfl
      generalize W5.heap.size + 1 = gi at HI0 ⊢
      generalize idL wide big o a = I at HL HI0 HLL
      clear hw6 hg6 HBB HO5 HB5 HG5
      go_wp2_with (at_builtin; refine wpList_appendB _ rfl (.tmp 70) (.tmp 71) 31 rfl w.heap.size 5 Try.underlying31 (by kernel_rfl) _ 16 16 I rfl HI0.out W6.heap.size A2 _ c2 _ rfl HO6.out.rb (by have := HQL.out; omega) HG6.out.size ?_; intro A7 c7 w7 ho7 hb7; have HO7 := Lib.hid ho7; have HG7 : Hid (Grow w w7) := HG6.out.trans' hb7; clear ho7 hb7)
      have HE : Hid (16 + (rowB big q).length = L.length) := by
        have := HLL.out
        rw [HL.out, List.length_append, this]
        exact Lib.hid rfl
      rw [HE.out, ← HL.out] at HO7
      go_ret2
      exact .inl ⟨HF.out, A7, c7, by rw [← HE.out]; rfl, HO7.out, HG7.out⟩
end Go.Proofs.Ytkohkkgfmkocjaa
