/-
  Several texts in one: The contract of the document's own PlanOf at any model; The contract of the document's own Word; The contract of the helper Code, at no error and at one of api's, itself; The contracts of the document's own Word, headRow, Sizes; and of Code at the errors that head tells; The contract of the document's own PutHead; The contract of the document's own PutProg; The contracts of the document's own sectRow and PutSect; The contracts of file; Slices of slices of bytes, of no bytes too, wherever they begin (at the end of their room too); copy of bytes into a block of the call's own; and what of a file's writing stays.
-/
import Derived.Test.YtlccbekalccahaaGreatDoorFeH22
import Derived.Test.YtlccbekalccahaaGreatDoorFeH23
import Derived.Test.YtlccbekalccahaaGreatDoorRows
import Derived.Test.YtlccbekalccahaaGreatDoorFeH21
import Derived.OwnWalk
import Derived.WalkKit
import Derived.Lib.Hide
import Derived.Test.YtlccbekalccahaaGreatDoorFeH13
import Derived.Test.YtlccbekalccahaaGreatDoorFeH4
import Derived.Test.YtlccbekalccahaaGreatDoorFeH15
import Derived.Test.YtlccbekalccahaaGreatDoorFeH16
import Derived.Test.YtlccbekalccahaaGreatDoorFeH2
import Derived.Test.YtlccbekalccahaaGreatDoorFeH17

namespace Go.Proofs.YtlccbekalccahaaGreatDoor
open Go.RowKit

theorem rPlan_any (m : Md) (ok : m.Ok) (A1 A2 : Option Addr) (n1 c1 n2 c2 : Nat) (w : World) (g1 : ZR sgK w w.heap.size A1 n1 c1 m.segs) (g2 : ZR seK w w.heap.size A2 n2 c2 m.secs) :
    Calls Tryz.prog 18 #[.agg (mdC m (.slice A1 n1 c1) (.slice A2 n2 c2))] w (RPlanR m w) := by
  by_cases h : 0 < n1
  · exact rPlan_pos m ok A1 A2 n1 c1 n2 c2 w h g1 g2
  · exact rPlan_zero m ok A1 A2 n1 c1 n2 c2 w (by omega) g1 g2
end Go.Proofs.YtlccbekalccahaaGreatDoor

namespace Go.Proofs.YtlccbekalccahaaGreatDoor
open Go.RowKit

theorem word_any (wide big : Bool) (w : World) : Calls Tryz.prog 108 #[.agg #[.bool wide, .bool big]] w fun e w' => e = .returned (.int .i64 (byWide wide 4 8 : Nat)) ∧ Grow w w' := by
  cases wide
  · go_enter Tryz.func108, Tryz.ntmps108
    go_wp2
    go_ret
    exact ⟨rfl, Grow.of_alloc _ _⟩
  · go_enter Tryz.func108, Tryz.ntmps108
    go_wp2
    go_ret
    exact ⟨rfl, Grow.of_alloc _ _⟩
end Go.Proofs.YtlccbekalccahaaGreatDoor

namespace Go.Proofs.YtlccbekalccahaaGreatDoor
open Go.RowKit

/-- Code at no error. -/
theorem code_nil (w : World) : Calls Tryz.prog 10 #[.nilIface] w fun e w' => e = .returned (.int .i64 0) ∧ w = w' := by
  go_enter Tryz.func10, Tryz.ntmps10
  go_wp2
  go_ret
  exact ⟨rfl, rfl⟩

/-- Two of api's errors are the same if their numbers are. -/
theorem eq_codes (a b : Int) (w : World) : (binOp .eql 37 (.iface 81 (.int .i64 a)) (.iface 81 (.int .i64 b))).run Tryz.prog w = .ok (.bool (a == b)) w := by kernel_rfl

set_option maxRecDepth 100000 in
/-- Code at an error that is one of api's, itself. -/
theorem code_some (c : Nat) (h0 : 0 < c) (h1 : c ≤ 12) (w : World) : Calls Tryz.prog 10 #[.iface 81 (.int .i64 c)] w fun e w' => e = .returned (.int .i64 c) ∧ w = w' := by
  go_enter Tryz.func10, Tryz.ntmps10
  go_wp2_with fail
  go_loop [3] (fun i => ∃ k : Nat, 1 ≤ k ∧ k ≤ c ∧ i = .int .i64 k) (fun i => 20 - (intOf i).toNat)
  case atStart => exact ⟨1, by omega, by omega, rfl⟩
  case round =>
    obtain ⟨k, hk1, hk, rfl⟩ := hrel
    have hq := eq_codes c k w
    by_cases e : k = c
    · subst e
      have hne : ((k : Int) == (k : Int)) = true := by simp
      rw [hne] at hq
      go_wp2
      go_ret
      exact ⟨rfl, rfl⟩
    · have hne : ((c : Int) == (k : Int)) = false := by simp; omega
      go_wp2
      go_round
      case rel => exact ⟨k + 1, by omega, by omega, by go_num⟩
      case measure => simp [intOf]; omega
end Go.Proofs.YtlccbekalccahaaGreatDoor

namespace Go.Proofs.YtlccbekalccahaaGreatDoor
open Go.RowKit

theorem headRow_any (wide big : Bool) (w : World) : Calls Tryz.prog 55 #[.agg #[.bool wide, .bool big]] w fun e w' =>
    ∃ g, e = .returned (.slice (some ⟨g, 0, none⟩) 13 13) ∧ Blk w' g 3 (i64s (hRow wide)) ∧ w.heap.size ≤ g ∧ Grow w w' := by
  go_enter Tryz.func55, Tryz.ntmps55
  go_wp2_with fail
  refine (word_any wide big _).mono ?_
  rintro e w1 ⟨rfl, hg⟩
  have HG := Lib.hid ((Grow.of_alloc _ _).trans hg)
  clear hg
  go_wp2
  go_ret
  exact ⟨w1.heap.size, rfl, Blk.new _ _ _, HG.out.size, HG.out.trans (Grow.of_alloc _ _)⟩

end Go.Proofs.YtlccbekalccahaaGreatDoor

namespace Go.Proofs.YtlccbekalccahaaGreatDoor
open Go.RowKit

/-- What PutHead answers. -/
def RPut (h : Hd) (w : World) (e : Ending) (w' : World) : Prop :=
  (rowF h.Q = true ∧ ∃ A c, e = .returned (.tuple #[.slice A h.L.length c, .bool true]) ∧ OB w' w.heap.size 5 A h.L.length c h.L ∧ Grow w w') ∨
  (rowF h.Q = false ∧ e = .returned (.tuple #[.slice none 0 0, .bool false]) ∧ Grow w w')

theorem Hd.fstQ (h : Hd) : h.Q.map (·.1) = h.N := rfl
theorem Hd.sndQ (h : Hd) : h.Q.map (·.2) = hRow h.wide := rfl

set_option maxHeartbeats 1000000 in
theorem rPut_any (h : Hd) (ok : h.Ok) (w : World) : Calls Tryz.prog 19 #[h.V] w (RPut h w) := by
  have HRw := Lib.hid (h.rowed ok)
  have HQ1 := Lib.hid h.fstQ
  have HQ2 := Lib.hid h.sndQ
  have HI := Lib.hid (fun w => refIdent_any h.wide h.big h.o h.a w)
  have HL : Hid (h.L = idL h.wide h.big h.o h.a ++ rowB h.big h.Q) := Lib.hid rfl
  unfold RPut
  generalize h.L = L at HL ⊢
  obtain ⟨wide, big, o, a, ty, ma, en, ph, sh, fl, pn, sn, st⟩ := h
  obtain ⟨k1, k2, k3, k4, k5, k6, k7, k8, k9⟩ := ok
  generalize Hd.Q ⟨wide, big, o, a, ty, ma, en, ph, sh, fl, pn, sn, st⟩ = q at *
  unfold Hd.V Hd.C
  simp only [] at *
  obtain ⟨P, hP⟩ : ∃ P, P = ifSome ((pn : Int) != 0) (byWide wide 32 56) := ⟨_, rfl⟩
  obtain ⟨T, hT⟩ : ∃ T, T = ifSome ((sh : Int) != 0) (byWide wide 40 64) := ⟨_, rfl⟩
  have HNe : Hid (Hd.N ⟨wide, big, o, a, ty, ma, en, ph, sh, fl, pn, sn, st⟩ = [ty, ma, 1, en, ph, sh, fl, hSize wide, P, pn, T, sn, st]) := by
    rw [hP, hT]; exact Lib.hid rfl
  rw [HNe.out] at HQ1
  unfold idV at HI
  generalize (o.toNat : Int) = ov at HI ⊢
  generalize (a.toNat : Int) = av at HI ⊢
  have HSz := Lib.hid (fun w => sizes_any wide big w)
  have HRo := Lib.hid (fun w => headRow_any wide big w)
  have s0 : hSize wide < 100 := by cases wide <;> decide
  have s1 : byWide wide 32 56 < 100 := by cases wide <;> decide
  have s2 : byWide wide 40 64 < 100 := by cases wide <;> decide
  generalize hSize wide = S at HQ1 HSz s0
  generalize byWide wide 32 56 = S1 at hP HSz s1
  generalize byWide wide 40 64 = S2 at hT HSz s2
  have z1 : IntKind.u64.wrap (ty : Int) = (ty : Int) := by rw [IntKind.wrap_u64]; omega
  have z2 : IntKind.u64.wrap (ma : Int) = (ma : Int) := by rw [IntKind.wrap_u64]; omega
  have z3 : IntKind.u64.wrap (fl : Int) = (fl : Int) := by rw [IntKind.wrap_u64]; omega
  have z4 : IntKind.u64.wrap (pn : Int) = (pn : Int) := by rw [IntKind.wrap_u64]; omega
  have z5 : IntKind.u64.wrap (sn : Int) = (sn : Int) := by rw [IntKind.wrap_u64]; omega
  have z6 : IntKind.u64.wrap (st : Int) = (st : Int) := by rw [IntKind.wrap_u64]; omega
  have z7 : IntKind.u64.wrap (S : Int) = (S : Int) := by rw [IntKind.wrap_u64]; omega
  have z8 : IntKind.u64.wrap (S1 : Int) = (S1 : Int) := by rw [IntKind.wrap_u64]; omega
  have z9 : IntKind.u64.wrap (S2 : Int) = (S2 : Int) := by rw [IntKind.wrap_u64]; omega
  clear k1 k2 k3 k4 k5 k6 k7 k8 k9 s0 s1 s2
  go_enter Tryz.func19, Tryz.ntmps19
  go_wp2_with fail
  generalize hW : World.alloc _ _ = W0
  obtain ⟨b1, bf, hg0⟩ := blk2 hW
  refine (HSz.out W0).mono ?_
  rintro e w1 ⟨rfl, hg1⟩
  have HB1 := Lib.hid (b1.grow hg1)
  have HBF := Lib.hid (bf.grow hg1)
  have HG1 : Hid (Grow w w1) := hg0.trans hg1
  clear hW b1 bf hg0 hg1
  obtain ⟨x0, x1, x2, x3, x4, x5, x6, x7, x8, x9, x10, x11, x12⟩ := HB1.out.c13
  cases hp : ((pn : Int) == 0) <;> cases hs : ((sh : Int) == 0)
  all_goals
    rw [show ((pn : Int) != 0) = !((pn : Int) == 0) from rfl, hp] at hP
    rw [show ((sh : Int) != 0) = !((sh : Int) == 0) from rfl, hs] at hT
    simp only [ifSome, Bool.not_true, Bool.not_false, if_true, Bool.false_eq_true, if_false] at hP hT
    rw [hP, hT] at HQ1
    clear hP hT
    go_wp2_with fail
  all_goals
    clear x0 x1 x2 x3 x4 x5 x6 x7 x8 x9 x10 x11 x12 z1 z2 z3 z4 z5 z6 z7 z8 z9 hp hs
    generalize hW : World.alloc _ _ = W2
    obtain ⟨bl, hg2⟩ := blk1 hW
    clear hW
    have HNS : Hid (NS W2 W2.heap.size .u64 (some ⟨w1.heap.size, 0, none⟩) 13 13 (q.map (·.1))) := by
      rw [HQ1.out]; exact NS.of_blk13 bl rfl bl.lt rfl
    have HB2 := Lib.hid (HB1.out.grow hg2)
    have HBF2 := Lib.hid (HBF.out.grow hg2)
    have HG2 : Hid (Grow w W2) := HG1.out.trans hg2
    generalize w1.heap.size = gl at HNS ⊢
    clear bl hg2 HB1 HBF HG1
    refine wp_region_chain [(0, true), (1, true), (3, true), (4, true), (2, false), (5, false), (6, true), (7, true), (8, true), (9, true), (10, true)] (by kernel_rfl) (by kernel_rfl) (by kernel_rfl) ?_
    have HFc : Hid (∀ W, Grow W2.drew W → _ ∧ _) := fun W hW => ((HBF2.out.drew).grow hW).c2
    have HNS3 : Hid (NS W2.drew W2.drew.heap.size .u64 (some ⟨gl, 0, none⟩) 13 13 (q.map (·.1))) := HNS.out.belowAt (Grow.of_drew W2) (Nat.le_refl _)
    have HB3 := Lib.hid HB2.out.drew
    have HG3 : Hid (Grow w W2.drew) := HG2.out.trans (Grow.of_drew _)
    generalize W2.drew = W3 at HFc HNS3 HB3 HG3 ⊢
    clear HNS HB2 HBF2 HG2
    repeat (refine chain_take rfl (by rfl) ?_ (fun W hG => ?_) ?_; rotate_left; (obtain ⟨f1, f2⟩ := HFc.out W hG; go_simp; rfl); simp only [Act.put, List.setIfInBounds_toArray, List.set_cons_zero, List.set_cons_succ])
    clear HFc
    refine chain_only rfl (by rfl) (fun K hK => ?_)
    go_simp
    refine (HRo.out _).mono ?_
    rintro e W4 ⟨gr, rfl, hbr, hle4, hg4⟩
    refine hK _ _ hg4 ?_
    clear hK K
    have HNS4 : Hid (NS W4 W4.heap.size .u64 (some ⟨gl, 0, none⟩) 13 13 (q.map (·.1))) := (HNS3.out.belowAt hg4 (Nat.le_refl _)).more hg4.size
    have HNR4 : Hid (NS W4 W4.heap.size .i64 (some ⟨gr, 0, none⟩) 13 13 (q.map (·.2))) := by
      rw [HQ2.out]; exact NS.of_blk13 hbr rfl hbr.lt rfl
    have HB4 := Lib.hid (HB3.out.grow hg4)
    have HG4 : Hid (Grow w W4) := HG3.out.trans hg4
    clear hg4 hbr hle4 HNS3 HB3 HG3
    refine chain_only rfl (by rfl) (fun K hK => ?_)
    go_simp
    refine (row_any q HRw.out _ 13 13 _ 13 13 big _ HNS4.out HNR4.out).mono ?_
    rintro e W5 ⟨A2, c2, rfl, ho5, hg5⟩
    refine hK _ _ hg5 ?_
    clear hK K
    have HO5 := Lib.hid ho5
    have HB5 := Lib.hid (HB4.out.grow hg5)
    have HG5 : Hid (Grow w W5) := HG4.out.trans hg5
    clear ho5 hg5 HNS4 HNR4 HB4 HG4
    repeat (refine chain_take rfl (by rfl) ?_ (fun W hG => ?_) ?_; rotate_left; (go_simp; rfl); simp only [Act.put, List.setIfInBounds_toArray, List.set_cons_zero, List.set_cons_succ])
    refine chain_done ?_
    have hrl := rowB_le HRw.out big q.length (Nat.le_refl _)
    rw [List.take_length] at hrl
    have HQL : Hid ((rowB big q).length ≤ 800) := by have := HRw.out.few; exact Lib.hid (by omega)
    clear hrl
    generalize hrf : rowF q = rf
    cases rf
    · have HF := Lib.hid hrf
      clear hrf
      go_wp2
      go_ret2
      exact .inr ⟨HF.out, rfl, HG5.out⟩
    · have HF := Lib.hid hrf
      clear hrf
      obtain ⟨x0, x1, x2, x3, x4, x5, x6, x7, x8, x9, x10, x11, x12⟩ := HB5.out.c13
      go_wp2_with fail
      clear x0 x1 x2 x3 x4 x5 x6 x7 x8 x9 x10 x11 x12
      refine (HI.out _).mono ?_
      rintro e W6 ⟨rfl, ob, hw6⟩
      have hg6 : Grow W5 W6 := by rw [hw6]; exact (Grow.of_alloc _ _).trans (Grow.of_alloc _ _)
      have HBB : Hid (Blk W6 (W5.heap.size + 1) 5 ((idL wide big o a).map byt).toArray) := by
        have := Blk.new (W5.alloc ob) 5 (idC wide big o a)
        rw [show (W5.alloc ob).heap.size = W5.heap.size + 1 by simp] at this
        rw [hw6]; exact this
      have HI0 : Hid (OB W6 w.heap.size 5 (some ⟨W5.heap.size + 1, 0, none⟩) 16 16 (idL wide big o a)) := OB.of_blk HBB.out (by have := HG5.out.size; omega) (by simp [idL, maxLen])
      have HO6 := Lib.hid (HO5.out.keep hg6)
      have HG6 : Hid (Grow w W6) := HG5.out.trans hg6
      have HLL : Hid ((idL wide big o a).length = 16) := Lib.hid rfl
      generalize W5.heap.size + 1 = gi at HI0 ⊢
      generalize idL wide big o a = I at HL HI0 HLL
      clear hw6 hg6 HBB HO5 HB5 HG5
      go_wp2_with (at_builtin; refine wpList_appendB _ rfl (.tmp 70) (.tmp 71) 35 rfl w.heap.size 5 Tryz.underlying35 (by kernel_rfl) _ 16 16 I rfl HI0.out W6.heap.size A2 _ c2 _ rfl HO6.out.rb (by have := HQL.out; omega) HG6.out.size ?_; intro A7 c7 w7 ho7 hb7; have HO7 := Lib.hid ho7; have HG7 : Hid (Grow w w7) := HG6.out.trans' hb7; clear ho7 hb7)
      have HE : Hid (16 + (rowB big q).length = L.length) := by
        have := HLL.out
        rw [HL.out, List.length_append, this]
        exact Lib.hid rfl
      rw [HE.out, ← HL.out] at HO7
      go_ret2
      exact .inl ⟨HF.out, A7, c7, by rw [← HE.out]; rfl, HO7.out, HG7.out⟩
end Go.Proofs.YtlccbekalccahaaGreatDoor

namespace Go.Proofs.YtlccbekalccahaaGreatDoor
open Go.RowKit

/-- What PutProg answers. -/
def RPutP (p : Pg) (wide big : Bool) (w : World) (e : Ending) (w' : World) : Prop :=
  ∃ A c, e = .returned (.tuple #[.slice A (p.L wide big).length c, .bool (rowF (p.Q wide))]) ∧ OB w' w.heap.size 5 A (p.L wide big).length c (p.L wide big) ∧ Grow w w'

set_option maxHeartbeats 400000 in
theorem rPutProg_any (p : Pg) (ok : p.Ok) (wide big : Bool) (w : World) : Calls Tryz.prog 21 #[p.V, .agg #[.bool wide, .bool big]] w (RPutP p wide big w) := by
  have HRw := Lib.hid (p.rowed ok wide)
  unfold RPutP Pg.L
  cases wide
  · have HQ1 : Hid ((p.Q false).map (·.1) = [p.ty, p.off, p.va, p.pa, p.fs, p.ms, p.fl, p.al]) := Lib.hid rfl
    have HQ2 : Hid ((p.Q false).map (·.2) = [4, 4, 4, 4, 4, 4, 4, 4]) := Lib.hid rfl
    generalize p.Q false = q at *
    obtain ⟨ty, fl, off, va, pa, fs, ms, al⟩ := p
    obtain ⟨k1, k2, k3, k4, k5, k6, k7, k8⟩ := ok
    unfold Pg.V Pg.C
    simp only [] at *
    have z1 : IntKind.u64.wrap (ty : Int) = (ty : Int) := by rw [IntKind.wrap_u64]; omega
    have z2 : IntKind.u64.wrap (fl : Int) = (fl : Int) := by rw [IntKind.wrap_u64]; omega
    clear k1 k2 k3 k4 k5 k6 k7 k8
    go_enter Tryz.func21, Tryz.ntmps21
    go_wp2_with fail
    generalize hW : World.alloc _ _ = W0
    obtain ⟨_, _, b3, b4, hg0⟩ := blk4 hW
    have HN1 : Hid (NS W0 W0.heap.size .u64 (some ⟨w.heap.size + 1 + 1, 0, none⟩) 8 8 (q.map (·.1))) := by rw [HQ1.out]; exact NS.of_blkN b3 rfl (by decide) b3.lt rfl
    have HN2 : Hid (NS W0 W0.heap.size .i64 (some ⟨w.heap.size + 1 + 1 + 1, 0, none⟩) 8 8 (q.map (·.2))) := by rw [HQ2.out]; exact NS.of_blkN b4 rfl (by decide) b4.lt rfl
    clear hW b3 b4
    refine (row_any q HRw.out _ 8 8 _ 8 8 big _ HN1.out HN2.out).mono ?_
    rintro e W5 ⟨A2, c2, rfl, ho5, hg5⟩
    have HG := Lib.hid (hg0.trans hg5)
    have HO : Hid (OB W5 w.heap.size 5 A2 (rowB big q).length c2 (rowB big q)) := ho5.mono hg0.size
    clear ho5 hg5 hg0 z1 z2
    go_wp2
    go_ret2
    exact ⟨A2, c2, rfl, HO.out, HG.out⟩
  · have HQ1 : Hid ((p.Q true).map (·.1) = [p.ty, p.fl, p.off, p.va, p.pa, p.fs, p.ms, p.al]) := Lib.hid rfl
    have HQ2 : Hid ((p.Q true).map (·.2) = [4, 4, 8, 8, 8, 8, 8, 8]) := Lib.hid rfl
    generalize p.Q true = q at *
    obtain ⟨ty, fl, off, va, pa, fs, ms, al⟩ := p
    obtain ⟨k1, k2, k3, k4, k5, k6, k7, k8⟩ := ok
    unfold Pg.V Pg.C
    simp only [] at *
    have z1 : IntKind.u64.wrap (ty : Int) = (ty : Int) := by rw [IntKind.wrap_u64]; omega
    have z2 : IntKind.u64.wrap (fl : Int) = (fl : Int) := by rw [IntKind.wrap_u64]; omega
    clear k1 k2 k3 k4 k5 k6 k7 k8
    go_enter Tryz.func21, Tryz.ntmps21
    go_wp2_with fail
    generalize hW : World.alloc _ _ = W0
    obtain ⟨_, _, b3, b4, hg0⟩ := blk4 hW
    have HN1 : Hid (NS W0 W0.heap.size .u64 (some ⟨w.heap.size + 1 + 1, 0, none⟩) 8 8 (q.map (·.1))) := by rw [HQ1.out]; exact NS.of_blkN b3 rfl (by decide) b3.lt rfl
    have HN2 : Hid (NS W0 W0.heap.size .i64 (some ⟨w.heap.size + 1 + 1 + 1, 0, none⟩) 8 8 (q.map (·.2))) := by rw [HQ2.out]; exact NS.of_blkN b4 rfl (by decide) b4.lt rfl
    clear hW b3 b4
    refine (row_any q HRw.out _ 8 8 _ 8 8 big _ HN1.out HN2.out).mono ?_
    rintro e W5 ⟨A2, c2, rfl, ho5, hg5⟩
    have HG := Lib.hid (hg0.trans hg5)
    have HO : Hid (OB W5 w.heap.size 5 A2 (rowB big q).length c2 (rowB big q)) := ho5.mono hg0.size
    clear ho5 hg5 hg0 z1 z2
    go_wp2
    go_ret2
    exact ⟨A2, c2, rfl, HO.out, HG.out⟩
end Go.Proofs.YtlccbekalccahaaGreatDoor

namespace Go.Proofs.YtlccbekalccahaaGreatDoor
open Go.RowKit

theorem sectRow_any (wide big : Bool) (w : World) : Calls Tryz.prog 57 #[.agg #[.bool wide, .bool big]] w fun e w' =>
    ∃ g, e = .returned (.slice (some ⟨g, 0, none⟩) 10 10) ∧ Blk w' g 3 (i64s (sRow wide)) ∧ w.heap.size ≤ g ∧ Grow w w' := by
  go_enter Tryz.func57, Tryz.ntmps57
  go_wp2_with fail
  refine (word_any wide big _).mono ?_
  rintro e w1 ⟨rfl, hg⟩
  have HG := Lib.hid ((Grow.of_alloc _ _).trans hg)
  clear hg
  go_wp2
  go_ret
  exact ⟨w1.heap.size, rfl, Blk.new _ _ _, HG.out.size, HG.out.trans (Grow.of_alloc _ _)⟩

/-- What PutSect answers. -/
def RPutS (p : Sc) (wide big : Bool) (w : World) (e : Ending) (w' : World) : Prop :=
  ∃ A c, e = .returned (.tuple #[.slice A (p.L wide big).length c, .bool (rowF (p.Q wide))]) ∧ OB w' w.heap.size 5 A (p.L wide big).length c (p.L wide big) ∧ Grow w w'

set_option maxRecDepth 100000 in
set_option maxHeartbeats 1000000 in
theorem rPutSect_any (p : Sc) (ok : p.Ok) (wide big : Bool) (w : World) : Calls Tryz.prog 23 #[p.V, .agg #[.bool wide, .bool big]] w (RPutS p wide big w) := by
  have HRw := Lib.hid (p.rowed ok wide)
  have HRo := Lib.hid (fun w => sectRow_any wide big w)
  unfold RPutS Sc.L
  have HQ1 : Hid ((p.Q wide).map (·.1) = [p.na, p.ty, p.fl, p.ad, p.off, p.sz, p.li, p.inf, p.al, p.en]) := Lib.hid (p.fstQ wide)
  have HQ2 : Hid ((p.Q wide).map (·.2) = sRow wide) := Lib.hid (p.sndQ wide)
  have HSR : Hid ((sRow wide).length = 10) := Lib.hid (len_sRow wide)
  generalize p.Q wide = q at *
  generalize sRow wide = row at HQ2 HRo HSR
  obtain ⟨na, ty, fl, ad, off, sz, li, inf, al, en⟩ := p
  obtain ⟨k1, k2, k3, k4, k5, k6, k7, k8, k9, k10⟩ := ok
  unfold Sc.V Sc.C
  simp only [] at *
  have z1 : IntKind.u64.wrap (na : Int) = (na : Int) := by rw [IntKind.wrap_u64]; omega
  have z2 : IntKind.u64.wrap (ty : Int) = (ty : Int) := by rw [IntKind.wrap_u64]; omega
  have z3 : IntKind.u64.wrap (li : Int) = (li : Int) := by rw [IntKind.wrap_u64]; omega
  have z4 : IntKind.u64.wrap (inf : Int) = (inf : Int) := by rw [IntKind.wrap_u64]; omega
  clear k1 k2 k3 k4 k5 k6 k7 k8 k9 k10
  go_enter Tryz.func23, Tryz.ntmps23
  go_wp2_with fail
  generalize hW : World.alloc _ _ = W0
  obtain ⟨b1, bf, hg0⟩ := blk2 hW
  clear hW
  refine wp_region_fork [(0, true), (1, true), (2, true), (3, true), (4, true), (5, true), (6, true), (7, true), (8, true), (9, true), (10, true), (11, true), (12, true), (13, true), (14, true), (15, true), (16, true), (17, true), (18, true), (19, true), (20, true), (21, true), (22, true), (23, true), (25, true), (27, true), (28, true)] 24 [(26, false), (29, false), (30, true), (31, true), (32, true), (33, true)] 26 [(24, false), (29, false), (30, true), (31, true), (32, true), (33, true)] (by kernel_rfl) (by kernel_rfl) (by kernel_rfl) ?_
  have HX : Hid (∀ W, Grow W0.drew W → _ ∧ (_ ∧ _)) := fun W hW => ⟨((b1.drew).grow hW).c10, ((bf.drew).grow hW).c2⟩
  have HG0 : Hid (Grow w W0.drew) := hg0.trans (Grow.of_drew _)
  generalize W0.drew = W1 at HX HG0 ⊢
  clear b1 bf hg0
  repeat (refine chain_take rfl (by rfl) ?_ (fun W hG => ?_) ?_; rotate_left; (obtain ⟨⟨x0, x1, x2, x3, x4, x5, x6, x7, x8, x9⟩, f0, f1⟩ := HX.out W hG; go_simp; rfl); simp only [Act.put, List.setIfInBounds_toArray, List.set_cons_zero, List.set_cons_succ])
  clear HX z1 z2 z3 z4
  refine chain_done ⟨step_op rfl (by rfl) (fun K hK => ?_), step_op rfl (by rfl) (fun K hK => ?_)⟩
  · go_simp
    refine hK _ _ (Grow.of_alloc _ _) ?_
    clear hK K
    generalize hW : World.alloc _ _ = W2
    obtain ⟨bl, hg2⟩ := blk1 hW
    clear hW
    have HNS : Hid (NS W2 W2.heap.size .u64 (some ⟨W1.heap.size, 0, none⟩) 10 10 (q.map (·.1))) := by
      rw [HQ1.out]; exact NS.of_blkN bl rfl (by decide) bl.lt rfl
    have HG2 : Hid (Grow w W2) := HG0.out.trans hg2
    generalize W1.heap.size = gl at HNS ⊢
    clear bl hg2 HG0
    refine chain_only rfl (by rfl) (fun K hK => ?_)
    go_simp
    refine (HRo.out _).mono ?_
    rintro e W4 ⟨gr, rfl, hbr, hle4, hg4⟩
    refine hK _ _ hg4 ?_
    clear hK K
    have HNS4 : Hid (NS W4 W4.heap.size .u64 (some ⟨gl, 0, none⟩) 10 10 (q.map (·.1))) := (HNS.out.belowAt hg4 (Nat.le_refl _)).more hg4.size
    have HNR4 : Hid (NS W4 W4.heap.size .i64 (some ⟨gr, 0, none⟩) 10 10 (q.map (·.2))) := by
      rw [HQ2.out]; exact NS.of_blkN hbr HSR.out (by decide) hbr.lt rfl
    have HG4 : Hid (Grow w W4) := HG2.out.trans hg4
    clear hg4 hbr hle4 HNS HG2
    refine chain_only rfl (by rfl) (fun K hK => ?_)
    go_simp
    refine (row_any q HRw.out _ 10 10 _ 10 10 big _ HNS4.out HNR4.out).mono ?_
    rintro e W5 ⟨A2, c2, rfl, ho5, hg5⟩
    refine hK _ _ hg5 ?_
    clear hK K
    have HO5 := Lib.hid (ho5.mono HG4.out.size)
    have HG5 : Hid (Grow w W5) := HG4.out.trans hg5
    clear ho5 hg5 HNS4 HNR4 HG4
    repeat (refine chain_take rfl (by rfl) ?_ (fun W hG => ?_) ?_; rotate_left; (go_simp; rfl); simp only [Act.put, List.setIfInBounds_toArray, List.set_cons_zero, List.set_cons_succ])
    refine chain_done ?_
    go_wp2
    go_ret2
    exact ⟨A2, c2, rfl, HO5.out, HG5.out⟩
  · go_simp
    refine (HRo.out _).mono ?_
    rintro e W2 ⟨gr, rfl, hbr, hle2, hg2⟩
    refine hK _ _ hg2 ?_
    clear hK K
    have HNR : Hid (NS W2 W2.heap.size .i64 (some ⟨gr, 0, none⟩) 10 10 (q.map (·.2))) := by
      rw [HQ2.out]; exact NS.of_blkN hbr HSR.out (by decide) hbr.lt rfl
    have HG2 : Hid (Grow w W2) := HG0.out.trans hg2
    clear hbr hle2 hg2 HG0
    refine chain_only rfl (by rfl) (fun K hK => ?_)
    go_simp
    refine hK _ _ (Grow.of_alloc _ _) ?_
    clear hK K
    generalize hW : World.alloc _ _ = W4
    obtain ⟨bl, hg4⟩ := blk1 hW
    clear hW
    have HNS4 : Hid (NS W4 W4.heap.size .u64 (some ⟨W2.heap.size, 0, none⟩) 10 10 (q.map (·.1))) := by
      rw [HQ1.out]; exact NS.of_blkN bl rfl (by decide) bl.lt rfl
    have HNR4 : Hid (NS W4 W4.heap.size .i64 (some ⟨gr, 0, none⟩) 10 10 (q.map (·.2))) := (HNR.out.belowAt hg4 (Nat.le_refl _)).more hg4.size
    have HG4 : Hid (Grow w W4) := HG2.out.trans hg4
    generalize W2.heap.size = gl at HNS4 ⊢
    clear bl hg4 HNR HG2
    refine chain_only rfl (by rfl) (fun K hK => ?_)
    go_simp
    refine (row_any q HRw.out _ 10 10 _ 10 10 big _ HNS4.out HNR4.out).mono ?_
    rintro e W5 ⟨A2, c2, rfl, ho5, hg5⟩
    refine hK _ _ hg5 ?_
    clear hK K
    have HO5 := Lib.hid (ho5.mono HG4.out.size)
    have HG5 : Hid (Grow w W5) := HG4.out.trans hg5
    clear ho5 hg5 HNS4 HNR4 HG4
    repeat (refine chain_take rfl (by rfl) ?_ (fun W hG => ?_) ?_; rotate_left; (go_simp; rfl); simp only [Act.put, List.setIfInBounds_toArray, List.set_cons_zero, List.set_cons_succ])
    refine chain_done ?_
    go_wp2
    go_ret2
    exact ⟨A2, c2, rfl, HO5.out, HG5.out⟩
end Go.Proofs.YtlccbekalccahaaGreatDoor

namespace Go.Proofs.YtlccbekalccahaaGreatDoor
open Go.RowKit
set_option maxRecDepth 100000

theorem entry_any (b i z : Nat) (w : World) (h : b + i * z < 18446744073709551616) (hi : i < 100000) (hz : z < 1000) :
    Calls Tryz.prog 47 #[.int .u64 (b : Int), .int .i64 (i : Int), .int .i64 (z : Int)] w fun e w' => e = .returned (.int .u64 ((b + i * z : Nat) : Int)) ∧ w = w' := by
  have q1 : IntKind.u64.wrap (i : Int) = (i : Int) := by rw [IntKind.wrap_u64]; omega
  have q2 : IntKind.u64.wrap (z : Int) = (z : Int) := by rw [IntKind.wrap_u64]; omega
  have q3 : IntKind.u64.wrap ((i : Int) * (z : Int)) = ((i * z : Nat) : Int) := by
    have : (i : Int) * (z : Int) = ((i * z : Nat) : Int) := by simp
    rw [this, IntKind.wrap_u64]
    omega
  have q4 : IntKind.u64.wrap ((b : Int) + ((i * z : Nat) : Int)) = ((b + i * z : Nat) : Int) := by rw [IntKind.wrap_u64]; omega
  clear h hi hz
  generalize b + i * z = R at q4 ⊢
  generalize i * z = P at q3 q4
  go_enter Tryz.func47, Tryz.ntmps47
  go_wp2
  go_ret
  exact ⟨rfl, rfl⟩

theorem entry1_any (b k z : Nat) (w : World) (h : b + (k + 1) * z < 18446744073709551616) (hi : k + 1 < 100000) (hz : z < 1000) :
    Calls Tryz.prog 47 #[.int .u64 (b : Int), .int .i64 ((k : Int) + 1), .int .i64 (z : Int)] w fun e w' => e = .returned (.int .u64 ((b + (k + 1) * z : Nat) : Int)) ∧ w = w' := by
  have := entry_any b (k + 1) z w h hi hz
  have e : ((k + 1 : Nat) : Int) = (k : Int) + 1 := by omega
  rw [e] at this
  exact this
theorem progOf_any (s : Sg) (off : Nat) (S : Value) (w : World) :
    Calls Tryz.prog 46 #[.agg (sgC s S), .int .u64 (off : Int)] w fun e w' => e = .returned (Pg.V ⟨s.typ, s.flags, off, s.vaddr, s.paddr, s.pl.size, s.memsz, s.align⟩) ∧ Grow w w' := by
  obtain ⟨x0, x1, x2, x3, x4, x5, i, p, z, o⟩ := s
  unfold sgC
  simp only []
  go_enter Tryz.func46, Tryz.ntmps46
  go_wp2_with (refine wpList_store_row rfl 76 (.tmp 4) (.tmp 21) rfl (w.heap.size + 1) (Pg.C ⟨x0, x1, off, x2, x3, z, x4, x5⟩) rfl rfl _ _ (blk2 rfl).2.1 (by kernel_rfl) rfl (Pg.one _) ?_)
  refine bodyPost_ret (results_cell_row (cs := Pg.C ⟨x0, x1, off, x2, x3, z, x4, x5⟩) rfl _ _ (w.heap.size + 1) _ (0, 0) _ rfl ((blk2 rfl).2.1.set _) Tryz.underlying76 rfl (by kernel_rfl)) rfl ?_
  exact ⟨rfl, Grow.set (blk2 rfl).2.2 (Nat.le_succ _) _⟩
theorem sectOf_any (s : Se) (off : Nat) (S : Value) (w : World) :
    Calls Tryz.prog 50 #[.agg (seC s S), .int .u64 (off : Int)] w fun e w' => e = .returned (Sc.V ⟨s.name, s.typ, s.flags, s.addr, off, s.size, s.link, s.info, s.align, s.entsize⟩) ∧ Grow w w' := by
  obtain ⟨x0, x1, x2, x3, x4, x5, x6, x7, x8, i, p, z, o⟩ := s
  unfold seC
  simp only []
  go_enter Tryz.func50, Tryz.ntmps50
  go_wp2_with (refine wpList_store_row rfl 80 (.tmp 4) (.tmp 24) rfl (w.heap.size + 1) (Sc.C ⟨x0, x1, x2, x3, off, x4, x5, x6, x7, x8⟩) rfl rfl _ _ (blk2 rfl).2.1 (by kernel_rfl) rfl (Sc.one _) ?_)
  refine bodyPost_ret (results_cell_row (cs := Sc.C ⟨x0, x1, x2, x3, off, x4, x5, x6, x7, x8⟩) rfl _ _ (w.heap.size + 1) _ (0, 0) _ rfl ((blk2 rfl).2.1.set _) Tryz.underlying80 rfl (by kernel_rfl)) rfl ?_
  exact ⟨rfl, Grow.set (blk2 rfl).2.2 (Nat.le_succ _) _⟩

set_option maxHeartbeats 1000000 in
theorem header_any' (wide big : Bool) (o a ty ma fl en ph sh sz n1 c1 n2 c2 st : Nat) (A1 A2 : Option Addr) (S3 S4 : Value) (w : World) (h1 : n1 ≤ 16) (h2 : n2 ≤ 64) (h3 : st ≤ 64) :
    Calls Tryz.prog 44 #[.agg #[.bool wide, .bool big, .int .u8 (o : Int), .int .u8 (a : Int), .int .u16 (ty : Int), .int .u16 (ma : Int), .int .u32 (fl : Int), .int .u64 (en : Int), .slice A1 n1 c1, .slice A2 n2 c2, .int .i64 (st : Int)],
      .agg #[.int .u64 (ph : Int), .int .u64 (sh : Int), .int .u64 (sz : Int), S3, S4]] w fun e w' => e = .returned (.agg #[.bool wide, .bool big, .int .u8 (o : Int), .int .u8 (a : Int), .int .u16 (ty : Int), .int .u16 (ma : Int), .int .u64 (en : Int), .int .u64 (ph : Int), .int .u64 (sh : Int), .int .u32 (fl : Int), .int .u16 (n1 : Int), .int .u16 ((if 0 < n2 then n2 + 1 else 0 : Nat) : Int), .int .u16 (st : Int)]) ∧ Grow w w' := by
  have q1 : IntKind.u16.wrap (n1 : Int) = (n1 : Int) := by rw [IntKind.wrap_u16]; omega
  have q2 : IntKind.u16.wrap (st : Int) = (st : Int) := by rw [IntKind.wrap_u16]; omega
  have q3 : IntKind.u16.wrap ((n2 : Int) + 1) = (n2 : Int) + 1 := by rw [IntKind.wrap_u16]; omega
  clear h1 h3
  by_cases h0 : 0 < n2
  · obtain ⟨R, hR⟩ : ∃ R, (if 0 < n2 then n2 + 1 else 0 : Nat) = R := ⟨_, rfl⟩
    rw [hR]
    rw [if_pos h0] at hR
    have HR := Lib.hid hR
    have h0' : decide (0 < (n2 : Int)) = true := decide_eq_true (by omega)
    clear hR
    go_enter Tryz.func44, Tryz.ntmps44
    go_wp2
    refine bodyPost_ret (results_cell_row rfl _ _ (w.heap.size + 1 + 1) _ _ (0, 0) _ rfl (blk4 rfl).2.2.1 Tryz.underlying69 rfl (by kernel_rfl)) rfl ?_
    exact ⟨by rw [← HR.out]; rfl, (blk4 rfl).2.2.2.2⟩
  · rw [if_neg h0]
    have h0' : decide (0 < (n2 : Int)) = false := decide_eq_false (by omega)
    go_enter Tryz.func44, Tryz.ntmps44
    go_wp2
    refine bodyPost_ret (results_cell_row rfl _ _ (w.heap.size + 1 + 1) _ _ (0, 0) _ rfl (blk4 rfl).2.2.1 Tryz.underlying69 rfl (by kernel_rfl)) rfl ?_
    exact ⟨rfl, (blk4 rfl).2.2.2.2⟩
theorem flHeader_any (m : Md) (h : Good m) (A1 A2 : Option Addr) (n1 c1 n2 c2 : Nat) (S3 S4 : Value) (w : World) (l1 : n1 = m.segs.length) (l2 : n2 = m.secs.length) :
    Calls Tryz.prog 44 #[.agg (mdC m (.slice A1 n1 c1) (.slice A2 n2 c2)), .agg #[.int .u64 (m.phoff : Nat), .int .u64 (m.shoff : Nat), .int .u64 (m.eT : Nat), S3, S4]] w fun e w' => e = .returned m.hd.V ∧ Grow w w' := by
  have hs := h.str
  have e : m.str = ((m.str.toNat : Nat) : Int) := by omega
  have k1 := h.n1
  have k2 := h.n2
  have := header_any' m.wide m.big m.osabi m.abi m.typ m.mach m.flags m.entry m.phoff m.shoff m.eT n1 c1 n2 c2 m.str.toNat A1 A2 S3 S4 w (by omega) (by omega) (by omega)
  rw [← e] at this
  refine Calls.mono this ?_
  rintro en w' ⟨rfl, hg⟩
  refine ⟨?_, hg⟩
  unfold Hd.V Hd.C Md.hd
  simp only []
  rw [u8_of _ h.ok.osabi, u8_of _ h.ok.abi, l1, l2, ← e]
end Go.Proofs.YtlccbekalccahaaGreatDoor

namespace Go.Proofs.YtlccbekalccahaaGreatDoor
open Go.RowKit

/-- Where a[p:] begins, of c bytes of room. -/
def cutA (a : Addr) (c p : Nat) : Addr := if c = p then a else a.add p
theorem cutA_zero (a : Addr) (c : Nat) : cutA a c 0 = a := by unfold cutA Addr.add; split <;> simp

section
variable {w : World} {B n c : Nat} {a : Addr} {l : List UInt8}
theorem RB.cut (h : RB w B (some a) n c l) {p m : Nat} (hp : p + m ≤ n) : RB w B (some (cutA a c p)) m (c - p) ((l.drop p).take m) := by
  have hl := h.len
  have hcap := h.cap
  have hmax := h.max
  by_cases h0 : 0 < m
  · obtain ⟨b, off, e, -, -⟩ := h.pos (by omega)
    injection e with e
    subst e
    have := h.sub hp h0
    have e2 : cutA ⟨b, off, none⟩ c p = ⟨b, off + p, none⟩ := by
      unfold cutA Addr.add
      rw [if_neg (by omega)]
      split <;> simp_all
    rw [e2]
    exact this
  · have : m = 0 := by omega
    subst this
    exact ⟨by simp, by omega, by omega, fun h => absurd h (by omega)⟩
end

theorem run_cut_lh {P : Program} (t : TypeId) (ht : P.underlying t = some (.slice (P.elem t))) (hz : ∀ W, (sizeOf (P.elem t)).run P W = .ok 1 W) (a : Addr) (n c : Nat) (kl kh : IntKind) (p q : Nat) (hpq : p ≤ q) (hq : q ≤ c) (W : World) :
    (Instr.slice t (.slice (some a) n c) (some (.int kl (p : Int))) (some (.int kh (q : Int))) none).run P W = .ok (.slice (some (cutA a c p)) (q - p) (c - p)) W := by
  rw [run_slice_lh W t (some a) n c ht kl kh p q (by omega) (by omega) (by omega), hz]
  simp only [Result.andThen, sliced, Int.toNat_natCast, Nat.mul_one, Option.map_some]
  unfold cutA
  split <;> rfl
theorem run_cut_h {P : Program} (t : TypeId) (ht : P.underlying t = some (.slice (P.elem t))) (hz : ∀ W, (sizeOf (P.elem t)).run P W = .ok 1 W) (a : Addr) (n c : Nat) (kh : IntKind) (q : Nat) (hq : q ≤ c) (W : World) :
    (Instr.slice t (.slice (some a) n c) none (some (.int kh (q : Int))) none).run P W = .ok (.slice (some a) q c) W := by
  rw [run_slice_h W t (some a) n c ht kh q (by omega) (by omega), hz]
  simp only [Result.andThen, sliced, Int.toNat_natCast, Nat.zero_mul, Option.map_some, Nat.sub_zero]
  have : a.add 0 = a := by unfold Addr.add; simp
  rw [this]
  split <;> rfl
theorem run_cut_l {P : Program} (t : TypeId) (ht : P.underlying t = some (.slice (P.elem t))) (hz : ∀ W, (sizeOf (P.elem t)).run P W = .ok 1 W) (a : Addr) (n c : Nat) (kl : IntKind) (p : Nat) (hp : p ≤ n) (W : World) :
    (Instr.slice t (.slice (some a) n c) (some (.int kl (p : Int))) none none).run P W = .ok (.slice (some (cutA a c p)) (n - p) (c - p)) W := by
  rw [run_slice_l W t (some a) n c ht kl p (by omega) (by omega), hz]
  simp only [Result.andThen, sliced, Int.toNat_natCast, Nat.mul_one, Option.map_some]
  unfold cutA
  split <;> rfl
end Go.Proofs.YtlccbekalccahaaGreatDoor

namespace Go.Proofs.YtlccbekalccahaaGreatDoor
open Go.RowKit
set_option linter.unusedVariables false

theorem put_nil (L : List UInt8) (p : Nat) : put L p [] = L := by
  unfold put
  simp
theorem map_put (L x : List UInt8) (p : Nat) : (put L p x).map byt = (L.map byt).take p ++ x.map byt ++ (L.map byt).drop (p + (x.map byt).length) := by
  unfold put
  simp [List.map_take, List.map_drop]
theorem run_copy_put {P : Program} (W : World) (dT sT ty elem : TypeId) (g n p : Nat) (L x : List UInt8) (A : Option Addr) (m c B : Nat) (t : TypeId)
    (hu : P.underlying dT = some (.slice elem)) (hs : (P.info? elem).map (·.size) = some 1)
    (hb : Blk W g t (L.map byt).toArray) (hn : n = L.length) (hr : RB W B A m c x) (hp : p + x.length ≤ L.length) :
    (Builtin.copy_ #[dT, sT] ty #[.slice (some (cutA ⟨g, 0, none⟩ n p)) (n - p) (n - p), .slice A m c]).run P W = .ok (.int .i64 (m : Int)) (W.setRow g ((put L p x).map byt).toArray) := by
  have hm := hr.len
  rcases A with _ | a
  · have h0 : m = 0 := by
      rcases Nat.eq_zero_or_pos m with h0 | h0
      · exact h0
      · obtain ⟨_, _, e, _⟩ := hr.pos h0
        cases e
    have hx : x = [] := List.eq_nil_of_length_eq_zero (by omega)
    have hc0 : c = 0 ∨ True := .inr trivial
    subst hx
    rw [put_nil, Blk.same hb, h0]
    cases hq : P.info? elem with
    | none => simp [hq] at hs
    | some i => simp [Builtin.copy_, run_underlying hu, Builtin.lenOf, Builtin.firstCells, sizeOf, typeInfo, hq, storeCells, goInt]
  · have hsrc : ∀ j v, (x.map byt)[j]? = some v → W.cell? (a.add j) = some v := fun j v hj => by
      have hjl : j < x.length := by have := (List.getElem?_eq_some_iff.1 hj).1; simpa using this
      obtain ⟨b, off, e, _, hc⟩ := hr.pos (by omega)
      injection e with e
      subst e
      have e2 : (⟨b, off, none⟩ : Addr).add j = ⟨b, off + j, none⟩ := by unfold Addr.add; split <;> simp_all
      rw [e2, hc j hjl]
      simp [hjl, byt] at hj
      rw [← hj]
    by_cases hpn : n = p
    · have hx : x = [] := List.eq_nil_of_length_eq_zero (by omega)
      subst hx
      have e1 : cutA ⟨g, 0, none⟩ n p = ⟨g, 0, none⟩ := by unfold cutA; rw [if_pos hpn]
      have := run_copy_row P W dT sT ty elem g 0 (n - p) (n - p) a m c _ t [] hu hs hb (by simp at hm; simp [hm]) (fun j v hj => by simp at hj) (by simp) (fun v hv => by simp at hv)
      rw [e1, this, put_nil, hm]
      congr 1
    · have e1 : cutA ⟨g, 0, none⟩ n p = ⟨g, p, none⟩ := by
        unfold cutA Addr.add
        rw [if_neg hpn]
        split <;> simp_all
      have := run_copy_row P W dT sT ty elem g p (n - p) (n - p) a m c _ t (x.map byt) hu hs hb (by rw [List.length_map, show m.min (n - p) = min m (n - p) from rfl, Nat.min_def]; split <;> omega) hsrc (by simp; omega) (byt_oneCell x)
      rw [e1, this, map_put]
      congr 1
      rw [hm]; simp [goInt]
theorem run_copy_put0 {P : Program} (W : World) (dT sT ty elem : TypeId) (g n : Nat) (L x : List UInt8) (A : Option Addr) (m c B : Nat) (t : TypeId)
    (hu : P.underlying dT = some (.slice elem)) (hs : (P.info? elem).map (·.size) = some 1)
    (hb : Blk W g t (L.map byt).toArray) (hn : n = L.length) (hr : RB W B A m c x) (hp : x.length ≤ L.length) :
    (Builtin.copy_ #[dT, sT] ty #[.slice (some ⟨g, 0, none⟩) n n, .slice A m c]).run P W = .ok (.int .i64 (m : Int)) (W.setRow g ((put L 0 x).map byt).toArray) := by
  have := run_copy_put (P := P) W dT sT ty elem g n 0 L x A m c B t hu hs hb hn hr (by omega)
  rw [cutA_zero] at this
  exact this
/-- New bytes are 0s. -/
theorem made_zeros (n : Nat) : madeCells #[.int .u8 0] n = ((List.replicate n (0 : UInt8)).map byt).toArray := by
  apply Array.ext
  · simp [madeCells]
  · intro i h1 h2
    simp [madeCells, byt, Nat.mod_one]

/-- What of a writing stays: three blocks, and all that was there; and the bytes. -/
structure WS (w W : World) (gm gp gf gB : Nat) (tm tp tf tB : TypeId) (cm cp cf : Array Value) (L : List UInt8) : Prop where
  m : Blk W gm tm cm
  p : Blk W gp tp cp
  f : Blk W gf tf cf
  b : Blk W gB tB (L.map byt).toArray
  w : Below w.heap.size w W
/-- They are apart. -/
structure WA (w : World) (gm gp gf gB : Nat) : Prop where
  m : gm ≠ gB
  p : gp ≠ gB
  f : gf ≠ gB
  w : w.heap.size ≤ gB
section
variable {w W W' : World} {gm gp gf gB : Nat} {tm tp tf tB : TypeId} {cm cp cf : Array Value} {L : List UInt8}
theorem WS.grow (h : WS w W gm gp gf gB tm tp tf tB cm cp cf L) (hg : Grow W W') : WS w W' gm gp gf gB tm tp tf tB cm cp cf L :=
  ⟨h.m.grow hg, h.p.grow hg, h.f.grow hg, h.b.grow hg, h.w.trans (Below.mono hg h.w.size)⟩
theorem WS.drew (h : WS w W gm gp gf gB tm tp tf tB cm cp cf L) : WS w W.drew gm gp gf gB tm tp tf tB cm cp cf L := h.grow (Grow.of_drew _)
theorem WS.set (h : WS w W gm gp gf gB tm tp tf tB cm cp cf L) (a : WA w gm gp gf gB) (L' : List UInt8) : WS w (W.setRow gB (L'.map byt).toArray) gm gp gf gB tm tp tf tB cm cp cf L' :=
  ⟨h.m.other a.m _, h.p.other a.p _, h.f.other a.f _, h.b.set _, ⟨h.w.os, h.w.tape, h.w.output, by simpa using h.w.size, fun k hk => (setRow_other W gB k _ (by have := a.w; omega)).trans (h.w.block k hk)⟩⟩
theorem WS.mk_ (h : WS w W gm gp gf gB tm tp tf tB cm cp cf L) (a : WA w gm gp gf gB) {V : World} (hb : Bar gB W V) : Blk V gm tm cm ∧ Blk V gp tp cp ∧ Blk V gf tf cf :=
  ⟨h.m.bar hb a.m, h.p.bar hb a.p, h.f.bar hb a.f⟩
/-- A cell of what was there. -/
theorem WS.cell (h : WS w W gm gp gf gB tm tp tf tB cm cp cf L) (a : WA w gm gp gf gB) {V : World} (hb : Bar gB W V) {b o : Nat} {v : Value} (hlt : b < w.heap.size) (hc : w.cell? ⟨b, o, none⟩ = some v) : V.cell? ⟨b, o, none⟩ = some v := by
  have h1 : W.cell? ⟨b, o, none⟩ = some v := (Below.cell h.w hlt).trans hc
  have hne : b ≠ gB := by have := a.w; omega
  have h2 : b < W.heap.size := Nat.lt_of_lt_of_le hlt h.w.size
  have h3 : V.heap[b]? = W.heap[b]? := hb.2 b h2 hne
  rw [← h1]
  unfold World.cell?
  simp only [h3]
end
end Go.Proofs.YtlccbekalccahaaGreatDoor
