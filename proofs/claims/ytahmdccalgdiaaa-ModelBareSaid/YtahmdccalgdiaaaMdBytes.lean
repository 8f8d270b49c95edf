/-
  The contract of model.Bytes: the bytes at a place, in new memory.
-/
import Derived.Test.YtahmdccalgdiaaaMdMay
import Derived.Test.YtahmdccalgdiaaaMdCut
import Derived.Test.YtahmdccalgdiaaaMdClone
namespace Go.Proofs.Ytahmdccalgdiaaa
open Go.RowKit

theorem bytes_own {m : Md} {p : Pl} (h : p.inn = -1) : m.bytes p = p.own := by unfold Md.bytes; rw [if_pos h]
theorem bytes_in {m : Md} {p : Pl} (h : p.inn ≠ -1) : m.bytes p = if isSegN m.segs.length p.inn && p.within (m.seg p.inn).pl.own.length then (((m.seg p.inn).pl.own).drop p.off).take p.size else [] := by unfold Md.bytes; rw [if_neg h]

set_option maxHeartbeats 1000000 in
theorem mBytes_any (m : Md) (A1 A2 : Option Addr) (n1 c1 n2 c2 : Nat) (p : Pl) (ok : p.Ok) (A : Option Addr) (n c : Nat) (w : World) (g1 : ZR sgK w w.heap.size A1 n1 c1 m.segs) (g : RB w w.heap.size A n c p.own) (hb : (m.bytes p).length ≤ 140737488355328) :
    Calls Try.prog 7 #[.agg (mdC m (.slice A1 n1 c1) (.slice A2 n2 c2)), .agg (plC p (.slice A n c))] w (NewB (m.bytes p) w) := by
  have hpo := ok.off
  have hps := ok.size
  obtain ⟨x0, x1, x2, x3, x4, x5, x6, x7, x9, x10, hC⟩ := mdC_cells m (.slice A1 n1 c1) (.slice A2 n2 c2)
  by_cases h0 : p.inn = -1
  · rw [bytes_own h0] at hb ⊢
    have HCl := Lib.hid (fun w' (hg : Grow w w') => clone_any A n c p.own _ w' (g.grow hg) (Nat.le_refl _) (by rw [g.len]; exact hb))
    rw [hC]
    unfold plC
    rw [h0]
    generalize p.own = l at HCl ⊢
    generalize p.off = po
    generalize p.size = ps
    clear hC hb g g1 h0 hpo hps ok
    go_enter Try.func7, Try.ntmps7
    go_wp2_with fail
    generalize hW : World.alloc _ _ = W0
    obtain ⟨b1, b2, hg0⟩ := blk2 hW
    clear hW
    have HG0 := Lib.hid hg0
    obtain ⟨y0, y1, y2, y3⟩ := b2.c4
    clear b1 b2 hg0
    go_wp2_with fail
    clear y0 y1 y2 y3
    refine (HCl.out _ HG0.out).mono ?_
    rintro e w1 hn
    have HN := Lib.hid (hn.from HG0.out)
    obtain ⟨A5, c5, rfl, -, -⟩ := hn
    go_wp2
    go_ret
    exact HN.out
  · have hl := g1.len
    rw [bytes_in h0, ← hl] at hb ⊢
    have hI := mIsSeg_any m A1 A2 n1 c1 n2 c2 p.inn
    rw [hC] at hI ⊢
    clear hC
    cases hs : isSegN n1 p.inn with
    | false =>
      rw [hs] at hI
      have HI := Lib.hid hI
      have Hi : (p.inn == -1) = false := by simpa using h0
      rw [hs] at hb
      clear hI hs h0 hl g g1 hb hpo hps ok
      simp only [Bool.false_and]
      unfold plC
      generalize p.inn = i at HI Hi ⊢
      generalize p.off = po
      generalize p.size = ps
      go_enter Try.func7, Try.ntmps7
      go_wp2_with fail
      generalize hW : World.alloc _ _ = W0
      obtain ⟨b1, b2, hg0⟩ := blk2 hW
      clear hW
      have HG0 := Lib.hid hg0
      obtain ⟨y0, y1, y2, y3⟩ := b2.c4
      obtain ⟨v0, v1, v2, v3, v4, v5, v6, v7, v8, v9, v10⟩ := b1.c11
      clear b1 b2 hg0
      go_wp2_with fail
      clear y0 y1 y2 y3 v0 v1 v2 v3 v4 v5 v6 v7 v8 v9 v10
      refine (HI.out _).mono ?_
      rintro e w1 ⟨rfl, hg1⟩
      have HG1 : Hid (Grow w w1) := HG0.out.trans hg1
      clear hg1
      go_wp2
      go_ret
      exact NewB.nil _ _ HG1.out
    | true =>
      obtain ⟨k, hk, hkl⟩ := isSegN_true hs
      rw [hl] at hkl
      rw [hs] at hI
      rw [hk] at hI
      rw [hs, hk, m.seg_nat k hkl, Bool.true_and] at hb
      rw [hk, m.seg_nat k hkl, Bool.true_and]
      obtain ⟨b, off, rfl, hbb⟩ := g1.pos (by rw [g1.len]; omega)
      obtain ⟨Ak, nk, ck, -, hcell, gk⟩ := g1.at hkl
      have T9 : Hid (w.cell? ⟨b, off + k * 10 + 9, none⟩ = some (.slice Ak nk ck)) := Lib.hid (hcell 9 _ rfl)
      have hnk : m.segs[k].pl.own.length = nk := gk.len.symm
      have hnkm : nk ≤ maxLen := Nat.le_trans gk.cap gk.max
      have HWi := Lib.hid (fun w => mIsWithin_any p (.slice A n c) Ak nk ck w hnkm)
      have hkn : k < n1 := by rw [g1.len]; exact hkl
      have HBb := Lib.hid (show b < w.heap.size from hbb)
      have hn1m := g1.cap
      have hn1m' := g1.max
      unfold maxLen at hn1m' hnkm
      have gk' : RB w w.heap.size Ak nk ck m.segs[k].pl.own := gk
      rw [hnk] at hb ⊢
      have HI := Lib.hid hI
      obtain ⟨RS, hRS⟩ : ∃ RS, RS = if p.within nk = true then (m.segs[k].pl.own.drop p.off).take p.size else [] := ⟨_, rfl⟩
      rw [← hRS] at hb ⊢
      have E := Lib.hid (show p.within nk = decide (p.off + p.size ≤ nk) from rfl)
      unfold plC at HWi ⊢
      rw [hk] at HWi ⊢
      have e0 : ((k : Int) == -1) = false := by simp
      generalize p.within nk = V at E HWi hRS
      generalize p.off = po at HWi E hpo hRS ⊢
      generalize p.size = ps at E HWi hps hRS ⊢
      clear hcell
      generalize m.segs[k].pl.own = L at hRS gk gk' hnk
      have HRS := Lib.hid hRS
      clear hRS
      have GK := Lib.hid gk'
      clear hI hs gk gk' hnk hk h0 g1 g hbb hl ok
      go_enter Try.func7, Try.ntmps7
      go_wp2_with fail
      generalize hW : World.alloc _ _ = W0
      obtain ⟨b1, b2, hg0⟩ := blk2 hW
      clear hW
      have HB1 := Lib.hid b1
      have HB20 := Lib.hid b2
      have HG0 := Lib.hid hg0
      obtain ⟨y0, y1, y2, y3⟩ := b2.c4
      obtain ⟨v0, v1, v2, v3, v4, v5, v6, v7, v8, v9, v10⟩ := b1.c11
      clear b1 b2 hg0
      go_wp2_with fail
      clear y0 y1 y2 y3 v0 v1 v2 v3 v4 v5 v6 v7 v8 v9 v10
      refine (HI.out _).mono ?_
      rintro e w1 ⟨rfl, hg1⟩
      have HG1 : Hid (Grow w w1) := HG0.out.trans hg1
      have HB2 := Lib.hid (HB20.out.grow hg1)
      have y8 : w1.cell? ⟨w.heap.size, 8, none⟩ = some (.slice (some ⟨b, off, none⟩) n1 c1) := (HB1.out.grow hg1).at 8
      obtain ⟨y0, y1, y2, y3⟩ := HB2.out.c4
      have t9 : w1.cell? ⟨b, off + k * 10 + 9, none⟩ = some (.slice Ak nk ck) := (Below.cell HG1.out HBb.out).trans T9.out
      clear hg1 HG0 HB20 HB1 HI
      go_wp2_with fail
      clear y0 y1 y2 y3 y8 t9
      refine (HWi.out _).mono ?_
      rintro e w2 ⟨rfl, hg2⟩
      have HG2 : Hid (Grow w w2) := HG1.out.trans hg2
      obtain ⟨y0, y1, y2, y3⟩ := (HB2.out.grow hg2).c4
      clear hg2 HWi
      cases V with
      | false =>
        clear y0 y1 y2 y3
        go_wp2
        go_ret
        rw [HRS.out]
        exact NewB.nil _ _ HG2.out
      | true =>
        have hle : po + ps ≤ nk := by have := E.out; simpa using this.symm
        obtain ⟨A', c', hrun, hr⟩ := cut_any GK.out hle
        have e1 : (L.drop po).take ps = RS := HRS.out.symm
        rw [e1] at hr
        have HR := Lib.hid hr
        have HCl := Lib.hid (fun w' (hg : Grow w w') => clone_any A' ps c' _ _ w' (HR.out.grow hg) (Nat.le_refl _) (by rw [HR.out.len]; exact hb))
        have z1 : IntKind.u64.wrap ((po : Int) + (ps : Int)) = (po : Int) + (ps : Int) := by rw [IntKind.wrap_u64]; omega
        clear hr hle hb hnkm hpo hps E GK e1 HRS
        go_wp2_with fail
        clear y0 y1 y2 y3
        refine (HCl.out _ HG2.out).mono ?_
        rintro e w3 hn
        have HN := Lib.hid (hn.from HG2.out)
        obtain ⟨A5, c5, rfl, -, -⟩ := hn
        go_wp2
        go_ret
        exact HN.out
end Go.Proofs.Ytahmdccalgdiaaa
