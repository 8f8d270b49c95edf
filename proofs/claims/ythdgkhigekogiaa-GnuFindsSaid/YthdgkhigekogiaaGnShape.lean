/-
  The contract of gnu.read where four numbers stand, the first and the third not 0: the shape that they tell.
-/
import Derived.Test.YthdgkhigekogiaaGnRead
namespace Go.Proofs.Ythdgkhigekogiaa
open Go.RowKit

theorem read_ret {K : Ending → World → Prop} {W : World} {tmps : Array Value} {g : Nat} {t : TypeId} {b f wd sh z : Nat} (ht : tmps.getD 4 undef = .pointer (some ⟨g, 0, none⟩)) (he : tmps.getD 5 undef = .bool true)
    (hx : Blk W g t #[.int .u64 (b : Int), .int .u64 (f : Int), .int .u64 (wd : Int), .int .u64 (sh : Int), .int .u64 (z : Int)]) (hk : K (.returned (.tuple #[.agg #[.int .u64 (b : Int), .int .u64 (f : Int), .int .u64 (wd : Int), .int .u64 (sh : Int), .int .u64 (z : Int)], .bool true])) W) : bodyPost Try.prog Try.f23 K .ret ⟨tmps, []⟩ W := by
  refine bodyPost_ret (v := .tuple #[.agg #[.int .u64 (b : Int), .int .u64 (f : Int), .int .u64 (wd : Int), .int .u64 (sh : Int), .int .u64 (z : Int)], .bool true]) ?_ rfl hk
  rw [results_cell_tmp rfl, ht, he]
  simp [asAddr, Result.andThen, hx.var _ _ Try.underlying45 rfl (by kernel_rfl)]

set_option maxHeartbeats 1000000 in
theorem read_any (A : Option Addr) (n c : Nat) (l : List UInt8) (b f wd sh z : Nat) (wide big : Bool) (hd : Nat → Nat) (w : World) (h : RB w w.heap.size A n c l) (hz : (if wide then 8 else 4) = z) (hb : 1 ≤ b) (hw : 1 ≤ wd)
    (hlt : ∀ i, i < 4 → hd i < 4294967296) (hhd : ∀ i, i < 4 → [b, f, wd, sh].getD i 0 = hd i) (hg : ∀ i, i < 4 → i * 4 + 4 ≤ l.length ∧ getB ((l.drop (i * 4)).take 4) big = hd i) :
    Calls Try.prog 23 #[.slice A n c, .agg #[.bool wide, .bool big]] w fun e w' => e = .returned (.tuple #[.agg (shC b f wd sh z), .bool true]) ∧ Grow w w' := by
  have HR := Lib.hid h
  have HWS := Lib.hid (fun W => wordSize_any wide big W)
  rw [hz] at HWS
  have hb0 : ¬ b = 0 := by omega
  have hw0 : ¬ wd = 0 := by omega
  have HG := Lib.hid hg
  have HLt := Lib.hid hlt
  have Hhd := Lib.hid hhd
  unfold shC
  clear h hz hb hw hlt hhd hg
  go_enter Try.func23, Try.ntmps23
  go_wp2
  generalize hW0 : World.alloc _ _ = W0
  obtain ⟨hb1, hb2, hb3, hgr⟩ := blk3 hW0
  obtain ⟨gf, hgf⟩ : ∃ g, g = w.heap.size := ⟨_, rfl⟩
  obtain ⟨gr, hgr2⟩ : ∃ g, g = w.heap.size + 1 := ⟨_, rfl⟩
  obtain ⟨ga, hga⟩ : ∃ g, g = w.heap.size + 1 + 1 := ⟨_, rfl⟩
  rw [← hga, ← hgr2, ← hgf]
  rw [← hga] at hb3
  rw [← hgr2] at hb2
  rw [← hgf] at hb1
  have HF0 := Lib.hid hb1
  have HR0 := Lib.hid hb2
  have HA0 : Hid (W0.rowIs ga 72 4 (ivl .u64 (upTo hd 0))) := Lib.hid (hb3.row fun i hi => by
    have h4 : i < 4 := hi
    unfold ivl upTo
    match i, h4 with
    | 0, _ => rfl
    | 1, _ => rfl
    | 2, _ => rfl
    | 3, _ => rfl)
  have HG0 := Lib.hid hgr
  have HNe : Hid (gf ≠ ga ∧ gr ≠ ga ∧ w.heap.size ≤ ga ∧ w.heap.size ≤ gr ∧ gf ≠ gr) := Lib.hid (by omega)
  clear hW0 hb1 hb2 hb3 hgr hgf hgr2 hga
  go_loopw [11] (fun i wr => ∃ k : Nat, k ≤ 4 ∧ i = .int .i64 k ∧ wr.rowIs ga 72 4 (ivl .u64 (upTo hd k)) ∧ Blk wr gf 26 #[.bool wide, .bool big] ∧ Blk wr gr 45 #[.int .u64 0, .int .u64 0, .int .u64 0, .int .u64 0, .int .u64 0] ∧ Grow w wr) (fun i _ => 4 - (intOf i).toNat)
  case atStart => exact ⟨0, by omega, rfl, HA0.out, HF0.out, HR0.out, HG0.out⟩
  case round =>
    obtain ⟨k, hk, rfl, hrow, hform, hres, hgr⟩ := hrel
    have HA := Lib.hid hrow
    have HF := Lib.hid hform
    have HS := Lib.hid hres
    have HGr := Lib.hid hgr
    clear HA0 HF0 HR0 HG0 hrow hform hres hgr
    by_cases hlt : k < 4
    · have e1 : IntKind.u64.wrap (k : Int) = (k : Int) := by rw [IntKind.wrap_u64]; omega
      have e2 : IntKind.u64.wrap ((k : Int) * 4) = ((k * 4 : Nat) : Int) := by rw [IntKind.wrap_u64]; omega
      obtain ⟨p, hp⟩ : ∃ p, p = k * 4 := ⟨_, rfl⟩
      rw [← hp] at e2
      obtain ⟨g1, g2⟩ := HG.out k hlt
      rw [← hp] at g1 g2
      have HC := Lib.hid (get_at A n c l w.heap.size p 4 big (hd k) wr (HR.out.belowAt HGr.out (Nat.le_refl _)) (.inl rfl) g1 g2)
      obtain ⟨q0, q1⟩ := HF.out.c2
      have c5 := HA.out.cell hlt
      have f5 := HA.out.frozen k
      have HX := Lib.hid ((HA.out.set k (.int .u64 (hd k : Int))).congr fun j _ => upTo_set .u64 hd k j)
      have HF2 := Lib.hid (HF.out.cellset (a := ⟨ga, k, none⟩) HNe.out.1 (.int .u64 (hd k : Int)))
      have HS2 := Lib.hid (HS.out.cellset (a := ⟨ga, k, none⟩) HNe.out.2.1 (.int .u64 (hd k : Int)))
      have p1 : (k : Int) < 4 := by omega
      clear hp g1 g2
      go_wp2_with fail
      refine (HC.out : Calls Try.prog 25 #[_, _, .int .i64 4, _] _ _).mono ?_
      rintro e w' ⟨rfl, m, rfl⟩
      have d5 : (wr.drewN m).cell? ⟨ga, k, none⟩ = some (ivl .u64 (upTo hd k) k) := c5
      have d6 : (wr.drewN m).frozen? ⟨ga, k, none⟩ = false := f5
      clear c5 f5 HC
      go_wp2
      go_roundw
      case rel => exact ⟨k + 1, by omega, by go_num, (HX.out : ((wr.drewN m).setCell ⟨ga, k, none⟩ (.int .u64 (hd k : Int))).rowIs ga 72 4 _), (HF2.out : Blk ((wr.drewN m).setCell ⟨ga, k, none⟩ (.int .u64 (hd k : Int))) gf _ _), (HS2.out : Blk ((wr.drewN m).setCell ⟨ga, k, none⟩ (.int .u64 (hd k : Int))) gr _ _), (below_drewN HGr.out m).setCell (p := ⟨ga, k, none⟩) HNe.out.2.2.1 _⟩
      case measure => simp [intOf]; omega
    · have e : k = 4 := by omega
      subst e
      have hv0 : hd 0 = b := (Hhd.out 0 (by omega)).symm
      have hv1 : hd 1 = f := (Hhd.out 1 (by omega)).symm
      have hv2 : hd 2 = wd := (Hhd.out 2 (by omega)).symm
      have hv3 : hd 3 = sh := (Hhd.out 3 (by omega)).symm
      have hA := upTo_all HA.out
      have HX : Hid (∀ W, Below wr.heap.size wr.drew W → (W.cell? ⟨ga, 0, none⟩ = some (.int .u64 (b : Int)) ∧ W.cell? ⟨ga, 1, none⟩ = some (.int .u64 (f : Int)) ∧ W.cell? ⟨ga, 2, none⟩ = some (.int .u64 (wd : Int)) ∧ W.cell? ⟨ga, 3, none⟩ = some (.int .u64 (sh : Int))) ∧ W.cell? ⟨gf, 0, none⟩ = some (.bool wide) ∧ W.cell? ⟨gf, 1, none⟩ = some (.bool big)) :=
        Lib.hid fun W hW => by
          have h0 : W.rowIs ga 72 4 (ivl .u64 hd) := rows_below (w := wr.drew) hA hW hA.lt
          refine ⟨⟨?_, ?_, ?_, ?_⟩, ((HF.out.drew).below hW HF.out.lt).c2⟩
          · rw [← hv0]; exact h0.cell (i := 0) (by omega)
          · rw [← hv1]; exact h0.cell (i := 1) (by omega)
          · rw [← hv2]; exact h0.cell (i := 2) (by omega)
          · rw [← hv3]; exact h0.cell (i := 3) (by omega)
      clear hv0 hv1 hv2 hv3 hA
      go_wp2_with fail
      refine wp_region_tree (leap_below wr.heap.size) (.chain [(0, true), (1, true), (2, true), (3, true), (4, true), (5, true), (6, true), (7, true), (8, true)] (.both 9 (.chain [(10, true), (11, false), (12, false)] .done) 11 (.chain [(9, false), (10, true), (12, false)] .done))) (by kernel_rfl) (by kernel_rfl) (by kernel_rfl) ?_
      refine tr_chain ?_
      have HS2 : Hid (Blk wr.drew gr 45 #[.int .u64 0, .int .u64 0, .int .u64 0, .int .u64 0, .int .u64 0]) := HS.out.drew
      have HG2 : Hid (Grow w wr.drew) := HGr.out.trans (Grow.of_drew _)
      obtain ⟨B0, hB0⟩ : ∃ B, B = wr.heap.size := ⟨_, rfl⟩
      have hB1 : B0 ≤ wr.drew.heap.size := by rw [hB0]; exact Nat.le_refl _
      have hB2 : w.heap.size ≤ B0 := by rw [hB0]; exact HGr.out.size
      have hB3 : gr < B0 := by rw [hB0]; exact HS.out.lt
      rw [← hB0] at HX ⊢
      generalize wr.drew = w2 at HX HS2 HG2 hB1 ⊢
      clear HA HF HS HGr hB0 hlt hk
      repeat (refine chain_take rfl (by rfl) ?_ (fun W hG => ?_) ?_; rotate_left; (obtain ⟨⟨q1, q2, q3, q4⟩, q5, q6⟩ := HX.out W hG; go_simp; rfl); simp only [Act.put, List.setIfInBounds_toArray, List.set_cons_zero, List.set_cons_succ])
      clear HX
      refine chain_done (tr_both (step_op rfl (by rfl) ?A) (step_op rfl (by rfl) ?B))
      case' A =>
        intro K hK
        go_simp
        refine (HWS.out _).mono ?_
        rintro e w4 ⟨rfl, hg4⟩
        refine hK _ _ (hg4.mono hB1) ?_
        clear hK K
        have HS4 := Lib.hid (HS2.out.grow hg4)
        have HG4 := Lib.hid (HG2.out.trans hg4)
        have HL4 := Lib.hid (Nat.le_trans hB1 hg4.size)
        clear hg4 HS2 HG2 hB1
        refine tr_chain ?_
        refine chain_take rfl (by rfl) ?_ (fun W hG => ?_) ?_
        rotate_left
        (go_simp; rfl)
        simp only [Act.put, List.setIfInBounds_toArray, List.set_cons_zero, List.set_cons_succ]
        refine chain_only rfl (by rfl) (fun K hK => ?_)
        go_simp
        refine hK _ _ (Below.alloc (Below.refl _ _) HL4.out _) ?_
        clear hK K
        have HD5 := Lib.hid (Blk.new w4 45 #[.int .u64 0, .int .u64 0, .int .u64 0, .int .u64 0, .int .u64 0])
        have HS5 := Lib.hid (HS4.out.alloc (.cells #[.int .u64 0, .int .u64 0, .int .u64 0, .int .u64 0, .int .u64 0] 45))
        have HG5 : Hid (Grow w (w4.alloc (.cells #[.int .u64 0, .int .u64 0, .int .u64 0, .int .u64 0, .int .u64 0] 45))) := HG4.out.trans (Grow.of_alloc _ _)
        have HN5 : Hid (gr ≠ w4.heap.size ∧ w.heap.size ≤ w4.heap.size ∧ B0 ≤ w4.heap.size) := Lib.hid ⟨Nat.ne_of_lt HS4.out.lt, HG4.out.size, HL4.out⟩
        generalize w4.alloc _ = w5 at HD5 HS5 HG5 ⊢
        generalize w4.heap.size = gx at HD5 HN5 ⊢
        clear HS4 HG4 HL4
      case' B =>
        intro K hK
        go_simp
        refine hK _ _ (Below.alloc (Below.refl _ _) hB1 _) ?_
        clear hK K
        have HD4 := Lib.hid (Blk.new w2 45 #[.int .u64 0, .int .u64 0, .int .u64 0, .int .u64 0, .int .u64 0])
        have HS4 := Lib.hid (HS2.out.alloc (.cells #[.int .u64 0, .int .u64 0, .int .u64 0, .int .u64 0, .int .u64 0] 45))
        have HG4 : Hid (Grow w (w2.alloc (.cells #[.int .u64 0, .int .u64 0, .int .u64 0, .int .u64 0, .int .u64 0] 45))) := HG2.out.trans (Grow.of_alloc _ _)
        have HN5 : Hid (gr ≠ w2.heap.size ∧ w.heap.size ≤ w2.heap.size ∧ B0 ≤ w2.heap.size) := Lib.hid ⟨Nat.ne_of_lt HS2.out.lt, HG2.out.size, hB1⟩
        have HL4 : Hid (B0 ≤ (w2.alloc (.cells #[.int .u64 0, .int .u64 0, .int .u64 0, .int .u64 0, .int .u64 0] 45)).heap.size) := Lib.hid (by simp; omega)
        generalize w2.alloc _ = w4 at HD4 HS4 HG4 HL4 ⊢
        generalize w2.heap.size = gx at HD4 HN5 ⊢
        clear HS2 HG2 hB1
        refine tr_chain ?_
        refine chain_only rfl (by rfl) (fun K hK => ?_)
        go_simp
        refine (HWS.out _).mono ?_
        rintro e w5 ⟨rfl, hg5⟩
        refine hK _ _ (hg5.mono HL4.out) ?_
        clear hK K
        have HD5 := Lib.hid (HD4.out.grow hg5)
        have HS5 := Lib.hid (HS4.out.grow hg5)
        have HG5 := Lib.hid (HG4.out.trans hg5)
        clear hg5 HD4 HS4 HG4 HL4
        refine chain_take rfl (by rfl) ?_ (fun W hG => ?_) ?_
        rotate_left
        (go_simp; rfl)
        simp only [Act.put, List.setIfInBounds_toArray, List.set_cons_zero, List.set_cons_succ]
      all_goals
        refine chain_only rfl (by rfl) (fun K hK => ?_)
        refine wp_store_row 45 (.tmp 10) (.tmp 41) rfl gx #[.int .u64 (b : Int), .int .u64 (f : Int), .int .u64 (wd : Int), .int .u64 (sh : Int), .int .u64 (z : Int)] rfl rfl _ _ HD5.out (by kernel_rfl) rfl (by simp [Value.oneCell']) ?_
        refine hK _ _ (Below.setRow' _ HN5.out.2.2 _) ?_
        clear hK K
        have HX7 := Lib.hid (HD5.out.set #[.int .u64 (b : Int), .int .u64 (f : Int), .int .u64 (wd : Int), .int .u64 (sh : Int), .int .u64 (z : Int)])
        have HS7 := Lib.hid (HS5.out.other HN5.out.1 #[.int .u64 (b : Int), .int .u64 (f : Int), .int .u64 (wd : Int), .int .u64 (sh : Int), .int .u64 (z : Int)])
        have HG7 : Hid (Grow w (w5.setRow gx #[.int .u64 (b : Int), .int .u64 (f : Int), .int .u64 (wd : Int), .int .u64 (sh : Int), .int .u64 (z : Int)])) := Grow.set HG5.out HN5.out.2.1 _
        generalize w5.setRow gx _ = w7 at HX7 HS7 HG7 ⊢
        clear HD5 HS5 HG5 HWS
        refine chain_done (tr_done ?_)
        go_wp2_with fail
        have m1 : ((b : Int) != 0) = true := some_of hb0
        have m2 : ((wd : Int) != 0) = true := some_of hw0
        have HY : Hid (∀ W, Bar gr w7.drew W → W.cell? ⟨gx, 0, none⟩ = some (.int .u64 (b : Int)) ∧ W.cell? ⟨gx, 1, none⟩ = some (.int .u64 (f : Int)) ∧ W.cell? ⟨gx, 2, none⟩ = some (.int .u64 (wd : Int)) ∧ W.cell? ⟨gx, 3, none⟩ = some (.int .u64 (sh : Int)) ∧ W.cell? ⟨gx, 4, none⟩ = some (.int .u64 (z : Int))) :=
          Lib.hid fun W hW => ((HX7.out.drew).bar hW (Ne.symm HN5.out.1)).c5
        refine wp_region_leap (leap_bar gr) [(0, true), (1, true), (2, true), (3, true), (4, true), (5, true), (6, true), (7, true), (8, true), (9, false), (10, true)] (by kernel_rfl) (by kernel_rfl) (by kernel_rfl) ?_
        have HS8 : Hid (Blk w7.drew gr 45 _) := HS7.out.drew
        have HG8 : Hid (Grow w w7.drew) := HG7.out.trans (Grow.of_drew _)
        generalize w7.drew = w8 at HY HS8 HG8 ⊢
        clear HX7 HS7 HG7
        simp only [Act.put]
        repeat (refine chain_take rfl (by rfl) ?_ (fun W hG => ?_) ?_; rotate_left; (obtain ⟨q1, q2, q3, q4, q5⟩ := HY.out W hG; go_simp; rfl); simp only [Act.put, List.setIfInBounds_toArray, List.set_cons_zero, List.set_cons_succ])
        clear HY
        refine chain_only rfl (by rfl) (fun K hK => ?_)
        refine wp_store_row 45 (.tmp 4) (.tmp 42) rfl gr #[.int .u64 (b : Int), .int .u64 (f : Int), .int .u64 (wd : Int), .int .u64 (sh : Int), .int .u64 (z : Int)] rfl rfl _ _ HS8.out (by kernel_rfl) rfl (by simp [Value.oneCell']) ?_
        refine hK _ _ (Bar.set _ _ _) ?_
        clear hK K
        have HS9 := Lib.hid (HS8.out.set #[.int .u64 (b : Int), .int .u64 (f : Int), .int .u64 (wd : Int), .int .u64 (sh : Int), .int .u64 (z : Int)])
        have HG9 : Hid (Grow w (w8.setRow gr #[.int .u64 (b : Int), .int .u64 (f : Int), .int .u64 (wd : Int), .int .u64 (sh : Int), .int .u64 (z : Int)])) := Grow.set HG8.out HNe.out.2.2.2.1 _
        generalize w8.setRow gr _ = w9 at HS9 HG9 ⊢
        simp only [Act.put]
        repeat (refine chain_take rfl (by rfl) ?_ (fun W hG => ?_) ?_; rotate_left; (go_simp; rfl); simp only [Act.put, List.setIfInBounds_toArray, List.set_cons_zero, List.set_cons_succ])
        refine chain_done ?_
        go_wp2
        exact read_ret rfl rfl HS9.out ⟨rfl, HG9.out⟩
end Go.Proofs.Ythdgkhigekogiaa
