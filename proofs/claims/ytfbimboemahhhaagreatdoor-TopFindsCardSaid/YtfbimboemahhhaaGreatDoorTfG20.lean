/-
  Several texts in one: The contracts of gnu; The contract of gnu; The contract of gnu.
-/
import Derived.Test.YtfbimboemahhhaaGreatDoorTfG19
import Derived.Test.YtfbimboemahhhaaGreatDoorTfG12
import Derived.Laws.ResultCell
namespace Go.Proofs.YtfbimboemahhhaaGreatDoor
open Go.Lib (hid)
open Go.RowKit
theorem get_at (A : Option Addr) (n c : Nat) (l : List UInt8) (B p z : Nat) (big : Bool) (v : Nat) (w : World) (h : RB w B A n c l) (hz : z = 4 ∨ z = 8) (hp : p + z ≤ l.length) (hv : getB ((l.drop p).take z) big = v) :
  Calls Tryz.prog 54 #[.slice A n c, .int .u64 (p : Int), .int .i64 (z : Int), .bool big] w fun e w' => e = .returned (.tuple #[.int .u64 (v : Int), .bool true]) ∧ ∃ m, w' = w.drewN m := by
 have h1 : wid (z : Int) = true := by rcases hz with rfl | rfl <;> decide
 have h2 : gotB l (p : Int) (z : Int) = true := by
  simp only [gotB, h1, Bool.true_and, wthn, decide_eq_true_eq]
  omega
 have h3 : gotV l (p : Int) (z : Int) big = v := by
  simp only [gotV, h2, if_true, Int.toNat_natCast]
  exact hv
 have := get_any A n c l B (p : Int) (z : Int) big w h (by omega)
 rw [h2, h3] at this
 exact this
theorem heads_any (b f wd sh z : Nat) (w : World) (hw : wd ≤ 1024) (hz : z ≤ 8) : Calls Tryz.prog 108 #[.agg (shC b f wd sh z)] w fun e w' => e = .returned (.int .u64 ((16 + wd * z : Nat) : Int)) ∧ Grow w w' := by
 have h1 : wd * z ≤ 1024 * 8 := Nat.mul_le_mul hw hz
 obtain ⟨x, hx⟩ : ∃ x, x = wd * z := ⟨_, rfl⟩
 have e0 : (wd : Int) * (z : Int) = (x : Int) := by rw [hx]; simp
 have e1 : IntKind.u64.wrap ((wd : Int) * (z : Int)) = (x : Int) := by rw [e0, IntKind.wrap_u64]; omega
 have e2 : IntKind.u64.wrap (16 + (x : Int)) = 16 + (x : Int) := by rw [IntKind.wrap_u64]; omega
 have HX := hid hx
 clear hx h1 e0
 unfold shC
 go_enter Tryz.func108, Tryz.ntmps108
 go_wp2
 go_ret
 exact ⟨ret_int (by rw [← HX.out]; omega), Grow.of_alloc _ _⟩
set_option maxHeartbeats 400000 in
theorem hashes_any (b f wd sh z : Nat) (w : World) (hb : b ≤ 1024) (hw : wd ≤ 1024) (hz : z ≤ 8) : Calls Tryz.prog 55 #[.agg (shC b f wd sh z)] w fun e w' => e = .returned (.int .u64 ((16 + wd * z + b * 4 : Nat) : Int)) ∧ Grow w w' := by
 have h1 : wd * z ≤ 1024 * 8 := Nat.mul_le_mul hw hz
 have HH := hid (fun W => heads_any b f wd sh z W hw hz)
 unfold shC at HH ⊢
 obtain ⟨x, hx⟩ : ∃ x, x = 16 + wd * z := ⟨_, rfl⟩
 rw [← hx] at HH ⊢
 have e1 : IntKind.u64.wrap ((b : Int) * 4) = (b : Int) * 4 := by rw [IntKind.wrap_u64]; omega
 have e2 : IntKind.u64.wrap ((x : Int) + (b : Int) * 4) = (x : Int) + (b : Int) * 4 := by rw [IntKind.wrap_u64]; omega
 clear hx h1
 go_enter Tryz.func55, Tryz.ntmps55
 go_wp2_with fail
 generalize hW : World.alloc _ _ = W0
 obtain ⟨hb, hg⟩ := blk1 hW
 obtain ⟨g, hgg⟩ : ∃ g, g = w.heap.size := ⟨_, rfl⟩
 rw [← hgg] at hb ⊢
 clear hW hgg
 have HX : Hid (∀ W, Grow W0.drew W → W.cell? ⟨g, 0, none⟩ = some (.int .u64 (b : Int)) ∧ W.cell? ⟨g, 1, none⟩ = some (.int .u64 (f : Int)) ∧ W.cell? ⟨g, 2, none⟩ = some (.int .u64 (wd : Int)) ∧ W.cell? ⟨g, 3, none⟩ = some (.int .u64 (sh : Int)) ∧ W.cell? ⟨g, 4, none⟩ = some (.int .u64 (z : Int))) :=
  hid fun W hW => ((hb.drew).grow hW).c5
 have HG : Hid (Grow w W0.drew) := hid (hg.trans (Grow.of_drew _))
 clear hb hg
 refine wp_region_chain [(0, true), (2, true), (3, true), (4, true), (1, false), (5, true), (6, true)] (by kernel_rfl) (by kernel_rfl) (by kernel_rfl) ?_
 generalize W0.drew = w1 at HX HG ⊢
 repeat (refine chain_take rfl (by rfl) ?_ (fun W hG => ?_) ?_; rotate_left; (obtain ⟨q1, q2, q3, q4, q5⟩ := HX.out W hG; go_simp; rfl); simp only [Act.put, List.setIfInBounds_toArray, List.set_cons_zero, List.set_cons_succ])
 refine chain_only rfl (by rfl) (fun K hK => ?_)
 go_simp
 refine (HH.out _).mono ?_
 rintro e w2 ⟨rfl, hg⟩
 refine hK _ _ hg ?_
 clear hK K HX HH
 have HG2 := hid (HG.out.trans hg)
 clear hg HG
 repeat (refine chain_take rfl (by rfl) ?_ (fun W hG => ?_) ?_; rotate_left; (go_simp; rfl); simp only [Act.put, List.setIfInBounds_toArray, List.set_cons_zero, List.set_cons_succ])
 refine chain_done ?_
 go_wp2
 go_ret
 exact ⟨ret_int (by omega), HG2.out⟩
set_option maxRecDepth 100000
theorem read_ret {K : Ending → World → Prop} {W : World} {tmps : Array Value} {g : Nat} {t : TypeId} {b f wd sh z : Nat} (ht : tmps.getD 4 undef = .pointer (some ⟨g, 0, none⟩)) (he : tmps.getD 5 undef = .bool true)
  (hx : Blk W g t #[.int .u64 (b : Int), .int .u64 (f : Int), .int .u64 (wd : Int), .int .u64 (sh : Int), .int .u64 (z : Int)]) (hk : K (.returned (.tuple #[.agg #[.int .u64 (b : Int), .int .u64 (f : Int), .int .u64 (wd : Int), .int .u64 (sh : Int), .int .u64 (z : Int)], .bool true])) W) : bodyPost Tryz.prog Tryz.f51 K .ret ⟨tmps, []⟩ W := by
 refine bodyPost_ret (v := .tuple #[.agg #[.int .u64 (b : Int), .int .u64 (f : Int), .int .u64 (wd : Int), .int .u64 (sh : Int), .int .u64 (z : Int)], .bool true]) ?_ rfl hk
 rw [results_cell_tmp rfl, ht, he]
 simp [asAddr, Result.andThen, hx.var _ _ Tryz.underlying80 rfl (by kernel_rfl)]
set_option maxHeartbeats 1000000 in
theorem read_any (A : Option Addr) (n c : Nat) (l : List UInt8) (b f wd sh z : Nat) (wide big : Bool) (hd : Nat → Nat) (w : World) (h : RB w w.heap.size A n c l) (hz : (if wide then 8 else 4) = z) (hb : 1 ≤ b) (hw : 1 ≤ wd)
  (hlt : ∀ i, i < 4 → hd i < 4294967296) (hhd : ∀ i, i < 4 → [b, f, wd, sh].getD i 0 = hd i) (hg : ∀ i, i < 4 → i * 4 + 4 ≤ l.length ∧ getB ((l.drop (i * 4)).take 4) big = hd i) :
  Calls Tryz.prog 51 #[.slice A n c, .agg #[.bool wide, .bool big]] w fun e w' => e = .returned (.tuple #[.agg (shC b f wd sh z), .bool true]) ∧ Grow w w' := by
 have HR := hid h
 have HWS := hid (fun W => wordSize_any wide big W)
 rw [hz] at HWS
 have hb0 : ¬ b = 0 := by omega
 have hw0 : ¬ wd = 0 := by omega
 have HG := hid hg
 have HLt := hid hlt
 have Hhd := hid hhd
 unfold shC
 clear h hz hb hw hlt hhd hg
 go_enter Tryz.func51, Tryz.ntmps51
 go_wp2
 generalize hW0 : World.alloc _ _ = W0
 obtain ⟨hb1, hb2, hb3, hgr⟩ := blk3 hW0
 obtain ⟨gf, hgf⟩ : ∃ g, g = w.heap.size := ⟨_, rfl⟩
 obtain ⟨gr, hgr2⟩ : ∃ g, g = w.heap.size + 1 := ⟨_, rfl⟩
 obtain ⟨ga, hga⟩ : ∃ g, g = w.heap.size + 1 + 1 := ⟨_, rfl⟩
 rw [← hga, ← hgr2, ← hgf]
 rw [← hga] at hb3
 rw [← hgr2] at hb2
 rw [← hgf] at hb1
 have HF0 := hid hb1
 have HR0 := hid hb2
 have HA0 : Hid (W0.rowIs ga 212 4 (ivlB .u64 (upToB hd 0))) := hid (hb3.row fun i hi => by
  have h4 : i < 4 := hi
  unfold ivlB upToB
  match i, h4 with
  | 0, _ => rfl
  | 1, _ => rfl
  | 2, _ => rfl
  | 3, _ => rfl)
 have HG0 := hid hgr
 have HNe : Hid (gf ≠ ga ∧ gr ≠ ga ∧ w.heap.size ≤ ga ∧ w.heap.size ≤ gr ∧ gf ≠ gr) := hid (by omega)
 clear hW0 hb1 hb2 hb3 hgr hgf hgr2 hga
 go_loopw [11] (fun i wr => ∃ k : Nat, k ≤ 4 ∧ i = .int .i64 k ∧ wr.rowIs ga 212 4 (ivlB .u64 (upToB hd k)) ∧ Blk wr gf 23 #[.bool wide, .bool big] ∧ Blk wr gr 80 #[.int .u64 0, .int .u64 0, .int .u64 0, .int .u64 0, .int .u64 0] ∧ Grow w wr) (fun i _ => 4 - (intOf i).toNat)
 case atStart => exact ⟨0, by omega, rfl, HA0.out, HF0.out, HR0.out, HG0.out⟩
 case round =>
  obtain ⟨k, hk, rfl, hrow, hform, hres, hgr⟩ := hrel
  have HA := hid hrow
  have HF := hid hform
  have HS := hid hres
  have HGr := hid hgr
  clear HA0 HF0 HR0 HG0 hrow hform hres hgr
  by_cases hlt : k < 4
  ·have e1 : IntKind.u64.wrap (k : Int) = (k : Int) := by rw [IntKind.wrap_u64]; omega
   have e2 : IntKind.u64.wrap ((k : Int) * 4) = ((k * 4 : Nat) : Int) := by rw [IntKind.wrap_u64]; omega
   obtain ⟨p, hp⟩ : ∃ p, p = k * 4 := ⟨_, rfl⟩
   rw [← hp] at e2
   obtain ⟨g1, g2⟩ := HG.out k hlt
   rw [← hp] at g1 g2
   have HC := hid (get_at A n c l w.heap.size p 4 big (hd k) wr (HR.out.belowAt HGr.out (Nat.le_refl _)) (.inl rfl) g1 g2)
   obtain ⟨q0, q1⟩ := HF.out.c2
   have c5 := HA.out.cell hlt
   have f5 := HA.out.frozen k
   have HX := hid ((HA.out.set k (.int .u64 (hd k : Int))).congr fun j _ => upTo_setB .u64 hd k j)
   have HF2 := hid (HF.out.cellset (a := ⟨ga, k, none⟩) HNe.out.1 (.int .u64 (hd k : Int)))
   have HS2 := hid (HS.out.cellset (a := ⟨ga, k, none⟩) HNe.out.2.1 (.int .u64 (hd k : Int)))
   have p1 : (k : Int) < 4 := by omega
   clear hp g1 g2
   go_wp2_with fail
   refine (HC.out : Calls Tryz.prog 54 #[_, _, .int .i64 4, _] _ _).mono ?_
   rintro e w' ⟨rfl, m, rfl⟩
   have d5 : (wr.drewN m).cell? ⟨ga, k, none⟩ = some (ivlB .u64 (upToB hd k) k) := c5
   have d6 : (wr.drewN m).frozen? ⟨ga, k, none⟩ = false := f5
   clear c5 f5 HC
   go_wp2
   go_roundw
   case rel => exact ⟨k + 1, by omega, by go_num, (HX.out : ((wr.drewN m).setCell ⟨ga, k, none⟩ (.int .u64 (hd k : Int))).rowIs ga 212 4 _), (HF2.out : Blk ((wr.drewN m).setCell ⟨ga, k, none⟩ (.int .u64 (hd k : Int))) gf _ _), (HS2.out : Blk ((wr.drewN m).setCell ⟨ga, k, none⟩ (.int .u64 (hd k : Int))) gr _ _), (below_drewN HGr.out m).setCell (p := ⟨ga, k, none⟩) HNe.out.2.2.1 _⟩
   case measure => simp [intOf]; omega
  ·have e : k = 4 := by omega
   subst e
   have hv0 : hd 0 = b := (Hhd.out 0 (by omega)).symm
   have hv1 : hd 1 = f := (Hhd.out 1 (by omega)).symm
   have hv2 : hd 2 = wd := (Hhd.out 2 (by omega)).symm
   have hv3 : hd 3 = sh := (Hhd.out 3 (by omega)).symm
   have hA := upTo_allB HA.out
   have HX : Hid (∀ W, Below wr.heap.size wr.drew W → (W.cell? ⟨ga, 0, none⟩ = some (.int .u64 (b : Int)) ∧ W.cell? ⟨ga, 1, none⟩ = some (.int .u64 (f : Int)) ∧ W.cell? ⟨ga, 2, none⟩ = some (.int .u64 (wd : Int)) ∧ W.cell? ⟨ga, 3, none⟩ = some (.int .u64 (sh : Int))) ∧ W.cell? ⟨gf, 0, none⟩ = some (.bool wide) ∧ W.cell? ⟨gf, 1, none⟩ = some (.bool big)) :=
    hid fun W hW => by
     have h0 : W.rowIs ga 212 4 (ivlB .u64 hd) := rows_below (w := wr.drew) hA hW hA.lt
     refine ⟨⟨?_, ?_, ?_, ?_⟩, ((HF.out.drew).below hW HF.out.lt).c2⟩
     ·rw [← hv0]; exact h0.cell (i := 0) (by omega)
     ·rw [← hv1]; exact h0.cell (i := 1) (by omega)
     ·rw [← hv2]; exact h0.cell (i := 2) (by omega)
     ·rw [← hv3]; exact h0.cell (i := 3) (by omega)
   clear hv0 hv1 hv2 hv3 hA
   go_wp2_with fail
   refine wp_region_tree (leap_below wr.heap.size) (.chain [(0, true), (1, true), (2, true), (3, true), (4, true), (5, true), (6, true), (7, true), (8, true)] (.both 9 (.chain [(10, true), (11, false), (12, false)] .done) 11 (.chain [(9, false), (10, true), (12, false)] .done))) (by kernel_rfl) (by kernel_rfl) (by kernel_rfl) ?_
   refine tr_chain ?_
   have HS2 : Hid (Blk wr.drew gr 80 #[.int .u64 0, .int .u64 0, .int .u64 0, .int .u64 0, .int .u64 0]) := HS.out.drew
   have HG2 : Hid (Grow w wr.drew) := HGr.out.trans (Grow.of_drew _)
   obtain ⟨B0, hB0⟩ : ∃ B, B = wr.heap.size := ⟨_, rfl⟩
   have hB1 : B0 ≤ wr.drew.heap.size := by rw [hB0]; exact Nat.le_refl _
   have hB2 : w.heap.size ≤ B0 := by rw [hB0]; exact HGr.out.size
   have hB3 : gr < B0 := by rw [hB0]; exact HS.out.lt
   rw [← hB0] at HX ⊢
   generalize wr.drew = w2 at HX HS2 HG2 hB1 ⊢
   clear HA HF HS HGr hB0 hlt hk
   repeat (refine chain_take rfl (by rfl) ?_ (fun W hG => ?_) ?_; rotate_left; (obtain ⟨⟨q1, q2, q3, q4⟩, q5, q6⟩ := HX.out W hG; go_simp; rfl); simp only [Act.put, List.setIfInBounds_toArray, List.set_cons_zero, List.set_cons_succ])
   clear HX
   refine chain_done (tr_both (step_op rfl (by rfl) ?A) (step_op rfl (by rfl) ?B))
   case' A =>
    intro K hK
    go_simp
    refine (HWS.out _).mono ?_
    rintro e w4 ⟨rfl, hg4⟩
    refine hK _ _ (hg4.mono hB1) ?_
    clear hK K
    have HS4 := hid (HS2.out.grow hg4)
    have HG4 := hid (HG2.out.trans hg4)
    have HL4 := hid (Nat.le_trans hB1 hg4.size)
    clear hg4 HS2 HG2 hB1
    refine tr_chain ?_
    refine chain_take rfl (by rfl) ?_ (fun W hG => ?_) ?_
    rotate_left
    (go_simp; rfl)
    simp only [Act.put, List.setIfInBounds_toArray, List.set_cons_zero, List.set_cons_succ]
    refine chain_only rfl (by rfl) (fun K hK => ?_)
    go_simp
    refine hK _ _ (Below.alloc (Below.refl _ _) HL4.out _) ?_
    clear hK K
    have HD5 := hid (Blk.new w4 80 #[.int .u64 0, .int .u64 0, .int .u64 0, .int .u64 0, .int .u64 0])
    have HS5 := hid (HS4.out.alloc (.cells #[.int .u64 0, .int .u64 0, .int .u64 0, .int .u64 0, .int .u64 0] 80))
    have HG5 : Hid (Grow w (w4.alloc (.cells #[.int .u64 0, .int .u64 0, .int .u64 0, .int .u64 0, .int .u64 0] 80))) := HG4.out.trans (Grow.of_alloc _ _)
    have HN5 : Hid (gr ≠ w4.heap.size ∧ w.heap.size ≤ w4.heap.size ∧ B0 ≤ w4.heap.size) := hid ⟨Nat.ne_of_lt HS4.out.lt, HG4.out.size, HL4.out⟩
    generalize w4.alloc _ = w5 at HD5 HS5 HG5 ⊢
    generalize w4.heap.size = gx at HD5 HN5 ⊢
    clear HS4 HG4 HL4
   case' B =>
    intro K hK
    go_simp
    refine hK _ _ (Below.alloc (Below.refl _ _) hB1 _) ?_
    clear hK K
    have HD4 := hid (Blk.new w2 80 #[.int .u64 0, .int .u64 0, .int .u64 0, .int .u64 0, .int .u64 0])
    have HS4 := hid (HS2.out.alloc (.cells #[.int .u64 0, .int .u64 0, .int .u64 0, .int .u64 0, .int .u64 0] 80))
    have HG4 : Hid (Grow w (w2.alloc (.cells #[.int .u64 0, .int .u64 0, .int .u64 0, .int .u64 0, .int .u64 0] 80))) := HG2.out.trans (Grow.of_alloc _ _)
    have HN5 : Hid (gr ≠ w2.heap.size ∧ w.heap.size ≤ w2.heap.size ∧ B0 ≤ w2.heap.size) := hid ⟨Nat.ne_of_lt HS2.out.lt, HG2.out.size, hB1⟩
    have HL4 : Hid (B0 ≤ (w2.alloc (.cells #[.int .u64 0, .int .u64 0, .int .u64 0, .int .u64 0, .int .u64 0] 80)).heap.size) := hid (by simp; omega)
    generalize w2.alloc _ = w4 at HD4 HS4 HG4 HL4 ⊢
    generalize w2.heap.size = gx at HD4 HN5 ⊢
    clear HS2 HG2 hB1
    refine tr_chain ?_
    refine chain_only rfl (by rfl) (fun K hK => ?_)
    go_simp
    refine (HWS.out _).mono ?_
    rintro e w5 ⟨rfl, hg5⟩
    refine hK _ _ (hg5.mono HL4.out) ?_
    clear hK K
    have HD5 := hid (HD4.out.grow hg5)
    have HS5 := hid (HS4.out.grow hg5)
    have HG5 := hid (HG4.out.trans hg5)
    clear hg5 HD4 HS4 HG4 HL4
    refine chain_take rfl (by rfl) ?_ (fun W hG => ?_) ?_
    rotate_left
    (go_simp; rfl)
    simp only [Act.put, List.setIfInBounds_toArray, List.set_cons_zero, List.set_cons_succ]
   all_goals
    refine chain_only rfl (by rfl) (fun K hK => ?_)
    refine wp_store_row 80 (.tmp 10) (.tmp 41) rfl gx #[.int .u64 (b : Int), .int .u64 (f : Int), .int .u64 (wd : Int), .int .u64 (sh : Int), .int .u64 (z : Int)] rfl rfl _ _ HD5.out (by kernel_rfl) rfl (by simp [Value.oneCell']) ?_
    refine hK _ _ (Below.setRow' _ HN5.out.2.2 _) ?_
    clear hK K
    have HX7 := hid (HD5.out.set #[.int .u64 (b : Int), .int .u64 (f : Int), .int .u64 (wd : Int), .int .u64 (sh : Int), .int .u64 (z : Int)])
    have HS7 := hid (HS5.out.other HN5.out.1 #[.int .u64 (b : Int), .int .u64 (f : Int), .int .u64 (wd : Int), .int .u64 (sh : Int), .int .u64 (z : Int)])
    have HG7 : Hid (Grow w (w5.setRow gx #[.int .u64 (b : Int), .int .u64 (f : Int), .int .u64 (wd : Int), .int .u64 (sh : Int), .int .u64 (z : Int)])) := Grow.set HG5.out HN5.out.2.1 _
    generalize w5.setRow gx _ = w7 at HX7 HS7 HG7 ⊢
    clear HD5 HS5 HG5 HWS
    refine chain_done (tr_done ?_)
    go_wp2_with fail
    have m1 : ((b : Int) != 0) = true := some_of hb0
    have m2 : ((wd : Int) != 0) = true := some_of hw0
    have HY : Hid (∀ W, Bar gr w7.drew W → W.cell? ⟨gx, 0, none⟩ = some (.int .u64 (b : Int)) ∧ W.cell? ⟨gx, 1, none⟩ = some (.int .u64 (f : Int)) ∧ W.cell? ⟨gx, 2, none⟩ = some (.int .u64 (wd : Int)) ∧ W.cell? ⟨gx, 3, none⟩ = some (.int .u64 (sh : Int)) ∧ W.cell? ⟨gx, 4, none⟩ = some (.int .u64 (z : Int))) :=
     hid fun W hW => ((HX7.out.drew).bar hW (Ne.symm HN5.out.1)).c5
    refine wp_region_leap (leap_bar gr) [(0, true), (1, true), (2, true), (3, true), (4, true), (5, true), (6, true), (7, true), (8, true), (9, false), (10, true)] (by kernel_rfl) (by kernel_rfl) (by kernel_rfl) ?_
    have HS8 : Hid (Blk w7.drew gr 80 _) := HS7.out.drew
    have HG8 : Hid (Grow w w7.drew) := HG7.out.trans (Grow.of_drew _)
    generalize w7.drew = w8 at HY HS8 HG8 ⊢
    clear HX7 HS7 HG7
    simp only [Act.put]
    repeat (refine chain_take rfl (by rfl) ?_ (fun W hG => ?_) ?_; rotate_left; (obtain ⟨q1, q2, q3, q4, q5⟩ := HY.out W hG; go_simp; rfl); simp only [Act.put, List.setIfInBounds_toArray, List.set_cons_zero, List.set_cons_succ])
    clear HY
    refine chain_only rfl (by rfl) (fun K hK => ?_)
    refine wp_store_row 80 (.tmp 4) (.tmp 42) rfl gr #[.int .u64 (b : Int), .int .u64 (f : Int), .int .u64 (wd : Int), .int .u64 (sh : Int), .int .u64 (z : Int)] rfl rfl _ _ HS8.out (by kernel_rfl) rfl (by simp [Value.oneCell']) ?_
    refine hK _ _ (Bar.set _ _ _) ?_
    clear hK K
    have HS9 := hid (HS8.out.set #[.int .u64 (b : Int), .int .u64 (f : Int), .int .u64 (wd : Int), .int .u64 (sh : Int), .int .u64 (z : Int)])
    have HG9 : Hid (Grow w (w8.setRow gr #[.int .u64 (b : Int), .int .u64 (f : Int), .int .u64 (wd : Int), .int .u64 (sh : Int), .int .u64 (z : Int)])) := Grow.set HG8.out HNe.out.2.2.2.1 _
    generalize w8.setRow gr _ = w9 at HS9 HG9 ⊢
    simp only [Act.put]
    repeat (refine chain_take rfl (by rfl) ?_ (fun W hG => ?_) ?_; rotate_left; (go_simp; rfl); simp only [Act.put, List.setIfInBounds_toArray, List.set_cons_zero, List.set_cons_succ])
    refine chain_done ?_
    go_wp2
    exact read_ret rfl rfl HS9.out ⟨rfl, HG9.out⟩
set_option maxRecDepth 100000
def FromR (word bt place : Nat) (w : World) (e : Ending) (w' : World) : Prop :=
 Grow w w' ∧ ((word &&& bt ≠ bt ∧ e = .returned (.tuple #[.int .u64 0, .bool false])) ∨ (word &&& bt = bt ∧ e = .returned (.tuple #[.int .u64 (place : Int), .bool (decide (place ≠ 0))])))
set_option maxHeartbeats 4000000 in
set_option maxRecDepth 100000 in
theorem from_core (A : Option Addr) (n c : Nat) (l : List UInt8) (b f wd sh z h at_ bt word place : Nat) (wide big : Bool) (w : World) (hr : RB w w.heap.size A n c l) (hz : z = 4 ∨ z = 8) (hb : 1 ≤ b) (hb2 : b ≤ 1024) (hw : 1 ≤ wd) (hw2 : wd ≤ 1024) (hs : sh ≤ 31) (h32 : h < 4294967296)
  (hAt : h / (8 * z) % wd = at_) (hBt : (2 ^ (h % (8 * z)) ||| 2 ^ (h / 2 ^ sh % (8 * z))) = bt) (hbt : bt < 2 ^ 64) (hword : word < 2 ^ 64) (hpl : place = 0 ∨ f ≤ place)
  (hg1 : 16 + at_ * z + z ≤ l.length ∧ getB ((l.drop (16 + at_ * z)).take z) big = word) (hg2 : 16 + wd * z + h % b * 4 + 4 ≤ l.length ∧ getB ((l.drop (16 + wd * z + h % b * 4)).take 4) big = place) :
  Calls Tryz.prog 53 #[.agg (shC b f wd sh z), .slice A n c, .int .u32 (h : Int), .agg #[.bool wide, .bool big]] w (FromR word bt place w) := by
 have HR := hid hr
 have HBO := hid (fun W => bitsOf_any b f wd sh z h W hz hw hs h32)
 rw [hAt, hBt] at HBO
 have hz8 : z ≤ 8 := by omega
 have HHD := hid (fun W => heads_any b f wd sh z W hw2 hz8)
 have HBU := hid (fun W => bucket_any b f wd sh z h W hb h32)
 unfold shC at HBO HHD HBU ⊢
 have hat : at_ < 1024 := by rw [← hAt]; exact Nat.lt_of_lt_of_le (Nat.mod_lt _ (by omega)) hw2
 have hk : h % b < 1024 := Nat.lt_of_lt_of_le (Nat.mod_lt _ (by omega)) hb2
 obtain ⟨k, hk2⟩ : ∃ k, k = h % b := ⟨_, rfl⟩
 rw [← hk2] at HBU hg2 hk
 have q1 : at_ * z ≤ 1024 * 8 := Nat.mul_le_mul (by omega) hz8
 have q2 : wd * z ≤ 1024 * 8 := Nat.mul_le_mul hw2 hz8
 have e1 : IntKind.u64.wrap ((at_ : Int) * (z : Int)) = ((at_ * z : Nat) : Int) := by rw [show (at_ : Int) * (z : Int) = ((at_ * z : Nat) : Int) by simp, IntKind.wrap_u64]; omega
 obtain ⟨x, hx⟩ : ∃ x, x = at_ * z := ⟨_, rfl⟩
 rw [← hx] at e1 hg1 q1
 obtain ⟨p1, hp1⟩ : ∃ p, p = 16 + x := ⟨_, rfl⟩
 rw [← hp1] at hg1
 have e2 : IntKind.u64.wrap (16 + (x : Int)) = (p1 : Int) := by rw [IntKind.wrap_u64]; omega
 have e3 : IntKind.i64.wrap (z : Int) = (z : Int) := by rw [IntKind.wrap_i64]; omega
 have e4 : IntKind.u64.wrap ((k : Int) * 4) = (k : Int) * 4 := by rw [IntKind.wrap_u64]; omega
 obtain ⟨y, hy⟩ : ∃ y, y = 16 + wd * z := ⟨_, rfl⟩
 rw [← hy] at HHD hg2
 obtain ⟨p2, hp2⟩ : ∃ p, p = y + k * 4 := ⟨_, rfl⟩
 rw [← hp2] at hg2
 have e5 : IntKind.u64.wrap ((y : Int) + (k : Int) * 4) = (p2 : Int) := by rw [IntKind.wrap_u64]; omega
 have HG1 := hid (fun B W (hW : RB W B A n c l) => get_at A n c l B p1 z big word W hW hz hg1.1 hg1.2)
 have HG2 := hid (fun B W (hW : RB W B A n c l) => (get_at A n c l B p2 4 big place W hW (.inl rfl) hg2.1 hg2.2 : Calls Tryz.prog 54 #[_, _, .int .i64 4, _] _ _))
 have e6 := u64_and_nat word bt hword hbt
 have HP := hid hpl
 clear hr hz hb hb2 hw hw2 hs h32 hAt hBt hbt hword hg1 hg2 hpl hat hk hk2 q1 q2 hx hp1 hy hp2 hz8
 obtain ⟨o, ho⟩ : ∃ o, o = word &&& bt := ⟨_, rfl⟩
 rw [← ho] at e6
 have HO := hid ho
 clear ho
 go_enter Tryz.func53, Tryz.ntmps53
 go_wp2_with fail
 generalize hW0 : World.alloc _ _ = W0
 obtain ⟨hb1, hb2, hgr⟩ := blk2 hW0
 obtain ⟨gx, hgx⟩ : ∃ g, g = w.heap.size := ⟨_, rfl⟩
 obtain ⟨gf, hgf⟩ : ∃ g, g = w.heap.size + 1 := ⟨_, rfl⟩
 rw [← hgf, ← hgx]
 rw [← hgf] at hb2
 rw [← hgx] at hb1
 have HX0 := hid hb1
 have HF0 := hid hb2
 have HG0 := hid hgr
 clear hW0 hb1 hb2 hgr hgx hgf
 refine (HBO.out _).mono ?_
 rintro e w1 ⟨rfl, hg⟩
 have HX1 := hid (HX0.out.grow hg)
 have HF1 := hid (HF0.out.grow hg)
 have HGr1 := hid (HG0.out.trans hg)
 obtain ⟨c0, c1, c2, c3, c4⟩ := HX1.out.c5
 obtain ⟨k0, k1⟩ := HF1.out.c2
 clear hg HX0 HF0 HG0 HBO
 go_wp2_with fail
 refine (HG1.out _ _ (HR.out.belowAt HGr1.out (Nat.le_refl _))).mono ?_
 rintro e w2 ⟨rfl, m, rfl⟩
 have HX2 : Hid (Blk (w1.drewN m) gx 80 #[.int .u64 (b : Int), .int .u64 (f : Int), .int .u64 (wd : Int), .int .u64 (sh : Int), .int .u64 (z : Int)]) := HX1
 have HF2 : Hid (Blk (w1.drewN m) gf 23 #[.bool wide, .bool big]) := HF1
 have HGr2 : Hid (Grow w (w1.drewN m)) := hid (below_drewN HGr1.out m)
 clear HX1 HF1 HGr1 HG1 c0 c1 c2 c3 c4 k0 k1 e1 e2 e3
 generalize w1.drewN m = w2 at HX2 HF2 HGr2 ⊢
 by_cases hob : o = bt
 ·have HOb : Hid (word &&& bt = bt) := hid (by rw [← HO.out]; exact hob)
  rw [hob] at e6
  have hne : ((bt : Int) != (bt : Int)) = false := by simp
  clear hob HO
  go_wp2_with fail
  have HX : Hid (∀ W, Grow w2.drew W → (W.cell? ⟨gx, 0, none⟩ = some (.int .u64 (b : Int)) ∧ W.cell? ⟨gx, 1, none⟩ = some (.int .u64 (f : Int)) ∧ W.cell? ⟨gx, 2, none⟩ = some (.int .u64 (wd : Int)) ∧ W.cell? ⟨gx, 3, none⟩ = some (.int .u64 (sh : Int)) ∧ W.cell? ⟨gx, 4, none⟩ = some (.int .u64 (z : Int))) ∧ W.cell? ⟨gf, 0, none⟩ = some (.bool wide) ∧ W.cell? ⟨gf, 1, none⟩ = some (.bool big)) :=
   hid fun W hW => ⟨((HX2.out.drew).grow hW).c5, ((HF2.out.drew).grow hW).c2⟩
  refine wp_region_chain [(0, true), (1, true), (3, true), (4, true), (8, true), (9, true), (2, false), (5, false), (6, true), (7, true), (10, false), (11, true), (12, true), (13, true), (14, true), (15, true)] (by kernel_rfl) (by kernel_rfl) (by kernel_rfl) ?_
  have HX3 : Hid (Blk w2.drew gx 80 #[.int .u64 (b : Int), .int .u64 (f : Int), .int .u64 (wd : Int), .int .u64 (sh : Int), .int .u64 (z : Int)]) := HX2
  have HGr3 : Hid (Grow w w2.drew) := hid (HGr2.out.trans (Grow.of_drew _))
  generalize w2.drew = w3 at HX HX3 HGr3 ⊢
  clear HX2 HF2 HGr2 hne e6
  repeat (refine chain_take rfl (by rfl) ?_ (fun W hG => ?_) ?_; rotate_left; (obtain ⟨⟨q1, q2, q3, q4, q5⟩, q6, q7⟩ := HX.out W hG; go_simp; rfl); simp only [Act.put, List.setIfInBounds_toArray, List.set_cons_zero, List.set_cons_succ])
  clear HX
  refine chain_only rfl (by rfl) (fun K hK => ?_)
  go_simp
  refine (HHD.out _).mono ?_
  rintro e w4 ⟨rfl, hg⟩
  refine hK _ _ hg ?_
  clear hK K
  have HX4 := hid (HX3.out.grow hg)
  have HGr4 := hid (HGr3.out.trans hg)
  clear hg HX3 HGr3
  refine chain_only rfl (by rfl) (fun K hK => ?_)
  go_simp
  refine (HBU.out _).mono ?_
  rintro e w5 ⟨rfl, hg⟩
  refine hK _ _ hg ?_
  clear hK K
  have HX5 := hid (HX4.out.grow hg)
  have HGr5 := hid (HGr4.out.trans hg)
  clear hg HX4 HGr4
  repeat (refine chain_take rfl (by rfl) ?_ (fun W hG => ?_) ?_; rotate_left; (go_simp; rfl); simp only [Act.put, List.setIfInBounds_toArray, List.set_cons_zero, List.set_cons_succ])
  refine chain_only rfl (by rfl) (fun K hK => ?_)
  go_simp
  refine (HG2.out _ _ (HR.out.belowAt HGr5.out (Nat.le_refl _))).mono ?_
  rintro e w6 ⟨rfl, m2, rfl⟩
  refine hK _ _ (Grow.of_drewN _ _) ?_
  clear hK K
  have HX6 : Hid (Blk (w5.drewN m2) gx 80 #[.int .u64 (b : Int), .int .u64 (f : Int), .int .u64 (wd : Int), .int .u64 (sh : Int), .int .u64 (z : Int)]) := HX5
  have HGr6 : Hid (Grow w (w5.drewN m2)) := hid (below_drewN HGr5.out m2)
  generalize w5.drewN m2 = w6 at HX6 HGr6 ⊢
  clear HX5 HGr5 e4 e5
  repeat (refine chain_take rfl (by rfl) ?_ (fun W hG => ?_) ?_; rotate_left; (go_simp; rfl); simp only [Act.put, List.setIfInBounds_toArray, List.set_cons_zero, List.set_cons_succ])
  refine chain_done ?_
  obtain ⟨c0, c1, c2, c3, c4⟩ := HX6.out.c5
  by_cases hp0 : place = 0
  ·have hd : Hid (decide (place ≠ 0) = false) := hid (decide_eq_false (fun h => h hp0))
   have m1 : ((place : Int) != 0) = false := by simp; exact hp0
   clear hp0
   go_wp2_with fail
   go_quiet (fail)
   go_wp2
   go_ret2
   exact ⟨below_drewN HGr6.out _, .inr ⟨HOb.out, by rw [hd.out]; rfl⟩⟩
  ·have hd : Hid (decide (place ≠ 0) = true) := hid (decide_eq_true hp0)
   have m1 : ((place : Int) != 0) = true := some_of hp0
   have m2 : (f : Int) ≤ (place : Int) := by have := HP.out; omega
   clear hp0
   go_wp2_with fail
   go_quiet (fail)
   go_wp2
   go_ret2
   exact ⟨below_drewN HGr6.out _, .inr ⟨HOb.out, by rw [hd.out]; rfl⟩⟩
 ·have HOb : Hid (word &&& bt ≠ bt) := hid (by rw [← HO.out]; exact hob)
  have hne : ((o : Int) != (bt : Int)) = true := by simp; omega
  clear hob HO
  go_wp2
  go_ret2
  exact ⟨HGr2.out, .inl ⟨HOb.out, rfl⟩⟩
end Go.Proofs.YtfbimboemahhhaaGreatDoor
