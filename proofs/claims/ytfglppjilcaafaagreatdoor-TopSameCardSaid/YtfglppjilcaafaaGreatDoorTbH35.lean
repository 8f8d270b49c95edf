/-
  Several texts in one: The contract of the document's own PlanOf.
-/
import Derived.Test.YtfglppjilcaafaaGreatDoorTbH33
import Derived.Test.YtfglppjilcaafaaGreatDoorTbH34
namespace Go.Proofs.YtfglppjilcaafaaGreatDoor
open Go.Lib (hid)
open Go.RowKit
theorem Blk.cellIf {w : World} {g : Nat} {t : TypeId} {cs : Array Value} {c : Prop} [Decidable c] (h : Blk w g t cs) {a : Addr} (ha : g ≠ a.block) (v : Value) : Blk (if c then w.setCell a v else w) g t cs := by
 split
 ·exact h.cellset ha v
 ·exact h
theorem below_cellIf {B g : Nat} {w w' : World} {c : Prop} [Decidable c] (h : Below B w w') (hg : B ≤ g) (i : Nat) (v : Value) : Below B w (if c then w'.setCell ⟨g, i, none⟩ v else w') := by
 split
 ·exact below_cell h hg i v
 ·exact h
theorem six_of {l : List Value} (h : l.length = 6) : ∃ x0 x1 x2 x3 x4 x5, l = [x0, x1, x2, x3, x4, x5] := by
 match l, h with
 | [x0, x1, x2, x3, x4, x5], _ => exact ⟨_, _, _, _, _, _, rfl⟩
set_option maxRecDepth 100000 in
set_option maxHeartbeats 32000000 in
theorem rPlan_any (m : Md) (ok : m.Ok) (A1 A2 : Option Addr) (n1 c1 n2 c2 : Nat) (w : World) (g1 : ZR sgK w w.heap.size A1 n1 c1 m.segs) (g2 : ZR seK w w.heap.size A2 n2 c2 m.secs) :
  Calls Tryz.prog 8 #[.agg (mdC m (.slice A1 n1 c1) (.slice A2 n2 c2))] w (RPlanR m w) := by
 have HC := hid (fun w' (hg : Grow w w') => rCheck_any m ok A1 A2 n1 c1 n2 c2 w' (g1.grow hg) (g2.grow hg))
 have HS := hid (fun (w : World) (h : m.planC = 0) (ga gb : Nat) => plan_some m w h (ga := ga) (gb := gb) g1.len g2.len (Nat.le_trans g1.cap g1.max) (Nat.le_trans g2.cap g2.max))
 have HN := hid (fun (w : World) => plan_none m w)
 have EC : Hid (m.planC = if m.chk ≠ 0 then m.chk else if m.eT ≤ 65536 then 0 else 8) := hid rfl
 have hm1 := g1.max
 have hc1 := g1.cap
 have hm2 := g2.max
 have hc2 := g2.cap
 unfold maxLen at hm1 hm2
 have HZ1 := hid g1
 have HZ2 := hid g2
 have HL1 := hid g1.len
 have HL2 := hid g2.len
 have HPO := hid (fun (h : m.chk = 0) => plan_ok ok h g1.owns g2.owns)
 have HLd := hid (fun (h : m.chk = 0) (k : Nat) (hk : k < m.segs.length) (ht : (m.sg k).typ = 1) => Md.segC_load ((Md.chk_zero h).1 _ (m.sg_mem hk)) ht)
 have HVa := hid (fun (k : Nat) (hk : k < m.segs.length) => (ok.segs _ (m.sg_mem hk)).vaddr)
 have HSz := hid (fun w => sizes_any m.wide m.big w)
 have EPh := hid (show m.phoff = if 0 < n1 then hSize m.wide else 0 by rw [HL1.out]; rfl)
 have ESh := hid (show m.shoff = if 0 < n2 then plc (m.eS n2) 0 8 else 0 by rw [HL2.out]; rfl)
 have ET := hid (show m.eT = if 0 < n2 then fin (m.eS n2) 0 8 (byWide m.wide 40 64 * (n2 + 1)) else m.eS n2 by rw [HL2.out]; rfl)
 have E1 := hid (show m.e1 = hSize m.wide + byWide m.wide 32 56 * n1 by rw [HL1.out]; rfl)
 have hz0 := hSize_le m.wide
 have hz1 := byWide_le m.wide 32 56 64 (by omega) (by omega)
 have hz2 := byWide_le m.wide 40 64 64 (by omega) (by omega)
 obtain ⟨x2, x3, x4, x5, x6, x7, x10, hC⟩ : ∃ x2 x3 x4 x5 x6 x7 x10 : Value, mdC m (.slice A1 n1 c1) (.slice A2 n2 c2) = #[.bool m.wide, .bool m.big, x2, x3, x4, x5, x6, x7, .slice A1 n1 c1, .slice A2 n2 c2, x10] := ⟨_, _, _, _, _, _, _, rfl⟩
 rw [hC] at HC ⊢
 unfold RPlanR
 generalize m.planD = D at HS HN ⊢
 generalize m.planC = C at HS HN EC ⊢
 generalize m.phoff = ph at EPh HS
 generalize m.shoff = sh at ESh HS
 generalize byWide m.wide 32 56 = z1 at HSz E1 hz1
 generalize byWide m.wide 40 64 = z2 at HSz ET hz2
 generalize hSize m.wide = z0 at HSz EPh E1 hz0
 generalize m.wide = wide at HSz HC ⊢
 generalize m.big = big at HSz HC ⊢
 clear hC g1 g2 ok
 go_enter Tryz.func8, Tryz.ntmps8
 go_wp2_with fail
 generalize hW : World.alloc _ _ = W0
 obtain ⟨b1, b2, hg0⟩ := blk2 hW
 clear hW
 have HM0 := hid b1
 have HT0 := hid b2
 have HG0 := hid hg0
 clear b1 b2 hg0
 refine (HC.out _ HG0.out).mono ?_
 rintro e w1 ⟨rfl, hg⟩
 have HG1 : Hid (Grow w w1) := HG0.out.trans hg
 have HM1 := hid (HM0.out.grow hg)
 have HT1 := hid (HT0.out.grow hg)
 clear hg HM0 HT0 HG0 HC
 by_cases hck : m.chk = 0
 case neg =>
  have EC2 : Hid (C = m.chk) := hid (by rw [EC.out, if_pos hck])
  have HNE := hid hck
  have d : ((m.chk : Int) != 0) = true := by simp; omega
  have s0 := HT1.out.soft 0
  have s1 := HT1.out.soft 1
  have s2 := HT1.out.soft 2
  have s3 := HT1.out.soft 3
  have s4 := HT1.out.soft 4
  have r0 := HT1.out.at 0
  have r1 := HT1.out.at 1
  have r2 := HT1.out.at 2
  have r3 := HT1.out.at 3
  have r4 := HT1.out.at 4
  clear hck
  generalize m.chk = ck at d EC2 HNE ⊢
  go_wp2
  have HX := hid (put5 HT1.out (.int .u64 0) (.int .u64 0) (.int .u64 0) (.slice none 0 0) (.slice none 0 0))
  refine rp_ret (ev := .int .i64 (ck : Int)) rfl rfl HX.out.1 rfl ?_
  exact ⟨_, by rw [EC2.out], HN.out _ (by rw [EC2.out]; exact HNE.out), below_line HG1.out HX.out.2 HG1.out.size (by omega)⟩
 rw [hck]
 have EC2 := hid (show C = if m.eT ≤ 65536 then 0 else 8 by rw [EC.out, if_neg (by omega)])
 obtain ⟨o1, o2, o3, o4, o5⟩ := HPO.out hck
 have HLd := hid (HLd.out hck)
 rw [← HL1.out] at o1 o3 o4 HLd HVa
 rw [← HL2.out] at o2 o4 o5
 have HSg := hid o3
 have HSe := hid o4
 have HSs := hid o5
 clear hck EC HPO o3 o4 o5
 obtain ⟨v0, v1, v2, v3, v4, v5, v6, v7, v8, v9, v10⟩ := HM1.out.c11
 go_wp2_with fail
 clear v0 v1 v2 v3 v4 v5 v6 v7 v8 v9 v10
 refine (HSz.out _).mono ?_
 rintro e w2 ⟨rfl, hg⟩
 have HG2 : Hid (Grow w w2) := HG1.out.trans hg
 have HM2 := hid (HM1.out.grow hg)
 have HT2 := hid (HT1.out.grow hg)
 clear hg HM1 HT1 HG1 HSz
 have y8 := HM2.out.at 8
 have y9 := HM2.out.at 9
 go_wp2_with fail
 clear y8 y9
 refine wp_cut (fun a a' w' => ∃ gx ga gb : Nat, Hid (w2.heap.size ≤ gx ∧ w2.heap.size ≤ ga ∧ w2.heap.size ≤ gb) ∧ Hid (Pb w' gx ga gb n1 n2 #[.int .u64 0, .int .u64 0, .int .u64 0, .slice (some ⟨ga, 0, none⟩) n1 n1, .slice (some ⟨gb, 0, none⟩) n2 n2] (fun _ => 0) (fun _ => 0)) ∧ Hid (Grow w2 w') ∧ a' = ((((((((((a.put (some 29) (.pointer (some ⟨w.heap.size, 8, none⟩))).put (some 30) (.slice A1 n1 c1)).put (some 31) (.int .i64 (n1 : Int))).put (some 32) (.slice (some ⟨ga, 0, none⟩) n1 n1)).put (some 33) (.pointer (some ⟨w.heap.size, 9, none⟩))).put (some 34) (.slice A2 n2 c2)).put (some 35) (.int .i64 (n2 : Int))).put (some 36) (.slice (some ⟨gb, 0, none⟩) n2 n2)).put (some 37) (.agg #[.int .u64 0, .int .u64 0, .int .u64 0, .slice (some ⟨ga, 0, none⟩) n1 n1, .slice (some ⟨gb, 0, none⟩) n2 n2])).put (some 8) (.pointer (some ⟨gx, 0, none⟩)))) ?_ ?_
 ·refine wp_region_tq (leap_below (w.heap.size + 2)) (.chain [(0, true), (1, true), (2, true), (4, true), (5, true), (6, true)] (.three 3 (.both 7 (.chain [(8, true), (9, false), (10, false)] .done) 9 (.chain [(7, false), (8, true), (10, false)] .done)) 7 (.both 3 (.chain [(8, true), (9, false), (10, false)] .done) 9 (.chain [(3, false), (8, true), (10, false)] .done)) 9 (.both 3 (.chain [(7, false), (8, true), (10, false)] .done) 7 (.chain [(3, false), (8, true), (10, false)] .done)))) (by kernel_rfl) (by kernel_rfl) (by kernel_rfl) ?_
  refine tq_chain ?_
  have hmk1 : ∀ W : World, (Instr.makeSlice 36 (.int .i64 (n1 : Int)) (.int .i64 (n1 : Int))).run Tryz.prog W = .ok (.slice (some ⟨W.heap.size, 0, none⟩) n1 n1) (W.alloc (.cells (madeCells #[.int .u64 0] n1) 28)) :=
   fun W => run_make_row' 36 28 (.int .u64 0) 8 Tryz.underlying36 (by kernel_rfl) rfl _ _ n1 (by omega) (by omega) W
  have hmk2 : ∀ W : World, (Instr.makeSlice 36 (.int .i64 (n2 : Int)) (.int .i64 (n2 : Int))).run Tryz.prog W = .ok (.slice (some ⟨W.heap.size, 0, none⟩) n2 n2) (W.alloc (.cells (madeCells #[.int .u64 0] n2) 28)) :=
   fun W => run_make_row' 36 28 (.int .u64 0) 8 Tryz.underlying36 (by kernel_rfl) rfl _ _ n2 (by omega) (by omega) W
  have HSw := hid (show w.heap.size + 2 ≤ w2.heap.size from by have := HT2.out.lt; omega)
  have HD0 : Hid (Grow w2 w2.drew) := Grow.of_drew w2
  have HSd0 := hid (show w.heap.size + 2 ≤ w2.drew.heap.size from (show w.heap.size + 2 ≤ w2.heap.size from by have := HT2.out.lt; omega))
  have q8 : ∀ W, Below (w.heap.size + 2) w2.drew W → W.cell? ⟨w.heap.size, 8, none⟩ = some (.slice A1 n1 c1) := fun W hW => (hW.cell (show w.heap.size < w.heap.size + 2 by omega)).trans (HM2.out.drew.at 8)
  have q9 : ∀ W, Below (w.heap.size + 2) w2.drew W → W.cell? ⟨w.heap.size, 9, none⟩ = some (.slice A2 n2 c2) := fun W hW => (hW.cell (show w.heap.size < w.heap.size + 2 by omega)).trans (HM2.out.drew.at 9)
  generalize w2.drew = v0 at HD0 HSd0 q8 q9 ⊢
  repeat ((first | (refine chain_take rfl (by rfl) ?_ (fun W hG => ?_) ?_; rotate_left; (go_simp; rfl)) | refine chain_skip rfl (by rfl) ?_); simp only [Act.put, List.setIfInBounds_toArray, List.set_cons_zero, List.set_cons_succ])
  clear q8 q9
  refine chain_done (tq_three (step_op rfl (by rfl) ?A1) (step_op rfl (by rfl) ?B1) (step_op rfl (by rfl) ?X1))
  case' A1 =>
   intro K hK
   go_simp
   refine hK _ _ ((Below.refl _ _).alloc HSd0.out _) ?_
   clear hK K
   have hga := Grow.of_alloc v0 (.cells (madeCells #[.int .u64 0] n1) 28)
   have HRA1 := hid (rows_zero v0 n1)
   have HD1 : Hid (Grow w2 (v0.alloc (.cells (madeCells #[.int .u64 0] n1) 28))) := HD0.out.trans hga
   have HSd1 := hid (Nat.le_trans HSd0.out hga.size)
   have HqA := hid (show w2.heap.size ≤ v0.heap.size from HD0.out.size)
   clear hga  HD0
   generalize v0.alloc _ = v1 at HRA1 HD1 HSd1 ⊢
   generalize v0.heap.size = ga at HRA1 HqA ⊢
   clear HSd0
   refine tq_both (step_op rfl (by rfl) ?AB) (step_op rfl (by rfl) ?AX)
   case' AB =>
    intro K hK
    go_simp
    refine hK _ _ ((Below.refl _ _).alloc HSd1.out _) ?_
    clear hK K
    have hga := Grow.of_alloc v1 (.cells (madeCells #[.int .u64 0] n2) 28)
    have HRA2 := hid (HRA1.out.grow hga)
    have HneAB := hid (show ga ≠ v1.heap.size from by have := Row.lt HRA1.out; omega)
    have HRB2 := hid (rows_zero v1 n2)
    have HD2 : Hid (Grow w2 (v1.alloc (.cells (madeCells #[.int .u64 0] n2) 28))) := HD1.out.trans hga
    have HSd2 := hid (Nat.le_trans HSd1.out hga.size)
    have HqB := hid (show w2.heap.size ≤ v1.heap.size from HD1.out.size)
    clear hga HRA1 HD1
    generalize v1.alloc _ = v2 at HRA2 HRB2 HD2 HSd2 ⊢
    generalize v1.heap.size = gb at HneAB HRB2 HqB ⊢
    clear HSd1
    refine tq_chain ?_
    repeat ((first | (refine chain_take rfl (by rfl) ?_ (fun W hG => ?_) ?_; rotate_left; (go_simp; rfl)) | refine chain_skip rfl (by rfl) ?_); simp only [Act.put, List.setIfInBounds_toArray, List.set_cons_zero, List.set_cons_succ])
    refine chain_only rfl (by rfl) (fun K hK => ?_)
    go_simp
    refine hK _ _ ((Below.refl _ _).alloc HSd2.out _) ?_
    clear hK K
    have hga := Grow.of_alloc v2 (.cells #[.int .u64 0, .int .u64 0, .int .u64 0, .slice none 0 0, .slice none 0 0] 38)
    have HRA3 := hid (HRA2.out.grow hga)
    have HRB3 := hid (HRB2.out.grow hga)
    have HneAX := hid (show ga ≠ v2.heap.size from by have := Row.lt HRA2.out; omega)
    have HneBX := hid (show gb ≠ v2.heap.size from by have := Row.lt HRB2.out; omega)
    have HRX3 := hid (Blk.new v2 38 #[.int .u64 0, .int .u64 0, .int .u64 0, .slice none 0 0, .slice none 0 0])
    have HD3 : Hid (Grow w2 (v2.alloc (.cells #[.int .u64 0, .int .u64 0, .int .u64 0, .slice none 0 0, .slice none 0 0] 38))) := HD2.out.trans hga
    have HSd3 := hid (Nat.le_trans HSd2.out hga.size)
    have HqX := hid (show w2.heap.size ≤ v2.heap.size from HD2.out.size)
    clear hga HRA2 HRB2 HD2
    generalize v2.alloc _ = v3 at HRA3 HRB3 HRX3 HD3 HSd3 ⊢
    generalize v2.heap.size = gx at HneAX HneBX HRX3 HqX ⊢
    clear HSd2
    have r0 := HRX3.out.at 0
    have r1 := HRX3.out.at 1
    have r2 := HRX3.out.at 2
    have r3 := HRX3.out.at 3
    have r4 := HRX3.out.at 4
    have s0 := Blk.soft HRX3.out 0
    have s1 := Blk.soft HRX3.out 1
    have s2 := Blk.soft HRX3.out 2
    have s3 := Blk.soft HRX3.out 3
    have s4 := Blk.soft HRX3.out 4
    refine chain_only rfl (by rfl) (fun K hK => ?_)
    go_simp
    have HX := put5 HRX3.out (.int .u64 0) (.int .u64 0) (.int .u64 0) (.slice (some ⟨ga, 0, none⟩) n1 n1) (.slice (some ⟨gb, 0, none⟩) n2 n2)
    refine hK _ _ (below_by HX.2 HSd3.out (show w.heap.size + 2 ≤ gx from Nat.le_trans HSw.out HqX.out)) ?_
    refine chain_done (tq_done ?_)
    have hax : ga ≠ gx := HneAX.out
    have hbx : gb ≠ gx := HneBX.out
    have hab : ga ≠ gb := HneAB.out
    exact ⟨rfl, ⟨gx, ga, gb, hid ⟨HqX.out, HqA.out, HqB.out⟩, hid ⟨HX.1, HRA3.out.grownBy HX.2 (fun e => hax (Option.some.inj e)), HRB3.out.grownBy HX.2 (fun e => hbx (Option.some.inj e)), hax, hbx, hab⟩, hid (below_line HD3.out HX.2 HD3.out.size HqX.out), rfl⟩⟩
   case' AX =>
    intro K hK
    go_simp
    refine hK _ _ ((Below.refl _ _).alloc HSd1.out _) ?_
    clear hK K
    have hga := Grow.of_alloc v1 (.cells #[.int .u64 0, .int .u64 0, .int .u64 0, .slice none 0 0, .slice none 0 0] 38)
    have HRA2 := hid (HRA1.out.grow hga)
    have HneAX := hid (show ga ≠ v1.heap.size from by have := Row.lt HRA1.out; omega)
    have HRX2 := hid (Blk.new v1 38 #[.int .u64 0, .int .u64 0, .int .u64 0, .slice none 0 0, .slice none 0 0])
    have HD2 : Hid (Grow w2 (v1.alloc (.cells #[.int .u64 0, .int .u64 0, .int .u64 0, .slice none 0 0, .slice none 0 0] 38))) := HD1.out.trans hga
    have HSd2 := hid (Nat.le_trans HSd1.out hga.size)
    have HqX := hid (show w2.heap.size ≤ v1.heap.size from HD1.out.size)
    clear hga HRA1 HD1
    generalize v1.alloc _ = v2 at HRA2 HRX2 HD2 HSd2 ⊢
    generalize v1.heap.size = gx at HneAX HRX2 HqX ⊢
    clear HSd1
    refine tq_chain ?_
    refine chain_only rfl (by rfl) (fun K hK => ?_)
    go_simp
    refine hK _ _ ((Below.refl _ _).alloc HSd2.out _) ?_
    clear hK K
    have hga := Grow.of_alloc v2 (.cells (madeCells #[.int .u64 0] n2) 28)
    have HRA3 := hid (HRA2.out.grow hga)
    have HRX3 := hid (HRX2.out.grow hga)
    have HneAB := hid (show ga ≠ v2.heap.size from by have := Row.lt HRA2.out; omega)
    have HneXB := hid (show gx ≠ v2.heap.size from by have := Blk.lt HRX2.out; omega)
    have HRB3 := hid (rows_zero v2 n2)
    have HD3 : Hid (Grow w2 (v2.alloc (.cells (madeCells #[.int .u64 0] n2) 28))) := HD2.out.trans hga
    have HSd3 := hid (Nat.le_trans HSd2.out hga.size)
    have HqB := hid (show w2.heap.size ≤ v2.heap.size from HD2.out.size)
    clear hga HRA2 HRX2 HD2
    generalize v2.alloc _ = v3 at HRA3 HRX3 HRB3 HD3 HSd3 ⊢
    generalize v2.heap.size = gb at HneAB HneXB HRB3 HqB ⊢
    clear HSd2
    repeat ((first | (refine chain_take rfl (by rfl) ?_ (fun W hG => ?_) ?_; rotate_left; (go_simp; rfl)) | refine chain_skip rfl (by rfl) ?_); simp only [Act.put, List.setIfInBounds_toArray, List.set_cons_zero, List.set_cons_succ])
    have r0 := HRX3.out.at 0
    have r1 := HRX3.out.at 1
    have r2 := HRX3.out.at 2
    have r3 := HRX3.out.at 3
    have r4 := HRX3.out.at 4
    have s0 := Blk.soft HRX3.out 0
    have s1 := Blk.soft HRX3.out 1
    have s2 := Blk.soft HRX3.out 2
    have s3 := Blk.soft HRX3.out 3
    have s4 := Blk.soft HRX3.out 4
    refine chain_only rfl (by rfl) (fun K hK => ?_)
    go_simp
    have HX := put5 HRX3.out (.int .u64 0) (.int .u64 0) (.int .u64 0) (.slice (some ⟨ga, 0, none⟩) n1 n1) (.slice (some ⟨gb, 0, none⟩) n2 n2)
    refine hK _ _ (below_by HX.2 HSd3.out (show w.heap.size + 2 ≤ gx from Nat.le_trans HSw.out HqX.out)) ?_
    refine chain_done (tq_done ?_)
    have hax : ga ≠ gx := HneAX.out
    have hbx : gb ≠ gx := (fun e => HneXB.out e.symm)
    have hab : ga ≠ gb := HneAB.out
    exact ⟨rfl, ⟨gx, ga, gb, hid ⟨HqX.out, HqA.out, HqB.out⟩, hid ⟨HX.1, HRA3.out.grownBy HX.2 (fun e => hax (Option.some.inj e)), HRB3.out.grownBy HX.2 (fun e => hbx (Option.some.inj e)), hax, hbx, hab⟩, hid (below_line HD3.out HX.2 HD3.out.size HqX.out), rfl⟩⟩
  case' B1 =>
   intro K hK
   go_simp
   refine hK _ _ ((Below.refl _ _).alloc HSd0.out _) ?_
   clear hK K
   have hga := Grow.of_alloc v0 (.cells (madeCells #[.int .u64 0] n2) 28)
   have HRB1 := hid (rows_zero v0 n2)
   have HD1 : Hid (Grow w2 (v0.alloc (.cells (madeCells #[.int .u64 0] n2) 28))) := HD0.out.trans hga
   have HSd1 := hid (Nat.le_trans HSd0.out hga.size)
   have HqB := hid (show w2.heap.size ≤ v0.heap.size from HD0.out.size)
   clear hga  HD0
   generalize v0.alloc _ = v1 at HRB1 HD1 HSd1 ⊢
   generalize v0.heap.size = gb at HRB1 HqB ⊢
   clear HSd0
   refine tq_both (step_op rfl (by rfl) ?BA) (step_op rfl (by rfl) ?BX)
   case' BA =>
    intro K hK
    go_simp
    refine hK _ _ ((Below.refl _ _).alloc HSd1.out _) ?_
    clear hK K
    have hga := Grow.of_alloc v1 (.cells (madeCells #[.int .u64 0] n1) 28)
    have HRB2 := hid (HRB1.out.grow hga)
    have HneBA := hid (show gb ≠ v1.heap.size from by have := Row.lt HRB1.out; omega)
    have HRA2 := hid (rows_zero v1 n1)
    have HD2 : Hid (Grow w2 (v1.alloc (.cells (madeCells #[.int .u64 0] n1) 28))) := HD1.out.trans hga
    have HSd2 := hid (Nat.le_trans HSd1.out hga.size)
    have HqA := hid (show w2.heap.size ≤ v1.heap.size from HD1.out.size)
    clear hga HRB1 HD1
    generalize v1.alloc _ = v2 at HRB2 HRA2 HD2 HSd2 ⊢
    generalize v1.heap.size = ga at HneBA HRA2 HqA ⊢
    clear HSd1
    refine tq_chain ?_
    repeat ((first | (refine chain_take rfl (by rfl) ?_ (fun W hG => ?_) ?_; rotate_left; (go_simp; rfl)) | refine chain_skip rfl (by rfl) ?_); simp only [Act.put, List.setIfInBounds_toArray, List.set_cons_zero, List.set_cons_succ])
    refine chain_only rfl (by rfl) (fun K hK => ?_)
    go_simp
    refine hK _ _ ((Below.refl _ _).alloc HSd2.out _) ?_
    clear hK K
    have hga := Grow.of_alloc v2 (.cells #[.int .u64 0, .int .u64 0, .int .u64 0, .slice none 0 0, .slice none 0 0] 38)
    have HRB3 := hid (HRB2.out.grow hga)
    have HRA3 := hid (HRA2.out.grow hga)
    have HneBX := hid (show gb ≠ v2.heap.size from by have := Row.lt HRB2.out; omega)
    have HneAX := hid (show ga ≠ v2.heap.size from by have := Row.lt HRA2.out; omega)
    have HRX3 := hid (Blk.new v2 38 #[.int .u64 0, .int .u64 0, .int .u64 0, .slice none 0 0, .slice none 0 0])
    have HD3 : Hid (Grow w2 (v2.alloc (.cells #[.int .u64 0, .int .u64 0, .int .u64 0, .slice none 0 0, .slice none 0 0] 38))) := HD2.out.trans hga
    have HSd3 := hid (Nat.le_trans HSd2.out hga.size)
    have HqX := hid (show w2.heap.size ≤ v2.heap.size from HD2.out.size)
    clear hga HRB2 HRA2 HD2
    generalize v2.alloc _ = v3 at HRB3 HRA3 HRX3 HD3 HSd3 ⊢
    generalize v2.heap.size = gx at HneBX HneAX HRX3 HqX ⊢
    clear HSd2
    have r0 := HRX3.out.at 0
    have r1 := HRX3.out.at 1
    have r2 := HRX3.out.at 2
    have r3 := HRX3.out.at 3
    have r4 := HRX3.out.at 4
    have s0 := Blk.soft HRX3.out 0
    have s1 := Blk.soft HRX3.out 1
    have s2 := Blk.soft HRX3.out 2
    have s3 := Blk.soft HRX3.out 3
    have s4 := Blk.soft HRX3.out 4
    refine chain_only rfl (by rfl) (fun K hK => ?_)
    go_simp
    have HX := put5 HRX3.out (.int .u64 0) (.int .u64 0) (.int .u64 0) (.slice (some ⟨ga, 0, none⟩) n1 n1) (.slice (some ⟨gb, 0, none⟩) n2 n2)
    refine hK _ _ (below_by HX.2 HSd3.out (show w.heap.size + 2 ≤ gx from Nat.le_trans HSw.out HqX.out)) ?_
    refine chain_done (tq_done ?_)
    have hax : ga ≠ gx := HneAX.out
    have hbx : gb ≠ gx := HneBX.out
    have hab : ga ≠ gb := (fun e => HneBA.out e.symm)
    exact ⟨rfl, ⟨gx, ga, gb, hid ⟨HqX.out, HqA.out, HqB.out⟩, hid ⟨HX.1, HRA3.out.grownBy HX.2 (fun e => hax (Option.some.inj e)), HRB3.out.grownBy HX.2 (fun e => hbx (Option.some.inj e)), hax, hbx, hab⟩, hid (below_line HD3.out HX.2 HD3.out.size HqX.out), rfl⟩⟩
   case' BX =>
    intro K hK
    go_simp
    refine hK _ _ ((Below.refl _ _).alloc HSd1.out _) ?_
    clear hK K
    have hga := Grow.of_alloc v1 (.cells #[.int .u64 0, .int .u64 0, .int .u64 0, .slice none 0 0, .slice none 0 0] 38)
    have HRB2 := hid (HRB1.out.grow hga)
    have HneBX := hid (show gb ≠ v1.heap.size from by have := Row.lt HRB1.out; omega)
    have HRX2 := hid (Blk.new v1 38 #[.int .u64 0, .int .u64 0, .int .u64 0, .slice none 0 0, .slice none 0 0])
    have HD2 : Hid (Grow w2 (v1.alloc (.cells #[.int .u64 0, .int .u64 0, .int .u64 0, .slice none 0 0, .slice none 0 0] 38))) := HD1.out.trans hga
    have HSd2 := hid (Nat.le_trans HSd1.out hga.size)
    have HqX := hid (show w2.heap.size ≤ v1.heap.size from HD1.out.size)
    clear hga HRB1 HD1
    generalize v1.alloc _ = v2 at HRB2 HRX2 HD2 HSd2 ⊢
    generalize v1.heap.size = gx at HneBX HRX2 HqX ⊢
    clear HSd1
    refine tq_chain ?_
    refine chain_only rfl (by rfl) (fun K hK => ?_)
    go_simp
    refine hK _ _ ((Below.refl _ _).alloc HSd2.out _) ?_
    clear hK K
    have hga := Grow.of_alloc v2 (.cells (madeCells #[.int .u64 0] n1) 28)
    have HRB3 := hid (HRB2.out.grow hga)
    have HRX3 := hid (HRX2.out.grow hga)
    have HneBA := hid (show gb ≠ v2.heap.size from by have := Row.lt HRB2.out; omega)
    have HneXA := hid (show gx ≠ v2.heap.size from by have := Blk.lt HRX2.out; omega)
    have HRA3 := hid (rows_zero v2 n1)
    have HD3 : Hid (Grow w2 (v2.alloc (.cells (madeCells #[.int .u64 0] n1) 28))) := HD2.out.trans hga
    have HSd3 := hid (Nat.le_trans HSd2.out hga.size)
    have HqA := hid (show w2.heap.size ≤ v2.heap.size from HD2.out.size)
    clear hga HRB2 HRX2 HD2
    generalize v2.alloc _ = v3 at HRB3 HRX3 HRA3 HD3 HSd3 ⊢
    generalize v2.heap.size = ga at HneBA HneXA HRA3 HqA ⊢
    clear HSd2
    repeat ((first | (refine chain_take rfl (by rfl) ?_ (fun W hG => ?_) ?_; rotate_left; (go_simp; rfl)) | refine chain_skip rfl (by rfl) ?_); simp only [Act.put, List.setIfInBounds_toArray, List.set_cons_zero, List.set_cons_succ])
    have r0 := HRX3.out.at 0
    have r1 := HRX3.out.at 1
    have r2 := HRX3.out.at 2
    have r3 := HRX3.out.at 3
    have r4 := HRX3.out.at 4
    have s0 := Blk.soft HRX3.out 0
    have s1 := Blk.soft HRX3.out 1
    have s2 := Blk.soft HRX3.out 2
    have s3 := Blk.soft HRX3.out 3
    have s4 := Blk.soft HRX3.out 4
    refine chain_only rfl (by rfl) (fun K hK => ?_)
    go_simp
    have HX := put5 HRX3.out (.int .u64 0) (.int .u64 0) (.int .u64 0) (.slice (some ⟨ga, 0, none⟩) n1 n1) (.slice (some ⟨gb, 0, none⟩) n2 n2)
    refine hK _ _ (below_by HX.2 HSd3.out (show w.heap.size + 2 ≤ gx from Nat.le_trans HSw.out HqX.out)) ?_
    refine chain_done (tq_done ?_)
    have hax : ga ≠ gx := (fun e => HneXA.out e.symm)
    have hbx : gb ≠ gx := HneBX.out
    have hab : ga ≠ gb := (fun e => HneBA.out e.symm)
    exact ⟨rfl, ⟨gx, ga, gb, hid ⟨HqX.out, HqA.out, HqB.out⟩, hid ⟨HX.1, HRA3.out.grownBy HX.2 (fun e => hax (Option.some.inj e)), HRB3.out.grownBy HX.2 (fun e => hbx (Option.some.inj e)), hax, hbx, hab⟩, hid (below_line HD3.out HX.2 HD3.out.size HqX.out), rfl⟩⟩
  case' X1 =>
   intro K hK
   go_simp
   refine hK _ _ ((Below.refl _ _).alloc HSd0.out _) ?_
   clear hK K
   have hga := Grow.of_alloc v0 (.cells #[.int .u64 0, .int .u64 0, .int .u64 0, .slice none 0 0, .slice none 0 0] 38)
   have HRX1 := hid (Blk.new v0 38 #[.int .u64 0, .int .u64 0, .int .u64 0, .slice none 0 0, .slice none 0 0])
   have HD1 : Hid (Grow w2 (v0.alloc (.cells #[.int .u64 0, .int .u64 0, .int .u64 0, .slice none 0 0, .slice none 0 0] 38))) := HD0.out.trans hga
   have HSd1 := hid (Nat.le_trans HSd0.out hga.size)
   have HqX := hid (show w2.heap.size ≤ v0.heap.size from HD0.out.size)
   clear hga  HD0
   generalize v0.alloc _ = v1 at HRX1 HD1 HSd1 ⊢
   generalize v0.heap.size = gx at HRX1 HqX ⊢
   clear HSd0
   refine tq_both (step_op rfl (by rfl) ?XA) (step_op rfl (by rfl) ?XB)
   case' XA =>
    intro K hK
    go_simp
    refine hK _ _ ((Below.refl _ _).alloc HSd1.out _) ?_
    clear hK K
    have hga := Grow.of_alloc v1 (.cells (madeCells #[.int .u64 0] n1) 28)
    have HRX2 := hid (HRX1.out.grow hga)
    have HneXA := hid (show gx ≠ v1.heap.size from by have := Blk.lt HRX1.out; omega)
    have HRA2 := hid (rows_zero v1 n1)
    have HD2 : Hid (Grow w2 (v1.alloc (.cells (madeCells #[.int .u64 0] n1) 28))) := HD1.out.trans hga
    have HSd2 := hid (Nat.le_trans HSd1.out hga.size)
    have HqA := hid (show w2.heap.size ≤ v1.heap.size from HD1.out.size)
    clear hga HRX1 HD1
    generalize v1.alloc _ = v2 at HRX2 HRA2 HD2 HSd2 ⊢
    generalize v1.heap.size = ga at HneXA HRA2 HqA ⊢
    clear HSd1
    refine tq_chain ?_
    refine chain_only rfl (by rfl) (fun K hK => ?_)
    go_simp
    refine hK _ _ ((Below.refl _ _).alloc HSd2.out _) ?_
    clear hK K
    have hga := Grow.of_alloc v2 (.cells (madeCells #[.int .u64 0] n2) 28)
    have HRX3 := hid (HRX2.out.grow hga)
    have HRA3 := hid (HRA2.out.grow hga)
    have HneXB := hid (show gx ≠ v2.heap.size from by have := Blk.lt HRX2.out; omega)
    have HneAB := hid (show ga ≠ v2.heap.size from by have := Row.lt HRA2.out; omega)
    have HRB3 := hid (rows_zero v2 n2)
    have HD3 : Hid (Grow w2 (v2.alloc (.cells (madeCells #[.int .u64 0] n2) 28))) := HD2.out.trans hga
    have HSd3 := hid (Nat.le_trans HSd2.out hga.size)
    have HqB := hid (show w2.heap.size ≤ v2.heap.size from HD2.out.size)
    clear hga HRX2 HRA2 HD2
    generalize v2.alloc _ = v3 at HRX3 HRA3 HRB3 HD3 HSd3 ⊢
    generalize v2.heap.size = gb at HneXB HneAB HRB3 HqB ⊢
    clear HSd2
    repeat ((first | (refine chain_take rfl (by rfl) ?_ (fun W hG => ?_) ?_; rotate_left; (go_simp; rfl)) | refine chain_skip rfl (by rfl) ?_); simp only [Act.put, List.setIfInBounds_toArray, List.set_cons_zero, List.set_cons_succ])
    have r0 := HRX3.out.at 0
    have r1 := HRX3.out.at 1
    have r2 := HRX3.out.at 2
    have r3 := HRX3.out.at 3
    have r4 := HRX3.out.at 4
    have s0 := Blk.soft HRX3.out 0
    have s1 := Blk.soft HRX3.out 1
    have s2 := Blk.soft HRX3.out 2
    have s3 := Blk.soft HRX3.out 3
    have s4 := Blk.soft HRX3.out 4
    refine chain_only rfl (by rfl) (fun K hK => ?_)
    go_simp
    have HX := put5 HRX3.out (.int .u64 0) (.int .u64 0) (.int .u64 0) (.slice (some ⟨ga, 0, none⟩) n1 n1) (.slice (some ⟨gb, 0, none⟩) n2 n2)
    refine hK _ _ (below_by HX.2 HSd3.out (show w.heap.size + 2 ≤ gx from Nat.le_trans HSw.out HqX.out)) ?_
    refine chain_done (tq_done ?_)
    have hax : ga ≠ gx := (fun e => HneXA.out e.symm)
    have hbx : gb ≠ gx := (fun e => HneXB.out e.symm)
    have hab : ga ≠ gb := HneAB.out
    exact ⟨rfl, ⟨gx, ga, gb, hid ⟨HqX.out, HqA.out, HqB.out⟩, hid ⟨HX.1, HRA3.out.grownBy HX.2 (fun e => hax (Option.some.inj e)), HRB3.out.grownBy HX.2 (fun e => hbx (Option.some.inj e)), hax, hbx, hab⟩, hid (below_line HD3.out HX.2 HD3.out.size HqX.out), rfl⟩⟩
   case' XB =>
    intro K hK
    go_simp
    refine hK _ _ ((Below.refl _ _).alloc HSd1.out _) ?_
    clear hK K
    have hga := Grow.of_alloc v1 (.cells (madeCells #[.int .u64 0] n2) 28)
    have HRX2 := hid (HRX1.out.grow hga)
    have HneXB := hid (show gx ≠ v1.heap.size from by have := Blk.lt HRX1.out; omega)
    have HRB2 := hid (rows_zero v1 n2)
    have HD2 : Hid (Grow w2 (v1.alloc (.cells (madeCells #[.int .u64 0] n2) 28))) := HD1.out.trans hga
    have HSd2 := hid (Nat.le_trans HSd1.out hga.size)
    have HqB := hid (show w2.heap.size ≤ v1.heap.size from HD1.out.size)
    clear hga HRX1 HD1
    generalize v1.alloc _ = v2 at HRX2 HRB2 HD2 HSd2 ⊢
    generalize v1.heap.size = gb at HneXB HRB2 HqB ⊢
    clear HSd1
    refine tq_chain ?_
    refine chain_only rfl (by rfl) (fun K hK => ?_)
    go_simp
    refine hK _ _ ((Below.refl _ _).alloc HSd2.out _) ?_
    clear hK K
    have hga := Grow.of_alloc v2 (.cells (madeCells #[.int .u64 0] n1) 28)
    have HRX3 := hid (HRX2.out.grow hga)
    have HRB3 := hid (HRB2.out.grow hga)
    have HneXA := hid (show gx ≠ v2.heap.size from by have := Blk.lt HRX2.out; omega)
    have HneBA := hid (show gb ≠ v2.heap.size from by have := Row.lt HRB2.out; omega)
    have HRA3 := hid (rows_zero v2 n1)
    have HD3 : Hid (Grow w2 (v2.alloc (.cells (madeCells #[.int .u64 0] n1) 28))) := HD2.out.trans hga
    have HSd3 := hid (Nat.le_trans HSd2.out hga.size)
    have HqA := hid (show w2.heap.size ≤ v2.heap.size from HD2.out.size)
    clear hga HRX2 HRB2 HD2
    generalize v2.alloc _ = v3 at HRX3 HRB3 HRA3 HD3 HSd3 ⊢
    generalize v2.heap.size = ga at HneXA HneBA HRA3 HqA ⊢
    clear HSd2
    repeat ((first | (refine chain_take rfl (by rfl) ?_ (fun W hG => ?_) ?_; rotate_left; (go_simp; rfl)) | refine chain_skip rfl (by rfl) ?_); simp only [Act.put, List.setIfInBounds_toArray, List.set_cons_zero, List.set_cons_succ])
    have r0 := HRX3.out.at 0
    have r1 := HRX3.out.at 1
    have r2 := HRX3.out.at 2
    have r3 := HRX3.out.at 3
    have r4 := HRX3.out.at 4
    have s0 := Blk.soft HRX3.out 0
    have s1 := Blk.soft HRX3.out 1
    have s2 := Blk.soft HRX3.out 2
    have s3 := Blk.soft HRX3.out 3
    have s4 := Blk.soft HRX3.out 4
    refine chain_only rfl (by rfl) (fun K hK => ?_)
    go_simp
    have HX := put5 HRX3.out (.int .u64 0) (.int .u64 0) (.int .u64 0) (.slice (some ⟨ga, 0, none⟩) n1 n1) (.slice (some ⟨gb, 0, none⟩) n2 n2)
    refine hK _ _ (below_by HX.2 HSd3.out (show w.heap.size + 2 ≤ gx from Nat.le_trans HSw.out HqX.out)) ?_
    refine chain_done (tq_done ?_)
    have hax : ga ≠ gx := (fun e => HneXA.out e.symm)
    have hbx : gb ≠ gx := (fun e => HneXB.out e.symm)
    have hab : ga ≠ gb := (fun e => HneBA.out e.symm)
    exact ⟨rfl, ⟨gx, ga, gb, hid ⟨HqX.out, HqA.out, HqB.out⟩, hid ⟨HX.1, HRA3.out.grownBy HX.2 (fun e => hax (Option.some.inj e)), HRB3.out.grownBy HX.2 (fun e => hbx (Option.some.inj e)), hax, hbx, hab⟩, hid (below_line HD3.out HX.2 HD3.out.size HqX.out), rfl⟩⟩
 ·rintro a' w' ⟨gx, ga, gb, Hq, HPb, HGd, rfl⟩
  have HSw := hid (show w.heap.size + 2 ≤ w2.heap.size from by have := HT2.out.lt; omega)
  have HO := hid (show w.heap.size < gx ∧ w.heap.size < ga ∧ w.heap.size < gb ∧ w.heap.size + 1 < gx ∧ w.heap.size + 1 < ga ∧ w.heap.size + 1 < gb from by have := HSw.out; have := Hq.out; omega)
  have HM3 := hid (HM2.out.grow HGd.out)
  have HT3 := hid (HT2.out.grow HGd.out)
  have HG3 : Hid (Grow w w') := HG2.out.trans HGd.out
  clear HM2 HT2 HG2 HGd Hq HSw
  simp only [Act.put, List.setIfInBounds_toArray, List.set_cons_zero, List.set_cons_succ]
  generalize w' = w3 at HPb HM3 HT3 HG3 ⊢
  have y8 := HM3.out.at 8
  have y9 := HM3.out.at 9
  obtain ⟨e1, he1⟩ : ∃ e1, m.e1 = e1 := ⟨_, rfl⟩
  obtain ⟨k1, hk1⟩ : ∃ k1, z1 * n1 = k1 := ⟨_, rfl⟩
  have hk1b : k1 ≤ 64 * 16 := by rw [← hk1]; exact Nat.mul_le_mul hz1 o1
  have he1e : e1 = z0 + k1 := by rw [← he1, E1.out, hk1]
  have HE1 := hid he1
  have m1 : IntKind.i64.wrap ((z1 : Int) * (n1 : Int)) = (k1 : Int) := by
   have : (z1 : Int) * (n1 : Int) = (k1 : Int) := by rw [← hk1]; simp
   rw [this, IntKind.wrap_i64]
   omega
  have m2 : IntKind.u64.wrap (k1 : Int) = (k1 : Int) := by rw [IntKind.wrap_u64]; omega
  have m3 : IntKind.u64.wrap ((z0 : Int) + (k1 : Int)) = (e1 : Int) := by rw [IntKind.wrap_u64]; omega
  have HE1b := hid (show e1 ≤ 65536 by omega)
  clear he1 hk1 hk1b he1e
  apply_assumption
  apply wp_seq_k
  intro K6 hK6
  have HK6 := hid hK6
  clear hK6
  go_wp2
  apply HK6.out
  clear HK6 K6
  apply wp_seq_k
  intro K7 hK7
  obtain ⟨w4, hw4⟩ : ∃ x, x = (if 0 < n1 then w3.setCell ⟨gx, 0, none⟩ (.int .u64 (z0 : Nat)) else w3) := ⟨_, rfl⟩
  have HW4 := hid hw4
  refine wp_cut (fun a a' w' => w4 = w' ∧ a' = ⟨(a.tmps.toList.take 40 ++ (a'.tmps.toList.drop 40).take 6 ++ a.tmps.toList.drop 46).toArray, a.defers⟩ ∧ ((a'.tmps.toList.drop 40).take 6).length = 6) ?_ ?_
  ·clear hw4 m1 m2 m3
   have hc := HPb.out.x.at 0
   have hf := HPb.out.x.soft 0
   by_cases hpos : 0 < n1
   ·have E := hid (HW4.out.trans (if_pos hpos))
    have d1 : decide (0 < n1) = true := decide_eq_true hpos
    have d1' : decide ((0 : Int) < (n1 : Int)) = true := decide_eq_true (by omega)
    clear hpos HW4
    go_wp2
    first | exact E.out | exact ⟨E.out, rfl, rfl⟩
   ·have E := hid (HW4.out.trans (if_neg hpos))
    have d1 : decide (0 < n1) = false := decide_eq_false hpos
    have d1' : decide ((0 : Int) < (n1 : Int)) = false := decide_eq_false (by omega)
    clear hpos HW4
    go_wp2
    first | exact E.out | exact ⟨E.out, rfl, rfl⟩
  rintro a' w' ⟨rfl, ha, hl⟩
  generalize (a'.tmps.toList.drop 40).take 6 = vs at ha hl
  obtain ⟨i40, i41, i42, i43, i44, i45, rfl⟩ := six_of hl
  subst ha
  clear hl
  apply hK7
  clear hK7
  simp only [List.take_succ_cons, List.take_zero, List.drop_succ_cons, List.drop_zero, List.cons_append, List.nil_append]
  have HP4 : Hid (Pb w4 gx ga gb n1 n2 #[.int .u64 (ph : Nat), .int .u64 0, .int .u64 0, .slice (some ⟨ga, 0, none⟩) n1 n1, .slice (some ⟨gb, 0, none⟩) n2 n2] (fun _ => 0) (fun _ => 0)) := hid (by
   rw [HW4.out]
   by_cases hpos : 0 < n1
   ·have h := HPb.out.setX 0 (.int .u64 (z0 : Nat)) (by simp)
    simp only [List.set_toArray, List.set_cons_zero] at h
    rw [if_pos hpos, EPh.out, if_pos hpos]
    exact h
   ·rw [if_neg hpos, EPh.out, if_neg hpos]
    exact HPb.out)
  have HM4 := hid (HM3.out.cellIf (c := 0 < n1) (a := ⟨gx, 0, none⟩) (fun e => by have e : w.heap.size = gx := e; have := HO.out; omega) (.int .u64 (z0 : Nat)))
  have HT4 := hid (HT3.out.cellIf (c := 0 < n1) (a := ⟨gx, 0, none⟩) (fun e => by have e : w.heap.size + 1 = gx := e; have := HO.out; omega) (.int .u64 (z0 : Nat)))
  have HG4 := hid (below_cellIf (c := 0 < n1) HG3.out (show w.heap.size ≤ gx by have := HO.out; omega) 0 (.int .u64 (z0 : Nat)))
  rw [← HW4.out] at HM4 HT4 HG4
  clear HPb HM3 HT3 HG3 HW4 hw4 EPh E1 y8 y9
  have y8 := HM4.out.at 8
  go_wp2_with fail
  clear y8 m1 m2 m3
  go_loopw [9, 10] (fun x i wr => ∃ (k r : Nat) (F : Nat → Nat), k ≤ n1 ∧ i = .int .i64 k ∧ x = .int .u64 (r : Int) ∧ Hid (StL m n1 k r F) ∧ Pb wr gx ga gb n1 n2 #[.int .u64 (ph : Nat), .int .u64 0, .int .u64 0, .slice (some ⟨ga, 0, none⟩) n1 n1, .slice (some ⟨gb, 0, none⟩) n2 n2] F (fun _ => 0) ∧ w4.grownBy wr (some ga)) (fun _ i _ => n1 - (intOf i).toNat)
  case atStart =>
   refine ⟨0, e1, fun _ => 0, by omega, rfl, rfl, hid ⟨by rw [Md.eL, HE1.out]; exact Lk.start HE1b.out, fun _ j hj => ?_, by have := HE1b.out; omega⟩, HP4.out, grown_refl _ _⟩
   unfold upTo
   rw [if_neg (by omega)]
  case round =>
   obtain ⟨k, r, F, hk, rfl, rfl, hst, hpb, hgr⟩ := hrel
   have HSt := hid hst
   have HPk := hid hpb
   have HGk := hid hgr
   have HMk := hid (HM4.out.grownBy hgr (fun e => by have := Option.some.inj e; have := HO.out; omega))
   have HTk := hid (HT4.out.grownBy hgr (fun e => by have := Option.some.inj e; have := HO.out; omega))
   have HGw := hid (below_line HG4.out hgr HG4.out.size (by have := HO.out; omega))
   clear hpb hgr hst
   have y8 := HMk.out.at 8
   by_cases hlt : k < n1
   ·have hkl : k < m.segs.length := by rw [← HL1.out]; exact hlt
    obtain ⟨b, off, rfl, hb⟩ := HZ1.out.pos (by omega)
    obtain ⟨Ak, nk, ck, -, hcell, -⟩ := HZ1.out.at hkl
    have hse : m.segs[k] = m.sg k := (getD_at _ _ k hkl).symm
    rw [hse] at hcell
    have hcell' : ∀ i v, (sgC (m.sg k) (.slice Ak nk ck))[i]? = some v → wr.cell? ⟨b, off + k * 10 + i, none⟩ = some v := fun i v hv => (HGw.out.cell hb).trans (hcell i v hv)
    have HSgk := hid (HSg.out k hlt)
    have HNx := hid (fun w => rNext_any r (m.sg k).vaddr (m.sg k).align w HSt.out.2.2 HSgk.out.align HSgk.out.ones)
    have HVk := hid (HVa k hlt)
    have HLdd := hid (fun ht x hx => HSt.out.load (x := x) ht hx HSgk.out.size)
    have HSkp := hid (fun ht => HSt.out.skip ht)
    have hzz := HSgk.out.size
    have HBb := hid (show b < w.heap.size from hb)
    unfold sgC at hcell'
    clear hse hcell hkl HSgk hb
    generalize m.sg k = s at hcell' HNx HVk HLdd HSkp hzz
    have t0 : wr.cell? ⟨b, off + k * 10, none⟩ = some (.int .u32 (s.typ : Nat)) := hcell' 0 _ rfl
    have t2 : wr.cell? ⟨b, off + k * 10 + 2, none⟩ = some (.int .u64 (s.vaddr : Nat)) := hcell' 2 _ rfl
    have t5 : wr.cell? ⟨b, off + k * 10 + 5, none⟩ = some (.int .u64 (s.align : Nat)) := hcell' 5 _ rfl
    have t8 : wr.cell? ⟨b, off + k * 10 + 8, none⟩ = some (.int .u64 (s.pl.size : Nat)) := hcell' 8 _ rfl
    have T2 := hid t2
    have T5 := hid t5
    have T8 := hid t8
    clear hcell' t2 t5 t8
    by_cases ht : s.typ = 1
    ·have d : ((s.typ : Int) == 1) = true := by simp [ht]
     have HLdd := hid (HLdd.out ht)
     clear ht HSkp
     go_wp2_with fail
     clear t0 y8 d
     refine wp_region_leap (leap_kept (fun j => j ≠ ga)) [(0, true), (1, true), (2, true), (3, true), (4, true), (5, true), (6, true), (7, true), (8, true), (9, true), (10, true), (11, true), (12, true), (13, true), (14, true), (15, true), (16, false), (17, true), (18, false)] (by kernel_rfl) (by kernel_rfl) (by kernel_rfl) ?_
     have HPv := hid HPk.out.drew
     have HMv := hid HMk.out.drew
     have HGv := hid (grown_trans HGk.out (grown_drew wr (some ga)))
     have HBv := hid (show Below w.heap.size w wr.drew from HGw.out.drew)
     have hwl := hid (show b < wr.drew.heap.size from by have h1 := HBb.out; have h2 := HBv.out.size; omega)
     have hbn := hid (show b ≠ ga from by have := HBb.out; have := HO.out; omega)
     have T2v : Hid (wr.drew.cell? _ = _) := T2
     have T5v : Hid (wr.drew.cell? _ = _) := T5
     have T8v : Hid (wr.drew.cell? _ = _) := T8
     clear HPk HMk HGk HGw T2 T5 T8 HTk
     generalize wr.drew = v0 at HPv HMv HGv HBv hwl T2v T5v T8v ⊢
     have q8 : ∀ W, Kept (fun j => j ≠ ga) v0 W → W.cell? ⟨w.heap.size, 8, none⟩ = some (.slice (some ⟨b, off, none⟩) n1 c1) := fun W hW => (Blk.kept HMv.out hW (show w.heap.size ≠ ga from by have := HO.out; omega)).at 8
     have qx : ∀ W, Kept (fun j => j ≠ ga) v0 W → W.cell? ⟨gx, 3, none⟩ = some (.slice (some ⟨ga, 0, none⟩) n1 n1) := fun W hW => (Blk.kept HPv.out.x hW (fun e => HPv.out.ax e.symm)).at 3
     have t2 : ∀ W, Kept (fun j => j ≠ ga) v0 W → W.cell? ⟨b, off + k * 10 + 2, none⟩ = some (.int .u64 (s.vaddr : Nat)) := fun W hW => kept_cell hW hwl.out hbn.out T2v.out
     have t5 : ∀ W, Kept (fun j => j ≠ ga) v0 W → W.cell? ⟨b, off + k * 10 + 5, none⟩ = some (.int .u64 (s.align : Nat)) := fun W hW => kept_cell hW hwl.out hbn.out T5v.out
     repeat ((first | (refine chain_take rfl (by rfl) ?_ (fun W hG => ?_) ?_; rotate_left; (go_simp; rfl)) | refine chain_skip rfl (by rfl) ?_); simp only [Act.put, List.setIfInBounds_toArray, List.set_cons_zero, List.set_cons_succ])
     clear q8 qx t2 t5
     refine chain_only rfl (by rfl) (fun K hK => ?_)
     go_simp
     refine (HNx.out _).mono ?_
     rintro e w5 ⟨⟨x, rfl, hx⟩, rfl⟩
     refine hK _ _ ((leap_kept _).refl _) ?_
     clear hK K
     repeat ((first | (refine chain_take rfl (by rfl) ?_ (fun W hG => ?_) ?_; rotate_left; (go_simp; rfl)) | refine chain_skip rfl (by rfl) ?_); simp only [Act.put, List.setIfInBounds_toArray, List.set_cons_zero, List.set_cons_succ])
     have hc := World.rowIs.cell HPv.out.a hlt
     have hf := World.rowIs.frozen HPv.out.a k
     refine chain_only rfl (by rfl) (fun K hK => ?_)
     go_simp
     refine hK _ _ (kept_set _ _ _ (fun h => h rfl)) ?_
     clear hK K hc hf
     refine chain_done ?_
     have HP5 := hid (HPv.out.setA k x)
     have HG5 := hid (grown_trans HGv.out (grown_set v0 ⟨ga, k, none⟩ (.int .u64 (x : Int))))
     have HBl5 := hid (HBv.out.setCell (p := ⟨ga, k, none⟩) (show w.heap.size ≤ ga by have := HO.out; omega) (.int .u64 (x : Int)))
     have HM5 := hid (Blk.cellset HMv.out (a := ⟨ga, k, none⟩) (fun e => by have e : w.heap.size = ga := e; have := HO.out; omega) (.int .u64 (x : Int)))
     have t8 := (World.cell?_setCell_far v0 ⟨ga, k, none⟩ ⟨b, off + k * 10 + 8, none⟩ (.int .u64 (x : Int)) (fun e => hbn.out e.symm)).trans T8v.out
     have HSt2 := hid (HLdd.out x hx)
     have hx3 := hx.2.2
     generalize v0.setCell _ _ = w6 at HP5 HG5 HBl5 HM5 t8 ⊢
     clear HPv HGv HMv HBv HSt HLdd HNx hx T2v T5v T8v hwl hbn
     have qx := HP5.out.x.at 3
     have q8 := HM5.out.at 8
     have hc := World.rowIs.cell HP5.out.a hlt
     unfold ivl put1 at hc
     rw [if_pos rfl] at hc
     have zz : IntKind.u64.wrap ((x : Int) + (s.pl.size : Int)) = ((x + s.pl.size : Nat) : Int) := by rw [IntKind.wrap_u64]; omega
     generalize x + s.pl.size = r2 at zz HSt2
     go_wp2_with fail
     go_quiet (fail)
     clear qx q8 hc zz t8
     go_wp2
     go_roundw
     case rel => exact ⟨k + 1, r2, put1 F k x, by omega, by go_num, rfl, HSt2, HP5.out.drewN _, grown_trans HG5.out (grown_grow (Grow.of_drewN _ _) _)⟩
     case measure => simp [intOf]; omega
    ·have d : ((s.typ : Int) == 1) = false := by simp; omega
     have HSt2 := hid (HSkp.out ht)
     clear ht HLdd HSkp HNx
     go_wp2
     go_roundw
     case rel => exact ⟨k + 1, r, F, by omega, by go_num, rfl, HSt2, HPk.out, HGk.out⟩
     case measure => simp [intOf]; omega
   ·obtain rfl : n1 = k := by omega
    have HSo := hid (HSt.out.toO HL1.out)
    have HP5 := HPk
    have HM5 := HMk
    have HT5 := HTk
    have HG5 := HGw
    clear HP4 HM4 HT4 HG4 HPk HMk HTk HGw HGk HSt hk hlt
    go_wp2_with fail
    clear y8
    generalize wr = w5 at HP5 HM5 HT5 HG5 ⊢
    go_loopw [9, 11] (fun x i wr => ∃ (k r : Nat) (F : Nat → Nat), k ≤ n1 ∧ i = .int .i64 k ∧ x = .int .u64 (r : Int) ∧ Hid (StO m n1 k r F) ∧ Pb wr gx ga gb n1 n2 #[.int .u64 (ph : Nat), .int .u64 0, .int .u64 0, .slice (some ⟨ga, 0, none⟩) n1 n1, .slice (some ⟨gb, 0, none⟩) n2 n2] F (fun _ => 0) ∧ w5.grownBy wr (some ga)) (fun _ i _ => n1 - (intOf i).toNat)
    case atStart => exact ⟨0, r, F, by omega, rfl, rfl, HSo, HP5.out, grown_refl _ _⟩
    case round =>
     clear HSo
     obtain ⟨k, r, F, hk, rfl, rfl, hst, hpb, hgr⟩ := hrel
     have HSt := hid hst
     have HPk := hid hpb
     have HGk := hid hgr
     have HMk := hid (HM5.out.grownBy hgr (fun e => by have := Option.some.inj e; have := HO.out; omega))
     have HTk := hid (HT5.out.grownBy hgr (fun e => by have := Option.some.inj e; have := HO.out; omega))
     have HGw := hid (below_line HG5.out hgr HG5.out.size (by have := HO.out; omega))
     clear hpb hgr hst
     have y8 := HMk.out.at 8
     by_cases hlt : k < n1
     ·have hkl : k < m.segs.length := by rw [← HL1.out]; exact hlt
      obtain ⟨b, off, rfl, hb⟩ := HZ1.out.pos (by omega)
      obtain ⟨Ak, nk, ck, -, hcell, -⟩ := HZ1.out.at hkl
      have hse : m.segs[k] = m.sg k := (getD_at _ _ k hkl).symm
      rw [hse] at hcell
      have hcell' : ∀ i v, (sgC (m.sg k) (.slice Ak nk ck))[i]? = some v → wr.cell? ⟨b, off + k * 10 + i, none⟩ = some v := fun i v hv => (HGw.out.cell hb).trans (hcell i v hv)
      have HSgk := hid (HSg.out k hlt)
      have HLk := hid (HLd.out k hlt)
      have HNx := hid (fun w => rNext_any r 0 8 w HSt.out.2.2 (by omega) ones8)
      have HOw := hid (fun ht hi x hx => HSt.out.own (x := x) ht hi hx HSgk.out.size)
      have HSe2 := hid (fun ht i hi hin hty hof => HSt.out.seg (i := i) ht hi hin hty hof)
      have HKp := hid (fun ht => HSt.out.keep ht)
      have HPl := hid HSgk.out.pl
      have hzz := HSgk.out.size
      have HBb := hid (show b < w.heap.size from hb)
      have HTy := hid (fun (i : Nat) (hi : i = k) => (show (m.sg i).typ = (m.sg k).typ by rw [hi]))
      unfold sgC at hcell'
      clear hse hcell hkl HSgk hb
      generalize m.sg k = s at hcell' HLk HOw HSe2 HKp HPl hzz HTy
      have t0 : wr.cell? ⟨b, off + k * 10, none⟩ = some (.int .u32 (s.typ : Nat)) := hcell' 0 _ rfl
      have T0 := hid t0
      have t6 : wr.cell? ⟨b, off + k * 10 + 6, none⟩ = some (.int .i64 s.pl.inn) := hcell' 6 _ rfl
      have t7 : wr.cell? ⟨b, off + k * 10 + 7, none⟩ = some (.int .u64 (s.pl.off : Nat)) := hcell' 7 _ rfl
      have t8 : wr.cell? ⟨b, off + k * 10 + 8, none⟩ = some (.int .u64 (s.pl.size : Nat)) := hcell' 8 _ rfl
      have t9 : wr.cell? ⟨b, off + k * 10 + 9, none⟩ = some (.slice Ak nk ck) := hcell' 9 _ rfl
      clear hcell'
      have hal : Grow wr (wr.alloc (.cells #[.int .i64 s.pl.inn, .int .u64 (s.pl.off : Nat), .int .u64 (s.pl.size : Nat), .slice Ak nk ck] 68)) := (blk1 rfl).2
      by_cases hi : s.pl.inn = -1
      ·have di : (s.pl.inn != -1) = false := by simp [hi]
       rw [hi] at di t6
       replace hal : Grow wr (wr.alloc (.cells #[.int .i64 (-1), .int .u64 (s.pl.off : Nat), .int .u64 (s.pl.size : Nat), .slice Ak nk ck] 68)) := (blk1 rfl).2
       have Hi := hid hi
       clear hi
       by_cases ht : s.typ = 1
       ·have d : ((s.typ : Int) != 1) = false := by simp [ht]
        have HSt2 := hid (HKp.out ht)
        have t0' : (wr.alloc (.cells #[.int .i64 (-1), .int .u64 (s.pl.off : Nat), .int .u64 (s.pl.size : Nat), .slice Ak nk ck] 68)).cell? ⟨b, off + k * 10, none⟩ = some (.int .u32 (s.typ : Nat)) := (hal.cell (show b < wr.heap.size from by have h1 := HBb.out; have h2 := HGw.out.size; omega)).trans T0.out
        have y8' : (wr.alloc (.cells #[.int .i64 (-1), .int .u64 (s.pl.off : Nat), .int .u64 (s.pl.size : Nat), .slice Ak nk ck] 68)).cell? ⟨w.heap.size, 8, none⟩ = some (.slice (some ⟨b, off, none⟩) n1 c1) := (HMk.out.grow hal).at 8
        clear ht HOw HSe2 HKp HNx hal
        go_wp2
        go_roundw
        case rel =>
         generalize hW : World.alloc _ _ = v1
         have hg5 := (blk1 hW).2
         exact ⟨k + 1, r, F, by omega, by go_num, rfl, HSt2, HPk.out.grow hg5, grown_trans HGk.out (grown_grow hg5 _)⟩
        case measure => simp [intOf]; omega
       ·have d : ((s.typ : Int) != 1) = true := by simp; omega
        have HOw := hid (HOw.out ht Hi.out)
        have t0' : (wr.alloc (.cells #[.int .i64 (-1), .int .u64 (s.pl.off : Nat), .int .u64 (s.pl.size : Nat), .slice Ak nk ck] 68)).cell? ⟨b, off + k * 10, none⟩ = some (.int .u32 (s.typ : Nat)) := (hal.cell (show b < wr.heap.size from by have h1 := HBb.out; have h2 := HGw.out.size; omega)).trans T0.out
        have y8' : (wr.alloc (.cells #[.int .i64 (-1), .int .u64 (s.pl.off : Nat), .int .u64 (s.pl.size : Nat), .slice Ak nk ck] 68)).cell? ⟨w.heap.size, 8, none⟩ = some (.slice (some ⟨b, off, none⟩) n1 c1) := (HMk.out.grow hal).at 8
        clear ht HSe2 HKp HPl hal
        go_wp2_with fail
        generalize hW : World.alloc _ _ = v1
        obtain ⟨b5, hg5⟩ := blk1 hW
        clear hW t6 t7 t8 t9 di d t0 t0' y8 y8'
        have HPv0 := hid (HPk.out.grow hg5)
        have HMv0 := hid (HMk.out.grow hg5)
        have HGv0 := hid (grown_trans HGk.out (grown_grow hg5 (some ga)))
        have HBv0 := hid (show Below w.heap.size w v1 from HGw.out.trans (Below.mono hg5 HGw.out.size))
        have HBp0 := hid b5
        have Hpn := hid (show wr.heap.size ≠ gx ∧ wr.heap.size ≠ ga ∧ wr.heap.size ≠ gb from by have h1 := Blk.lt HPk.out.x; have h2 := Row.lt HPk.out.a; have h3 := Row.lt HPk.out.b; omega)
        refine wp_region_leap (leap_kept (fun j => j ≠ ga)) [(0, true), (1, true), (2, true), (3, true), (4, false), (5, true), (6, false)] (by kernel_rfl) (by kernel_rfl) (by kernel_rfl) ?_
        have HPv := hid HPv0.out.drew
        have HMv := hid HMv0.out.drew
        have HGv := hid (grown_trans HGv0.out (grown_drew v1 (some ga)))
        have HBv := hid (show Below w.heap.size w v1.drew from HBv0.out.drew)
        have HBp := hid HBp0.out.drew
        clear HPv0 HMv0 HGv0 HBv0 HBp0 HPk HMk HTk HGk HGw hg5 b5
        generalize v1.drew = v0 at HPv HMv HGv HBv HBp ⊢
        have qx : ∀ W, Kept (fun j => j ≠ ga) v0 W → W.cell? ⟨gx, 3, none⟩ = some (.slice (some ⟨ga, 0, none⟩) n1 n1) := fun W hW => (Blk.kept HPv.out.x hW (fun e => HPv.out.ax e.symm)).at 3
        repeat ((first | (refine chain_take rfl (by rfl) ?_ (fun W hG => ?_) ?_; rotate_left; (go_simp; rfl)) | refine chain_skip rfl (by rfl) ?_); simp only [Act.put, List.setIfInBounds_toArray, List.set_cons_zero, List.set_cons_succ])
        clear qx
        refine chain_only rfl (by rfl) (fun K hK => ?_)
        go_simp
        refine (HNx.out _).mono ?_
        rintro e w5 ⟨⟨x, rfl, hx⟩, rfl⟩
        refine hK _ _ ((leap_kept _).refl _) ?_
        clear hK K
        repeat ((first | (refine chain_take rfl (by rfl) ?_ (fun W hG => ?_) ?_; rotate_left; (go_simp; rfl)) | refine chain_skip rfl (by rfl) ?_); simp only [Act.put, List.setIfInBounds_toArray, List.set_cons_zero, List.set_cons_succ])
        have hc := World.rowIs.cell HPv.out.a hlt
        have hf := World.rowIs.frozen HPv.out.a k
        refine chain_only rfl (by rfl) (fun K hK => ?_)
        go_simp
        refine hK _ _ (kept_set _ _ _ (fun h => h rfl)) ?_
        clear hK K hc hf
        refine chain_done ?_
        have HP5 := hid (HPv.out.setA k x)
        have HG5 := hid (grown_trans HGv.out (grown_set v0 ⟨ga, k, none⟩ (.int .u64 (x : Int))))
        have HBl5 := hid (HBv.out.setCell (p := ⟨ga, k, none⟩) (show w.heap.size ≤ ga by have := HO.out; omega) (.int .u64 (x : Int)))
        have HBp5 := hid (Blk.cellset HBp.out (a := ⟨ga, k, none⟩) (fun e => by have e : wr.heap.size = ga := e; have := Hpn.out; omega) (.int .u64 (x : Int)))
        have HSt2 := hid (HOw.out x hx)
        have hx3 := hx.2.2
        generalize v0.setCell _ _ = w6 at HP5 HG5 HBl5 HBp5 ⊢
        clear HPv HGv HMv HBv HBp HSt HOw HNx hx Hpn
        have qx := HP5.out.x.at 3
        have q2 := HBp5.out.at 2
        have hc := World.rowIs.cell HP5.out.a hlt
        unfold ivl put1 at hc
        rw [if_pos rfl] at hc
        have zz : IntKind.u64.wrap ((x : Int) + (s.pl.size : Int)) = ((x + s.pl.size : Nat) : Int) := by rw [IntKind.wrap_u64]; omega
        generalize x + s.pl.size = r2 at zz HSt2
        go_wp2_with fail
        go_quiet (fail)
        clear qx q2 hc zz
        go_wp2
        go_roundw
        case rel => exact ⟨k + 1, r2, put1 F k x, by omega, by go_num, rfl, HSt2, HP5.out.drewN _, grown_trans HG5.out (grown_grow (Grow.of_drewN _ _) _)⟩
        case measure => simp [intOf]; omega
      ·have ht : s.typ ≠ 1 := fun h => hi (HLk.out h)
       obtain ⟨i0, hi0, hin, hty, hof⟩ : ∃ i : Nat, s.pl.inn = (i : Int) ∧ i < n1 ∧ (m.sg i).typ = 1 ∧ s.pl.off < 9223372036854775808 := (HPl.out ht).resolve_left hi
       have hik : i0 ≠ k := fun e => ht (by rw [← HTy.out i0 e]; exact hty)
       have HSt2 := hid (HSe2.out ht i0 hi0 hin hty hof)
       have HIk := hid hik
       clear ht hik hty HOw HSe2 HKp HPl HNx hal HTy HLk T0 t0
       have di : (s.pl.inn != -1) = true := by rw [hi0]; simp
       rw [hi0] at di t6
       clear hi hi0
       go_wp2_with fail
       generalize hW : World.alloc _ _ = v1
       obtain ⟨b5, hg5⟩ := blk1 hW
       clear hW t6 t7 t8 t9 di y8
       have HPv0 := hid (HPk.out.grow hg5)
       have HGv0 := hid (grown_trans HGk.out (grown_grow hg5 (some ga)))
       have HBv0 := hid (show Below w.heap.size w v1 from HGw.out.trans (Below.mono hg5 HGw.out.size))
       have HBp0 := hid b5
       have Hpn := hid (show wr.heap.size ≠ gx ∧ wr.heap.size ≠ ga ∧ wr.heap.size ≠ gb from by have h1 := Blk.lt HPk.out.x; have h2 := Row.lt HPk.out.a; have h3 := Row.lt HPk.out.b; omega)
       refine wp_region_leap (leap_but ga k) [(0, true), (1, true), (2, true), (3, true), (4, true), (5, true), (6, true), (7, true), (8, true), (9, true), (10, true), (11, true), (12, true), (13, false)] (by kernel_rfl) (by kernel_rfl) (by kernel_rfl) ?_
       have HPv := hid HPv0.out.drew
       have HGv := hid (grown_trans HGv0.out (grown_drew v1 (some ga)))
       have HBp := hid HBp0.out.drew
       clear HPv0 HGv0 HBv0 HBp0 HPk HMk HTk HGk HGw hg5 b5
       generalize v1.drew = v0 at HPv HGv HBp ⊢
       have qx : ∀ W, Butc ga k v0 W → W.cell? ⟨gx, 3, none⟩ = some (.slice (some ⟨ga, 0, none⟩) n1 n1) := fun W hW => (HPv.out.x.but hW (fun e => HPv.out.ax e.symm)).at 3
       have p0 : ∀ W, Butc ga k v0 W → W.cell? ⟨wr.heap.size, 0, none⟩ = some (.int .i64 (i0 : Int)) := fun W hW => (HBp.out.but hW (by have := Hpn.out; omega)).at 0
       have p1 : ∀ W, Butc ga k v0 W → W.cell? ⟨wr.heap.size, 1, none⟩ = some (.int .u64 (s.pl.off : Nat)) := fun W hW => (HBp.out.but hW (by have := Hpn.out; omega)).at 1
       have hci : ∀ W, Butc ga k v0 W → W.cell? ⟨ga, i0, none⟩ = some (.int .u64 (F i0 : Int)) := fun W hW => HPv.out.a.but_cell hW hin HIk.out
       have zz := wrap_mod (F i0) s.pl.off
       obtain ⟨v, hv⟩ : ∃ v, (F i0 + s.pl.off) % 18446744073709551616 = v := ⟨_, rfl⟩
       rw [hv] at zz HSt2
       clear hv
       generalize F i0 = fi at hci zz
       repeat ((first | (refine chain_take rfl (by rfl) ?_ (fun W hG => ?_) ?_; rotate_left; (go_simp; rfl)) | refine chain_skip rfl (by rfl) ?_); simp only [Act.put, List.setIfInBounds_toArray, List.set_cons_zero, List.set_cons_succ])
       clear qx p0 p1 hci zz
       have hc := World.rowIs.cell HPv.out.a hlt
       have hf := World.rowIs.frozen HPv.out.a k
       refine chain_only rfl (by rfl) (fun K hK => ?_)
       go_simp
       refine hK _ _ (HPv.out.a.but hlt _) ?_
       clear hK K hc hf
       refine chain_done ?_
       have HP5 := hid (HPv.out.setA k v)
       have HG5 := hid (grown_trans HGv.out (grown_set v0 ⟨ga, k, none⟩ (.int .u64 (v : Int))))
       generalize v0.setCell _ _ = w6 at HP5 HG5 ⊢
       clear HPv HGv HBp HSt Hpn hin
       go_wp2
       go_roundw
       case rel => exact ⟨k + 1, r, put1 F k v, by omega, by go_num, rfl, HSt2, HP5.out, HG5.out⟩
       case measure => simp [intOf]; omega
     ·obtain rfl : n1 = k := by omega
      have HSs0 := hid (HSt.out.toS HL1.out (fun j (_ : j < n2) => rfl))
      have HP6 := HPk
      have HM6 := HMk
      have HT6 := HTk
      have HG6 := HGw
      clear HP5 HM5 HT5 HG5 HPk HMk HTk HGw HGk HSt hk hlt
      have y9 := HM6.out.at 9
      go_wp2_with fail
      clear y8 y9
      generalize wr = w6 at HP6 HM6 HT6 HG6 ⊢
      go_loopw [9, 13] (fun x i wr => ∃ (k r : Nat) (G : Nat → Nat), k ≤ n2 ∧ i = .int .i64 k ∧ x = .int .u64 (r : Int) ∧ Hid (StS m n1 n2 k r F G) ∧ Pb wr gx ga gb n1 n2 #[.int .u64 (ph : Nat), .int .u64 0, .int .u64 0, .slice (some ⟨ga, 0, none⟩) n1 n1, .slice (some ⟨gb, 0, none⟩) n2 n2] F G ∧ w6.grownBy wr (some gb)) (fun _ i _ => n2 - (intOf i).toNat)
      case atStart => exact ⟨0, r, fun _ => 0, by omega, rfl, rfl, HSs0, HP6.out, grown_refl _ _⟩
      case round =>
       clear HSs0
       obtain ⟨k, r, G, hk, rfl, rfl, hst, hpb, hgr⟩ := hrel
       have HSt := hid hst
       have HPk := hid hpb
       have HGk := hid hgr
       have HMk := hid (HM6.out.grownBy hgr (fun e => by have := Option.some.inj e; have := HO.out; omega))
       have HTk := hid (HT6.out.grownBy hgr (fun e => by have := Option.some.inj e; have := HO.out; omega))
       have HGw := hid (below_line HG6.out hgr HG6.out.size (by have := HO.out; omega))
       clear hpb hgr hst
       have y9 := HMk.out.at 9
       by_cases hlt : k < n2
       ·have hkl : k < m.secs.length := by rw [← HL2.out]; exact hlt
        obtain ⟨b, off, rfl, hb⟩ := HZ2.out.pos (by omega)
        obtain ⟨Ak, nk, ck, -, hcell, -⟩ := HZ2.out.at hkl
        have hse : m.secs[k] = m.se k := (getD_at _ _ k hkl).symm
        rw [hse] at hcell
        have hcell' : ∀ i v, (seC (m.se k) (.slice Ak nk ck))[i]? = some v → wr.cell? ⟨b, off + k * 13 + i, none⟩ = some v := fun i v hv => (HGw.out.cell hb).trans (hcell i v hv)
        have HNx := hid (fun w => rNext_any r 0 8 w HSt.out.2.2 (by omega) ones8)
        have HOw := hid (fun hi x hx => HSt.out.own (x := x) hi hx (HSs.out k hlt))
        have HSe2 := hid (fun i hi hin hof => HSt.out.seg (i := i) hi hin hof)
        have HPl := hid (HSe.out k hlt)
        have hzz := HSs.out k hlt
        have HBb := hid (show b < w.heap.size from hb)
        unfold seC at hcell'
        clear hse hcell hkl hb
        generalize m.se k = s at hcell' HOw HSe2 HPl hzz
        have t9 : wr.cell? ⟨b, off + k * 13 + 9, none⟩ = some (.int .i64 s.pl.inn) := hcell' 9 _ rfl
        have t10 : wr.cell? ⟨b, off + k * 13 + 10, none⟩ = some (.int .u64 (s.pl.off : Nat)) := hcell' 10 _ rfl
        have t11 : wr.cell? ⟨b, off + k * 13 + 11, none⟩ = some (.int .u64 (s.pl.size : Nat)) := hcell' 11 _ rfl
        have t12 : wr.cell? ⟨b, off + k * 13 + 12, none⟩ = some (.slice Ak nk ck) := hcell' 12 _ rfl
        clear hcell'
        have hal : Grow wr (wr.alloc (.cells #[.int .i64 s.pl.inn, .int .u64 (s.pl.off : Nat), .int .u64 (s.pl.size : Nat), .slice Ak nk ck] 68)) := (blk1 rfl).2
        by_cases hi : s.pl.inn = -1
        ·have di : (s.pl.inn != -1) = false := by simp [hi]
         rw [hi] at di t9
         replace hal : Grow wr (wr.alloc (.cells #[.int .i64 (-1), .int .u64 (s.pl.off : Nat), .int .u64 (s.pl.size : Nat), .slice Ak nk ck] 68)) := (blk1 rfl).2
         have HOw := hid (HOw.out hi)
         clear hi HSe2 HPl hal
         go_wp2_with fail
         generalize hW : World.alloc _ _ = v1
         obtain ⟨b5, hg5⟩ := blk1 hW
         clear hW t9 t10 t11 t12 di y9
         have HPv0 := hid (HPk.out.grow hg5)
         have HMv0 := hid (HMk.out.grow hg5)
         have HGv0 := hid (grown_trans HGk.out (grown_grow hg5 (some gb)))
         have HBv0 := hid (show Below w.heap.size w v1 from HGw.out.trans (Below.mono hg5 HGw.out.size))
         have HBp0 := hid b5
         have Hpn := hid (show wr.heap.size ≠ gx ∧ wr.heap.size ≠ ga ∧ wr.heap.size ≠ gb from by have h1 := Blk.lt HPk.out.x; have h2 := Row.lt HPk.out.a; have h3 := Row.lt HPk.out.b; omega)
         refine wp_region_leap (leap_kept (fun j => j ≠ gb)) [(0, true), (1, true), (2, true), (3, true), (4, false), (5, true), (6, false)] (by kernel_rfl) (by kernel_rfl) (by kernel_rfl) ?_
         have HPv := hid HPv0.out.drew
         have HMv := hid HMv0.out.drew
         have HGv := hid (grown_trans HGv0.out (grown_drew v1 (some gb)))
         have HBv := hid (show Below w.heap.size w v1.drew from HBv0.out.drew)
         have HBp := hid HBp0.out.drew
         clear HPv0 HMv0 HGv0 HBv0 HBp0 HPk HMk HTk HGk HGw hg5 b5
         generalize v1.drew = v0 at HPv HMv HGv HBv HBp ⊢
         have qx : ∀ W, Kept (fun j => j ≠ gb) v0 W → W.cell? ⟨gx, 4, none⟩ = some (.slice (some ⟨gb, 0, none⟩) n2 n2) := fun W hW => (Blk.kept HPv.out.x hW (fun e => HPv.out.bx e.symm)).at 4
         repeat ((first | (refine chain_take rfl (by rfl) ?_ (fun W hG => ?_) ?_; rotate_left; (go_simp; rfl)) | refine chain_skip rfl (by rfl) ?_); simp only [Act.put, List.setIfInBounds_toArray, List.set_cons_zero, List.set_cons_succ])
         clear qx
         refine chain_only rfl (by rfl) (fun K hK => ?_)
         go_simp
         refine (HNx.out _).mono ?_
         rintro e w5 ⟨⟨x, rfl, hx⟩, rfl⟩
         refine hK _ _ ((leap_kept _).refl _) ?_
         clear hK K
         repeat ((first | (refine chain_take rfl (by rfl) ?_ (fun W hG => ?_) ?_; rotate_left; (go_simp; rfl)) | refine chain_skip rfl (by rfl) ?_); simp only [Act.put, List.setIfInBounds_toArray, List.set_cons_zero, List.set_cons_succ])
         have hc := World.rowIs.cell HPv.out.b hlt
         have hf := World.rowIs.frozen HPv.out.b k
         refine chain_only rfl (by rfl) (fun K hK => ?_)
         go_simp
         refine hK _ _ (kept_set _ _ _ (fun h => h rfl)) ?_
         clear hK K hc hf
         refine chain_done ?_
         have HP5 := hid (HPv.out.setB k x)
         have HG5 := hid (grown_trans HGv.out (grown_set v0 ⟨gb, k, none⟩ (.int .u64 (x : Int))))
         have HBl5 := hid (HBv.out.setCell (p := ⟨gb, k, none⟩) (show w.heap.size ≤ gb by have := HO.out; omega) (.int .u64 (x : Int)))
         have HBp5 := hid (Blk.cellset HBp.out (a := ⟨gb, k, none⟩) (fun e => by have e : wr.heap.size = gb := e; have := Hpn.out; omega) (.int .u64 (x : Int)))
         have HSt2 := hid (HOw.out x hx)
         have hx3 := hx.2.2
         generalize v0.setCell _ _ = w6 at HP5 HG5 HBl5 HBp5 ⊢
         clear HPv HGv HMv HBv HBp HSt HOw HNx hx Hpn
         have qx := HP5.out.x.at 4
         have q2 := HBp5.out.at 2
         have hc := World.rowIs.cell HP5.out.b hlt
         unfold ivl put1 at hc
         rw [if_pos rfl] at hc
         have zz : IntKind.u64.wrap ((x : Int) + (s.pl.size : Int)) = ((x + s.pl.size : Nat) : Int) := by rw [IntKind.wrap_u64]; omega
         generalize x + s.pl.size = r2 at zz HSt2
         go_wp2_with fail
         go_quiet (fail)
         clear qx q2 hc zz
         go_wp2
         go_roundw
         case rel => exact ⟨k + 1, r2, put1 G k x, by omega, by go_num, rfl, HSt2, HP5.out.drewN _, grown_trans HG5.out (grown_grow (Grow.of_drewN _ _) _)⟩
         case measure => simp [intOf]; omega
        ·obtain ⟨i0, hi0, hin, hof⟩ := HPl.out.resolve_left hi
         have HSt2 := hid (HSe2.out i0 hi0 hin hof)
         clear HOw HSe2 HPl HNx hal hof
         have di : (s.pl.inn != -1) = true := by rw [hi0]; simp
         rw [hi0] at di t9
         clear hi hi0
         go_wp2_with fail
         generalize hW : World.alloc _ _ = v1
         obtain ⟨b5, hg5⟩ := blk1 hW
         clear hW t9 t10 t11 t12 di y9
         have HPv0 := hid (HPk.out.grow hg5)
         have HGv0 := hid (grown_trans HGk.out (grown_grow hg5 (some gb)))
         have HBv0 := hid (show Below w.heap.size w v1 from HGw.out.trans (Below.mono hg5 HGw.out.size))
         have HBp0 := hid b5
         have Hpn := hid (show wr.heap.size ≠ gx ∧ wr.heap.size ≠ ga ∧ wr.heap.size ≠ gb from by have h1 := Blk.lt HPk.out.x; have h2 := Row.lt HPk.out.a; have h3 := Row.lt HPk.out.b; omega)
         refine wp_region_leap (leap_but gb k) [(0, true), (1, true), (2, true), (3, true), (4, true), (5, true), (6, true), (7, true), (8, true), (9, true), (10, true), (11, true), (12, true), (13, false)] (by kernel_rfl) (by kernel_rfl) (by kernel_rfl) ?_
         have HPv := hid HPv0.out.drew
         have HGv := hid (grown_trans HGv0.out (grown_drew v1 (some gb)))
         have HBp := hid HBp0.out.drew
         clear HPv0 HGv0 HBv0 HBp0 HPk HMk HTk HGk HGw hg5 b5
         generalize v1.drew = v0 at HPv HGv HBp ⊢
         have qx : ∀ W, Butc gb k v0 W → W.cell? ⟨gx, 3, none⟩ = some (.slice (some ⟨ga, 0, none⟩) n1 n1) := fun W hW => (HPv.out.x.but hW (fun e => HPv.out.bx e.symm)).at 3
         have qx4 : ∀ W, Butc gb k v0 W → W.cell? ⟨gx, 4, none⟩ = some (.slice (some ⟨gb, 0, none⟩) n2 n2) := fun W hW => (HPv.out.x.but hW (fun e => HPv.out.bx e.symm)).at 4
         have p0 : ∀ W, Butc gb k v0 W → W.cell? ⟨wr.heap.size, 0, none⟩ = some (.int .i64 (i0 : Int)) := fun W hW => (HBp.out.but hW (by have := Hpn.out; omega)).at 0
         have p1 : ∀ W, Butc gb k v0 W → W.cell? ⟨wr.heap.size, 1, none⟩ = some (.int .u64 (s.pl.off : Nat)) := fun W hW => (HBp.out.but hW (by have := Hpn.out; omega)).at 1
         have hci : ∀ W, Butc gb k v0 W → W.cell? ⟨ga, i0, none⟩ = some (.int .u64 (F i0 : Int)) := fun W hW => but_cell hW (Row.lt HPv.out.a) HPv.out.ab (World.rowIs.cell HPv.out.a hin)
         have zz := wrap_mod (F i0) s.pl.off
         obtain ⟨v, hv⟩ : ∃ v, (F i0 + s.pl.off) % 18446744073709551616 = v := ⟨_, rfl⟩
         rw [hv] at zz HSt2
         clear hv
         generalize F i0 = fi at hci zz
         repeat ((first | (refine chain_take rfl (by rfl) ?_ (fun W hG => ?_) ?_; rotate_left; (go_simp; rfl)) | refine chain_skip rfl (by rfl) ?_); simp only [Act.put, List.setIfInBounds_toArray, List.set_cons_zero, List.set_cons_succ])
         clear qx p0 p1 hci zz qx4
         have hc := World.rowIs.cell HPv.out.b hlt
         have hf := World.rowIs.frozen HPv.out.b k
         refine chain_only rfl (by rfl) (fun K hK => ?_)
         go_simp
         refine hK _ _ (HPv.out.b.but hlt _) ?_
         clear hK K hc hf
         refine chain_done ?_
         have HP5 := hid (HPv.out.setB k v)
         have HG5 := hid (grown_trans HGv.out (grown_set v0 ⟨gb, k, none⟩ (.int .u64 (v : Int))))
         generalize v0.setCell _ _ = w6 at HP5 HG5 ⊢
         clear HPv HGv HBp HSt Hpn hin
         go_wp2
         go_roundw
         case rel => exact ⟨k + 1, r, put1 G k v, by omega, by go_num, rfl, HSt2, HP5.out, HG5.out⟩
         case measure => simp [intOf]; omega
       ·obtain rfl : n2 = k := by omega
        clear hk hlt HP6 HM6 HT6 HG6 HGk
        have HNx := hid (fun w => rNext_any r 0 8 w HSt.out.2.2 (by omega) ones8)
        by_cases h2 : 0 < n2
        ·have d2 : decide (0 < n2) = true := decide_eq_true h2
         have d2' : decide ((0 : Int) < (n2 : Int)) = true := decide_eq_true (by omega)
         have ESh2 := hid (show sh = plc (m.eS n2) 0 8 by rw [ESh.out, if_pos h2])
         have ET2 := hid (show m.eT = fin (m.eS n2) 0 8 (z2 * (n2 + 1)) by rw [ET.out, if_pos h2])
         clear h2
         go_wp2_with fail
         clear y9 d2 d2'
         refine (HNx.out _).mono ?_
         rintro e w5 ⟨⟨x, rfl, hx⟩, rfl⟩
         have HStp := hid (HSt.out.1.step (n := z2 * (n2 + 1)) hx)
         have hx3 := hx.2.2
         obtain ⟨k2, hk2⟩ : ∃ k2, z2 * (n2 + 1) = k2 := ⟨_, rfl⟩
         have hk2b : k2 ≤ 64 * 65 := by rw [← hk2]; exact Nat.mul_le_mul hz2 (by omega)
         rw [hk2] at HStp ET2
         have m1 : IntKind.i64.wrap ((n2 : Int) + 1) = (n2 : Int) + 1 := by rw [IntKind.wrap_i64]; omega
         have m2 : IntKind.i64.wrap ((z2 : Int) * ((n2 : Int) + 1)) = (k2 : Int) := by
          have : (z2 : Int) * ((n2 : Int) + 1) = (k2 : Int) := by rw [← hk2]; simp
          rw [this, IntKind.wrap_i64]
          omega
         have m3 : IntKind.u64.wrap (k2 : Int) = (k2 : Int) := by rw [IntKind.wrap_u64]; omega
         have m4 : IntKind.u64.wrap ((x : Int) + (k2 : Int)) = ((x + k2 : Nat) : Int) := by rw [IntKind.wrap_u64]; omega
         generalize x + k2 = r2 at m4 HStp
         clear hk2 hk2b hx hx3
         have HRow := hid (fun (h : r2 ≤ 65536) => HSt.out.2.1 (HStp.out.2 h).1)
         have HSx := hid (fun (h : r2 ≤ 65536) => show sh = x from by rw [ESh2.out, (HStp.out.2 h).2])
         have HEt := hid (show Lk m.eT r2 from by rw [ET2.out]; exact HStp.out.1)
         clear HStp HSt ESh2 ET2 HNx
         have c1 := HPk.out.x.at 1
         have f1 := HPk.out.x.soft 1
         have HP7 := hid (HPk.out.setX 1 (.int .u64 (x : Int)) (by simp))
         simp only [List.set_toArray, List.set_cons_zero, List.set_cons_succ] at HP7
         have HM7 := hid (Blk.cellset HMk.out (a := ⟨gx, 1, none⟩) (fun e => by have e : w.heap.size = gx := e; have := HO.out; omega) (.int .u64 (x : Int)))
         have HT7 := hid (Blk.cellset HTk.out (a := ⟨gx, 1, none⟩) (fun e => by have e : w.heap.size + 1 = gx := e; have := HO.out; omega) (.int .u64 (x : Int)))
         have HG7 := hid (below_cell HGw.out (show w.heap.size ≤ gx by have := HO.out; omega) 1 (.int .u64 (x : Int)))
         have q1 := HP7.out.x.at 1
         have y9 := HM7.out.at 9
         have c2 := HP7.out.x.at 2
         have f2 := HP7.out.x.soft 2
         have HP8 := hid (HP7.out.setX 2 (.int .u64 (r2 : Int)) (by simp))
         simp only [List.set_toArray, List.set_cons_zero, List.set_cons_succ] at HP8
         have HT8 := hid (Blk.cellset HT7.out (a := ⟨gx, 2, none⟩) (fun e => by have e : w.heap.size + 1 = gx := e; have := HO.out; omega) (.int .u64 (r2 : Int)))
         have HG8 := hid (below_cell HG7.out (show w.heap.size ≤ gx by have := HO.out; omega) 2 (.int .u64 (r2 : Int)))
         have s0 := HT8.out.soft 0
         have w00 := HT8.out.at 0
         have s1 := HT8.out.soft 1
         have w10 := HT8.out.at 1
         have s2 := HT8.out.soft 2
         have w20 := HT8.out.at 2
         have s3 := HT8.out.soft 3
         have w30 := HT8.out.at 3
         have s4 := HT8.out.soft 4
         have w40 := HT8.out.at 4
         by_cases hbig : 65536 < r2
         ·have d8 : decide (65536 < r2) = true := decide_eq_true hbig
          have d8' : decide ((65536 : Int) < (r2 : Int)) = true := decide_eq_true (by omega)
          have EC8 := hid (show C = 8 by rw [EC2.out, if_neg (by have := HEt.out.2 hbig; omega)])
          clear hbig
          go_wp2
          have HX := hid (put5 HT8.out (.int .u64 0) (.int .u64 0) (.int .u64 0) (.slice none 0 0) (.slice none 0 0))
          refine rp_ret (ev := .int .i64 8) rfl rfl HX.out.1 rfl ?_
          exact ⟨_, by rw [EC8.out]; rfl, HN.out _ (by rw [EC8.out]; decide), below_line HG8.out HX.out.2 HG8.out.size (by omega)⟩
         ·have d8 : decide (65536 < r2) = false := decide_eq_false hbig
          have d8' : decide ((65536 : Int) < (r2 : Int)) = false := decide_eq_false (by omega)
          have hle : r2 ≤ 65536 := by omega
          have e1 := HEt.out.1 hle
          have EC8 := hid (show C = 0 by rw [EC2.out, if_pos (by omega)])
          have HRo := hid (HRow.out hle)
          have ESx := hid (HSx.out hle)
          have EEt := hid e1
          clear hbig hle e1 HRow HSx HEt
          have p0 := HP8.out.x.at 0
          have p1 := HP8.out.x.at 1
          have p2 := HP8.out.x.at 2
          have p3 := HP8.out.x.at 3
          have p4 := HP8.out.x.at 4
          go_wp2
          have HX := hid (put5 HT8.out (.int .u64 (ph : Nat)) (.int .u64 (x : Int)) (.int .u64 (r2 : Int)) (.slice (some ⟨ga, 0, none⟩) n1 n1) (.slice (some ⟨gb, 0, none⟩) n2 n2))
          refine rp_ret (ev := .int .i64 0) rfl rfl HX.out.1 rfl ?_
          have hag := HP8.out.a.grownBy HX.out.2 (fun e => by have := Option.some.inj e; have := HO.out; omega)
          have hbg := HP8.out.b.grownBy HX.out.2 (fun e => by have := Option.some.inj e; have := HO.out; omega)
          have hPl := HS.out _ EC8.out ga gb (World.rowIs.congr hag fun j hj => by unfold ivl; rw [HRo.out.1 j hj]) (World.rowIs.congr hbg fun j hj => by unfold ivl; rw [HRo.out.2 j hj]; unfold upTo; rw [if_pos hj])
          rw [ESx.out, EEt.out] at hPl
          exact ⟨_, by rw [EC8.out]; rfl, hPl, below_line HG8.out HX.out.2 HG8.out.size (by omega)⟩
        ·have d2 : decide (0 < n2) = false := decide_eq_false h2
         have d2' : decide ((0 : Int) < (n2 : Int)) = false := decide_eq_false (by omega)
         have HSx := hid (fun (_ : r ≤ 65536) => show sh = 0 from by rw [ESh.out, if_neg h2])
         have HEt := hid (show Lk m.eT r from by rw [ET.out, if_neg h2]; exact HSt.out.1)
         have HRow := hid (fun (h : r ≤ 65536) => HSt.out.2.1 h)
         clear h2 HSt HNx
         have HP7 := HPk
         have HM7 := HMk
         have HT7 := HTk
         have HG7 := HGw
         have c2 := HP7.out.x.at 2
         have f2 := HP7.out.x.soft 2
         have HP8 := hid (HP7.out.setX 2 (.int .u64 (r : Int)) (by simp))
         simp only [List.set_toArray, List.set_cons_zero, List.set_cons_succ] at HP8
         have HT8 := hid (Blk.cellset HT7.out (a := ⟨gx, 2, none⟩) (fun e => by have e : w.heap.size + 1 = gx := e; have := HO.out; omega) (.int .u64 (r : Int)))
         have HG8 := hid (below_cell HG7.out (show w.heap.size ≤ gx by have := HO.out; omega) 2 (.int .u64 (r : Int)))
         have s0 := HT8.out.soft 0
         have w00 := HT8.out.at 0
         have s1 := HT8.out.soft 1
         have w10 := HT8.out.at 1
         have s2 := HT8.out.soft 2
         have w20 := HT8.out.at 2
         have s3 := HT8.out.soft 3
         have w30 := HT8.out.at 3
         have s4 := HT8.out.soft 4
         have w40 := HT8.out.at 4
         by_cases hbig : 65536 < r
         ·have d8 : decide (65536 < r) = true := decide_eq_true hbig
          have d8' : decide ((65536 : Int) < (r : Int)) = true := decide_eq_true (by omega)
          have EC8 := hid (show C = 8 by rw [EC2.out, if_neg (by have := HEt.out.2 hbig; omega)])
          clear hbig
          go_wp2
          have HX := hid (put5 HT8.out (.int .u64 0) (.int .u64 0) (.int .u64 0) (.slice none 0 0) (.slice none 0 0))
          refine rp_ret (ev := .int .i64 8) rfl rfl HX.out.1 rfl ?_
          exact ⟨_, by rw [EC8.out]; rfl, HN.out _ (by rw [EC8.out]; decide), below_line HG8.out HX.out.2 HG8.out.size (by omega)⟩
         ·have d8 : decide (65536 < r) = false := decide_eq_false hbig
          have d8' : decide ((65536 : Int) < (r : Int)) = false := decide_eq_false (by omega)
          have hle : r ≤ 65536 := by omega
          have e1 := HEt.out.1 hle
          have EC8 := hid (show C = 0 by rw [EC2.out, if_pos (by omega)])
          have HRo := hid (HRow.out hle)
          have ESx := hid (HSx.out hle)
          have EEt := hid e1
          clear hbig hle e1 HRow HSx HEt
          have p0 := HP8.out.x.at 0
          have p1 := HP8.out.x.at 1
          have p2 := HP8.out.x.at 2
          have p3 := HP8.out.x.at 3
          have p4 := HP8.out.x.at 4
          go_wp2
          have HX := hid (put5 HT8.out (.int .u64 (ph : Nat)) (.int .u64 0) (.int .u64 (r : Int)) (.slice (some ⟨ga, 0, none⟩) n1 n1) (.slice (some ⟨gb, 0, none⟩) n2 n2))
          refine rp_ret (ev := .int .i64 0) rfl rfl HX.out.1 rfl ?_
          have hag := HP8.out.a.grownBy HX.out.2 (fun e => by have := Option.some.inj e; have := HO.out; omega)
          have hbg := HP8.out.b.grownBy HX.out.2 (fun e => by have := Option.some.inj e; have := HO.out; omega)
          have hPl := HS.out _ EC8.out ga gb (World.rowIs.congr hag fun j hj => by unfold ivl; rw [HRo.out.1 j hj]) (World.rowIs.congr hbg fun j hj => by unfold ivl; rw [HRo.out.2 j hj]; unfold upTo; rw [if_pos hj])
          rw [ESx.out, EEt.out] at hPl
          exact ⟨_, by rw [EC8.out]; rfl, hPl, below_line HG8.out HX.out.2 HG8.out.size (by omega)⟩
end Go.Proofs.YtfglppjilcaafaaGreatDoor
