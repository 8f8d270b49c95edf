/-
  The contract of the document's own Defs: all of a chain, or what is wrong first, and where.
-/
import Derived.Test.YtfnaigeakfgpbaaRefAllA
import Derived.Test.YtfnaigeakfgpbaaZapp
import Derived.Test.YtfnaigeakfgpbaaVeWell
namespace Go.Proofs.Ytfnaigeakfgpbaa
open Go.RowKit

set_option maxRecDepth 100000 in
set_option maxHeartbeats 8000000 in
theorem rallD_any (A : Option Addr) (n c : Nat) (l : List UInt8) (big : Bool) (w : World) (h : RB w w.heap.size A n c l) (hn47 : n ≤ 1000000) :
    Calls Try.prog 13 #[.slice A n c, .bool big] w (RAll vmD (vAns vkD l big) w) := by
  have hln := h.len
  have hmx := Nat.le_trans h.cap h.max
  have HRB : ∀ w', Grow w w' → RB w' w'.heap.size A n c l := fun w' hg => (h.belowAt hg (Nat.le_refl _)).more hg.size
  have HNum1 := Lib.hid fun a gw w' (hg : Grow w w') => num_at [2, 2, 2, 2, 4, 4, 4] 7 rfl (fun k h => by
    match k, h with
    | 0, _ => rfl
    | 1, _ => rfl
    | 2, _ => rfl
    | 3, _ => rfl
    | 4, _ => rfl
    | 5, _ => rfl
    | 6, _ => rfl) (by decide) (by decide) A n c l big a gw w' (HRB w' hg)
  have HNum2 := Lib.hid fun a gw w' (hg : Grow w w') => num_at [4, 4] 2 rfl (fun k h => by
    match k, h with
    | 0, _ => rfl
    | 1, _ => rfl) (by decide) (by decide) A n c l big a gw w' (HRB w' hg)
  have HPlace := Lib.hid fun a w' (ha : a < 18446744073709551616) => place_any A n c a w' hmx ha
  have HL4 := Lib.hid fun q => vG_lt4 l big q
  have HL2 := Lib.hid fun q => vG_lt2 l big q
  have HVs : Hid (∀ G n d a, vtAll vkD G n (d + 1) a = _) := Lib.hid fun G n d a => by rw [vtAll]
  have HN1 : Hid (∀ a, nums l big a [2, 2, 2, 2, 4, 4, 4] = [vG l big a 2, vG l big (a + 2) 2, vG l big (a + 4) 2, vG l big (a + 6) 2, vG l big (a + 8) 4, vG l big (a + 12) 4, vG l big (a + 16) 4]) := Lib.hid fun a => by simp [nums, vG, Nat.add_assoc]
  have HN2 : Hid (∀ p, nums l big p [4, 4] = [vG l big p 4, vG l big (p + 4) 4]) := Lib.hid fun p => by simp [nums, vG]
  have HWe : Hid (∀ a, vWell vkD (vG l big) a = (decide (vG l big a 2 = 1) && decide (vG l big (a + 6) 2 ≠ 0) && decide (20 ≤ vG l big (a + 12) 4))) := Lib.hid fun a => rfl
  have HOn : Hid (∀ a, vtOne vkD (vG l big) n a = vtParts (vG l big) n 8 (vG l big (a + 6) 2) (a + vG l big (a + 12) 4)) := Lib.hid fun a => rfl
  have HNx : Hid (∀ a, vNext vkD (vG l big) a = vG l big (a + 16) 4) := Lib.hid fun a => rfl
  have HPt : Hid (∀ p, vmD.pr (vePt vkD (vG l big) p) = #[.int .u32 (vG l big p 4 : Nat)]) := Lib.hid fun p => rfl
  have HHd : Hid (∀ a ps sl, vmD.hr (veOf vkD (vG l big) (a, ps)).h sl = #[.int .u16 (vG l big (a + 2) 2 : Nat), .int .u16 (vG l big (a + 4) 2 : Nat), .int .u32 (vG l big (a + 8) 4 : Nat), sl]) := Lib.hid fun a ps sl => rfl
  have HPp : Hid (∀ a ps, ((veOf vkD (vG l big) (a, ps)).p.map vmD.pr) = ps.map fun q => vmD.pr (vePt vkD (vG l big) q)) := Lib.hid fun a ps => by
    show (ps.map (vePt vkD (vG l big))).map vmD.pr = _
    rw [List.map_map]; rfl
  have HSS : Hid (vkD.S = 20) := Lib.hid rfl
  unfold vAns
  rw [← hln]
  generalize vG l big = G at *
  obtain ⟨Fn, hFn⟩ : ∃ Fn : Nat → Array Value, Fn = fun q => vmD.pr (vePt vkD G q) := ⟨_, rfl⟩
  have HFn := Lib.hid hFn
  clear h HRB hmx hln hFn
  by_cases hn0 : n = 0
  · rw [if_pos hn0]
    subst hn0
    clear HNum1 HNum2 HPlace HL4 HL2 HVs HN1 HN2 HWe HOn HNx HPt HHd HPp HSS HFn
    go_enter Try.func13, Try.ntmps13
    go_wp2
    go_loopw [7, 8] (fun x y wr => x = .slice none 0 0 ∧ wr = w) (fun _ _ _ => 0)
    case atStart => exact ⟨rfl, rfl⟩
    case round =>
      obtain ⟨rfl, rfl⟩ := hrel
      go_wp2
      go_ret3
      exact .inl ⟨rfl, none, 0, rfl, ZV.nil, Grow.refl _⟩
  · rw [if_neg hn0]
    obtain ⟨R, hR⟩ : ∃ R, vtAll vkD G n (n + 1) 0 = R := ⟨_, rfl⟩
    have HRe0 := Lib.hid hR
    rw [hR]
    clear hR
    have hpos : (0 : Int) < (n : Int) := by omega
    go_enter Try.func13, Try.ntmps13
    go_wp2_with fail
    go_loopw [7, 8] (fun x y wr => ∃ (f a : Nat) (T : List (Nat × List Nat)) (RR : List (Array Value)) (m : Nat) (A2 : Option Addr) (c2 : Nat), x = .slice A2 m c2 ∧ y = .int .u64 (a : Int) ∧ m = T.length ∧ 1 ≤ f ∧ n < a + f ∧ m + f = n + 1 ∧ a < 18446744073709551616 ∧
      R = (T ++ (vtAll vkD G n f a).1, (vtAll vkD G n f a).2) ∧ ZO wr w.heap.size 55 4 A2 m c2 RR ∧ VeOs vmD wr w.heap.size RR (T.map (veOf vkD G)) ∧ Grow w wr) (fun x _ _ => n + 1 - vLen x)
    case atStart => exact ⟨n + 1, 0, [], [], 0, none, 0, rfl, rfl, rfl, by omega, by omega, by omega, by omega, by rw [HRe0.out]; rfl, ZO.nil, VeOs.nil, Grow.refl _⟩
    case round =>
      obtain ⟨f, a, T, RR, m, A2, c2, rfl, rfl, hm, hf, hfa, hmf, ha64, hRe, ho, ht, hg⟩ := hrel
      obtain ⟨d, rfl⟩ : ∃ d, f = d + 1 := ⟨f - 1, by omega⟩
      have HM := Lib.hid hm
      rw [HVs.out, HSS.out, HWe.out, HOn.out, HNx.out] at hRe
      have HRe := Lib.hid hRe
      have HO0 := Lib.hid ho
      have HT0 := Lib.hid ht
      have HG0 := Lib.hid hg
      have hn1 := HN1.out a
      have HHda := Lib.hid (HHd.out a)
      have HPpa := Lib.hid (HPp.out a)
      clear hRe ho ht hg hm HVs HWe HOn HNx HRe0 HN1 HHd HPp HSS
      go_wp2_with fail
      have HW1 := Lib.hid (show Blk (wr.alloc (.cells #[.int .i64 2, .int .i64 2, .int .i64 2, .int .i64 2, .int .i64 4, .int .i64 4, .int .i64 4] 3)) wr.heap.size 3 (i64s [2, 2, 2, 2, 4, 4, 4]) from Blk.new _ _ _)
      have HO1 := Lib.hid (HO0.out.keep (Grow.of_alloc wr (.cells #[.int .i64 2, .int .i64 2, .int .i64 2, .int .i64 2, .int .i64 4, .int .i64 4, .int .i64 4] 3)))
      have HT1 := Lib.hid (HT0.out.keep (Grow.of_alloc wr (.cells #[.int .i64 2, .int .i64 2, .int .i64 2, .int .i64 2, .int .i64 4, .int .i64 4, .int .i64 4] 3)))
      have HG1 : Hid (Grow w (wr.alloc (.cells #[.int .i64 2, .int .i64 2, .int .i64 2, .int .i64 2, .int .i64 4, .int .i64 4, .int .i64 4] 3))) := HG0.out.trans (Grow.of_alloc _ _)
      generalize wr.alloc _ = w1 at HW1 HO1 HT1 HG1 ⊢
      generalize wr.heap.size = gw at HW1 ⊢
      clear HO0 HT0 HG0
      refine (HNum1.out a gw w1 HG1.out HW1.out ha64).mono ?_
      rintro e w2 (⟨hin, gl, cs, c5, rfl, hgl, hbl, hc5, hcl, hg2⟩ | ⟨hout, rfl, hg2⟩)
      · have hsum : sumN [2, 2, 2, 2, 4, 4, 4] = 20 := rfl
        rw [hsum] at hin
        rw [if_neg (by omega)] at HRe
        have HO2 := Lib.hid (HO1.out.keep hg2)
        have HT2 := Lib.hid (HT1.out.keep hg2)
        have HG2 : Hid (Grow w w2) := HG1.out.trans hg2
        have HBl2 := Lib.hid hbl
        rw [hn1] at hcl
        obtain ⟨x0, hx0⟩ : ∃ x, x = G a 2 := ⟨_, rfl⟩
        obtain ⟨x1, hx1⟩ : ∃ x, x = G (a + 2) 2 := ⟨_, rfl⟩
        obtain ⟨x2, hx2⟩ : ∃ x, x = G (a + 4) 2 := ⟨_, rfl⟩
        obtain ⟨x3, hx3⟩ : ∃ x, x = G (a + 6) 2 := ⟨_, rfl⟩
        obtain ⟨x4, hx4⟩ : ∃ x, x = G (a + 8) 4 := ⟨_, rfl⟩
        obtain ⟨x5, hx5⟩ : ∃ x, x = G (a + 12) 4 := ⟨_, rfl⟩
        obtain ⟨x6, hx6⟩ : ∃ x, x = G (a + 16) 4 := ⟨_, rfl⟩
        have l3 := HL2.out (a + 6)
        have l5 := HL4.out (a + 12)
        have l6 := HL4.out (a + 16)
        have l1 := HL2.out (a + 2)
        have l2 := HL2.out (a + 4)
        have l4 := HL4.out (a + 8)
        rw [← hx0, ← hx1, ← hx2, ← hx3, ← hx4, ← hx5, ← hx6] at hcl
        rw [← hx0, ← hx3, ← hx5, ← hx6] at HRe
        rw [← hx3] at l3
        rw [← hx5] at l5
        rw [← hx6] at l6
        rw [← hx1] at l1
        rw [← hx2] at l2
        rw [← hx4] at l4
        have HHa : Hid (∀ ps sl, vmD.hr (veOf vkD G (a, ps)).h sl = #[.int .u16 (x1 : Int), .int .u16 (x2 : Int), .int .u32 (x4 : Int), sl]) := Lib.hid fun ps sl => by rw [HHda.out, ← hx1, ← hx2, ← hx4]
        have HCl : Hid (∀ W, Blk W gl 62 cs → W.cell? ⟨gl, 0, none⟩ = some (.int .u64 (x0 : Int)) ∧ W.cell? ⟨gl, 1, none⟩ = some (.int .u64 (x1 : Int)) ∧ W.cell? ⟨gl, 2, none⟩ = some (.int .u64 (x2 : Int)) ∧ W.cell? ⟨gl, 3, none⟩ = some (.int .u64 (x3 : Int)) ∧ W.cell? ⟨gl, 4, none⟩ = some (.int .u64 (x4 : Int)) ∧ W.cell? ⟨gl, 5, none⟩ = some (.int .u64 (x5 : Int)) ∧ W.cell? ⟨gl, 6, none⟩ = some (.int .u64 (x6 : Int))) := Lib.hid fun W hW => ⟨hcl W hW 0 _ (by decide) rfl, hcl W hW 1 _ (by decide) rfl, hcl W hW 2 _ (by decide) rfl, hcl W hW 3 _ (by decide) rfl, hcl W hW 4 _ (by decide) rfl, hcl W hW 5 _ (by decide) rfl, hcl W hW 6 _ (by decide) rfl⟩
        clear hcl hn1 hg2 hbl HO1 HT1 HG1 HW1 HHda hsum HNum1 hgl hx0 hx1 hx2 hx3 hx4 hx5 hx6
        obtain ⟨y0, y1, y2, y3, y4, y5, y6⟩ := HCl.out _ HBl2.out
        by_cases hgood : x0 = 1 ∧ x3 ≠ 0 ∧ 20 ≤ x5
        · have e0 : ((x0 : Int) != 1) = false := by simp; omega
          have e1 : ((x3 : Int) == 0) = false := by simp; omega
          have e2 : decide ((x5 : Int) < 20) = false := decide_eq_false (by omega)
          have e3 : ¬ (x5 : Int) < 20 := by omega
          have HGd := Lib.hid hgood
          rw [show (decide (x0 = 1) && decide (x3 ≠ 0) && decide (20 ≤ x5)) = true by rw [decide_eq_true hgood.1, decide_eq_true hgood.2.1, decide_eq_true hgood.2.2]; rfl, if_neg (by decide)] at HRe
          have hxf : 20 ≤ x5 := hgood.2.2
          have hxc : 0 < x3 := by omega
          clear hgood
          have z1 : IntKind.u16.wrap (x1 : Int) = (x1 : Int) := by rw [IntKind.wrap_u16]; omega
          have z2 : IntKind.u16.wrap (x2 : Int) = (x2 : Int) := by rw [IntKind.wrap_u16]; omega
          have z4 : IntKind.u32.wrap (x4 : Int) = (x4 : Int) := by rw [IntKind.wrap_u32]; omega
          go_wp2_with fail
          clear e0 e1 e2 e3 y0 y1 y2 y3 y4 y5 y6
          refine wp_region_leap (leap_below w2.heap.size) [(0, true), (1, true), (2, true), (3, true), (4, true), (5, true), (6, true), (7, true), (8, true), (9, true), (10, true), (11, true), (12, true), (13, false), (14, false)] (by kernel_rfl) (by kernel_rfl) (by kernel_rfl) ?_
          have HX : Hid (∀ W, Below w2.heap.size w2.drew W → _ ∧ _ ∧ _ ∧ _ ∧ _ ∧ _ ∧ _) := fun W hW => HCl.out W (HBl2.out.below ((show Below w2.heap.size w2 w2.drew from ⟨rfl, rfl, rfl, Nat.le_refl _, fun _ _ => rfl⟩).trans hW) HBl2.out.lt)
          have hv0 : Grow w2 w2.drew := Grow.of_drew _
          have HVz : Hid (w2.drew.heap.size = w2.heap.size) := Lib.hid rfl
          generalize w2.drew = v0 at HX hv0 HVz ⊢
          repeat (refine chain_take rfl (by rfl) ?_ (fun W hG => ?_) ?_; rotate_left; (obtain ⟨q0, q1, q2, q3, q4, q5, q6⟩ := HX.out W hG; go_simp; rfl); simp only [Act.put, List.setIfInBounds_toArray, List.set_cons_zero, List.set_cons_succ])
          clear HX
          refine chain_only rfl (by rfl) (fun K hK => ?_)
          go_simp
          have hgw := Grow.of_alloc v0 (.cells #[.int .u16 0, .int .u16 0, .int .u32 0, .slice none 0 0] 55)
          refine hK _ _ (Below.alloc (Below.refl _ _) (Nat.le_of_eq HVz.out.symm) _) ?_
          clear hK K
          have hbn := Blk.new v0 55 #[.int .u16 0, .int .u16 0, .int .u32 0, .slice none 0 0]
          refine chain_only rfl (by rfl) (fun K hK => ?_)
          refine wp_store_row 55 (.tmp 11) (.tmp 64) rfl v0.heap.size #[.int .u16 (x1 : Int), .int .u16 (x2 : Int), .int .u32 (x4 : Int), .slice none 0 0] rfl rfl _ _ hbn (by kernel_rfl) rfl (by simp [Value.oneCell']) ?_
          refine hK _ _ (Below.setRowV _ (Nat.le_of_eq HVz.out.symm) _) ?_
          clear hK K
          refine chain_done ?_
          have hbd := hbn.set #[.int .u16 (x1 : Int), .int .u16 (x2 : Int), .int .u32 (x4 : Int), .slice none 0 0]
          have hgd : Grow w2 ((v0.alloc (.cells #[.int .u16 0, .int .u16 0, .int .u32 0, .slice none 0 0] 55)).setRow v0.heap.size #[.int .u16 (x1 : Int), .int .u16 (x2 : Int), .int .u32 (x4 : Int), .slice none 0 0]) := Grow.set (hv0.trans hgw) (Nat.le_of_eq HVz.out.symm) _
          obtain ⟨gd, hgd0⟩ : ∃ gd, gd = v0.heap.size := ⟨_, rfl⟩
          have hgde : gd = w2.heap.size := hgd0.trans HVz.out
          rw [← hgd0] at hbd hgd ⊢
          generalize World.setRow _ _ _ = w3 at hbd hgd ⊢
          clear hgw hbn hv0 HVz hgd0
          clear z1 z2 z4
          have HD3 := Lib.hid hbd
          have HX3 := Lib.hid hgd
          have HGD := Lib.hid hgde
          clear hbd hgd hgde
          obtain ⟨p0, hp0⟩ : ∃ p, p = a + x5 := ⟨_, rfl⟩
          have zp : IntKind.u64.wrap ((a : Int) + (x5 : Int)) = (p0 : Int) := by rw [IntKind.wrap_u64]; omega
          have hp64 : p0 < 18446744073709551616 := by omega
          rw [← hp0] at HRe
          clear hp0
          obtain ⟨P, hP⟩ : ∃ P, vtParts G n 8 x3 p0 = P := ⟨_, rfl⟩
          rw [hP] at HRe
          have HPe := Lib.hid hP
          clear hP
          obtain ⟨y0, y1, y2, y3, y4, y5, y6⟩ := HCl.out _ (HBl2.out.grow HX3.out)
          go_wp2_with fail
          clear y0 y1 y2 y3 y4 y5 y6 zp
          go_loopw [12, 13] (fun y z wr => ∃ (p c' : Nat) (T2 : List Nat) (k : Nat) (A3 : Option Addr) (c3 : Nat), y = .int .u64 (p : Int) ∧ z = .int .i64 (k : Int) ∧ k = T2.length ∧ k + c' = x3 ∧ p < 18446744073709551616 ∧ P = (T2 ++ (vtParts G n 8 c' p).1, (vtParts G n 8 c' p).2) ∧
            Blk wr gd 55 #[.int .u16 (x1 : Int), .int .u16 (x2 : Int), .int .u32 (x4 : Int), .slice A3 k c3] ∧ ZO wr w2.heap.size 52 1 A3 k c3 (T2.map Fn) ∧ Grow w2 wr) (fun _ z _ => x3 - (intOf z).toNat)
          case atStart => exact ⟨p0, x3, [], 0, none, 0, rfl, rfl, rfl, by omega, hp64, by rw [HPe.out]; rfl, HD3.out, ZO.nil, HX3.out⟩
          case round =>
            obtain ⟨p, c', T2, k, A3, c3, rfl, rfl, hk2, hkc, hp, hPr, hbd, hnm, hgx⟩ := hrel
            have HK2 := Lib.hid hk2
            have HPr := Lib.hid hPr
            have HD := Lib.hid hbd
            have HNm := Lib.hid hnm
            have HX := Lib.hid hgx
            clear hk2 hPr hbd hnm hgx HD3 HX3 HPe
            have zc : IntKind.i64.wrap (x3 : Int) = (x3 : Int) := by rw [IntKind.wrap_i64]; omega
            obtain ⟨y0, y1, y2, y3, y4, y5, y6⟩ := HCl.out _ (HBl2.out.grow HX.out)
            by_cases hlt : k < x3
            · obtain ⟨d2, rfl⟩ : ∃ d2, c' = d2 + 1 := ⟨c' - 1, by omega⟩
              rw [vtParts] at HPr
              go_wp2_with fail
              clear y0 y1 y2 y3 y4 y5 y6
              have HW4 := Lib.hid (show Blk (wr.alloc (.cells #[.int .i64 4, .int .i64 4] 3)) wr.heap.size 3 (i64s [4, 4]) from Blk.new _ _ _)
              have HD4 := Lib.hid (HD.out.alloc (.cells #[.int .i64 4, .int .i64 4] 3))
              have HNm4 := Lib.hid (HNm.out.keep (Grow.of_alloc wr (.cells #[.int .i64 4, .int .i64 4] 3)))
              have HX4 : Hid (Grow w2 (wr.alloc (.cells #[.int .i64 4, .int .i64 4] 3))) := HX.out.trans (Grow.of_alloc _ _)
              generalize wr.alloc _ = w4 at HW4 HD4 HNm4 HX4 ⊢
              generalize wr.heap.size = gw4 at HW4 ⊢
              clear HD HNm HX
              refine (HNum2.out p gw4 w4 (HG2.out.trans HX4.out) HW4.out hp).mono ?_
              rintro e w5 (⟨hin2, gm, cs2, c6, rfl, hgm, hbm, hc6, hcm, hg5⟩ | ⟨hout2, rfl, hg5⟩)
              · have hsum2 : sumN [4, 4] = 8 := rfl
                rw [hsum2] at hin2
                rw [if_neg (by omega)] at HPr
                have HD5 := Lib.hid (HD4.out.grow hg5)
                have HNm5 := Lib.hid (HNm4.out.keep hg5)
                have HX5 : Hid (Grow w2 w5) := HX4.out.trans hg5
                have HBm := Lib.hid hbm
                have HFp : Hid (Fn p = #[.int .u32 (G p 4 : Nat)]) := Lib.hid (by rw [HFn.out]; exact HPt.out p)
                rw [HN2.out] at hcm
                obtain ⟨v0, hv0⟩ : ∃ x, x = G p 4 := ⟨_, rfl⟩
                have m0 := HL4.out p
                rw [← hv0] at m0
                obtain ⟨v1, hv1⟩ : ∃ x, x = G (p + 4) 4 := ⟨_, rfl⟩
                have m1 := HL4.out (p + 4)
                rw [← hv1] at m1
                rw [← hv0, ← hv1] at hcm
                rw [← hv0] at HFp
                rw [show p + (8 - 4) = p + 4 from rfl, ← hv1] at HPr
                have HCm : Hid (∀ W, Blk W gm 62 cs2 → W.cell? ⟨gm, 0, none⟩ = some (.int .u64 (v0 : Int)) ∧ W.cell? ⟨gm, 1, none⟩ = some (.int .u64 (v1 : Int))) := Lib.hid fun W hW => ⟨hcm W hW 0 _ (by decide) rfl, hcm W hW 1 _ (by decide) rfl⟩
                clear hcm hbm hg5 HW4 HD4 HNm4 HX4 hsum2 hv0 hv1
                have zk : IntKind.i64.wrap ((k : Int) + 1) = ((k + 1 : Nat) : Int) := by rw [IntKind.wrap_i64]; omega
                obtain ⟨y0, y1, y2, y3, y4, y5, y6⟩ := HCl.out _ (HBl2.out.grow HX5.out)
                obtain ⟨u0, u1⟩ := HCm.out _ HBm.out
                by_cases hd2 : d2 = 0
                · rw [if_pos hd2] at HPr
                  have e4 : ((((k + 1 : Nat) : Int)) == (x3 : Int)) = true := by simp; omega
                  have e5 : ((k : Int) + 1 == (x3 : Int)) = true := by simp; omega
                  by_cases ho0 : v1 = 0
                  · rw [if_pos ho0] at HPr
                    have e6 : ((v1 : Int) != 0) = false := by simp; omega
                    have HO0 := Lib.hid ho0
                    have HD20 := Lib.hid hd2
                    clear ho0 hd2
                    have zv0 : IntKind.u32.wrap (v0 : Int) = (v0 : Int) := by rw [IntKind.wrap_u32]; omega
                    go_wp2_with fail
                    clear y0 y1 y2 y3 y4 y5 y6 u0 u1 zk
                    refine wp_region_tq (leap_kept (fun k => k = gm)) (.chain [(0, true), (2, true), (3, true), (4, true), (5, true)] (.both 1 (.chain [(6, false), (7, false), (8, true), (9, false)] .done) 6 (.chain [(1, false), (7, false), (8, true), (9, false)] .done))) (by kernel_rfl) (by kernel_rfl) (by kernel_rfl) ?_
                    refine tq_chain ?_
                    have HXm : Hid (∀ W, Kept (fun k => k = gm) w5.drew W → _ ∧ _) := fun W hW => HCm.out W ((HBm.out.drew).kept hW rfl)
                    have HD6 := Lib.hid HD5.out.drew
                    have HNm6 : Hid (ZO w5.drew _ _ _ _ _ _ _) := HNm5.out
                    have HX6 : Hid (Grow w2 w5.drew) := HX5.out.trans (Grow.of_drew _)
                    have HBm6 := Lib.hid HBm.out.drew
                    generalize w5.drew = w6 at HXm HD6 HNm6 HX6 HBm6 ⊢
                    clear HD5 HNm5 HX5 HBm
                    repeat (refine chain_take rfl (by rfl) ?_ (fun W hG => ?_) ?_; rotate_left; (obtain ⟨q0, q1⟩ := HXm.out W hG; go_simp; rfl); simp only [Act.put, List.setIfInBounds_toArray, List.set_cons_zero, List.set_cons_succ])
                    clear HXm zv0
                    refine chain_done (tq_both (step_op rfl (by rfl) ?A1) (step_op rfl (by rfl) ?B1))
                    case' A1 =>
                      intro K hK
                      obtain ⟨-, -, -, w3c⟩ := HD6.out.c4
                      go_simp
                      refine hK _ _ ((leap_kept _).refl _) ?_
                      clear hK K w3c
                      refine tq_chain ?_
                      refine chain_only rfl (by rfl) (fun K hK => ?_)
                      go_simp
                      refine hK _ _ (Kept.of_grow (Grow.of_alloc _ _)) ?_
                      clear hK K
                      have HU7 := Lib.hid (Blk.new w6 52 #[.int .u32 (v0 : Int)])
                      have HD7 := Lib.hid (HD6.out.alloc (.cells #[.int .u32 (v0 : Int)] 52))
                      have HNm7 := Lib.hid (HNm6.out.keep (Grow.of_alloc w6 (.cells #[.int .u32 (v0 : Int)] 52)))
                      have HX7 : Hid (Grow w2 (w6.alloc (.cells #[.int .u32 (v0 : Int)] 52))) := HX6.out.trans (Grow.of_alloc _ _)
                      have HBm7 := Lib.hid (HBm6.out.alloc (.cells #[.int .u32 (v0 : Int)] 52))
                      generalize w6.alloc _ = w7 at HU7 HD7 HNm7 HX7 HBm7 ⊢
                      generalize w6.heap.size = gu at HU7 ⊢
                      clear HD6 HNm6 HX6 HBm6
                    case' B1 =>
                      intro K hK
                      go_simp
                      refine hK _ _ (Kept.of_grow (Grow.of_alloc _ _)) ?_
                      clear hK K
                      have HU7 := Lib.hid (Blk.new w6 52 #[.int .u32 (v0 : Int)])
                      have HD7 := Lib.hid (HD6.out.alloc (.cells #[.int .u32 (v0 : Int)] 52))
                      have HNm7 := Lib.hid (HNm6.out.keep (Grow.of_alloc w6 (.cells #[.int .u32 (v0 : Int)] 52)))
                      have HX7 : Hid (Grow w2 (w6.alloc (.cells #[.int .u32 (v0 : Int)] 52))) := HX6.out.trans (Grow.of_alloc _ _)
                      have HBm7 := Lib.hid (HBm6.out.alloc (.cells #[.int .u32 (v0 : Int)] 52))
                      generalize w6.alloc _ = w7 at HU7 HD7 HNm7 HX7 HBm7 ⊢
                      generalize w6.heap.size = gu at HU7 ⊢
                      clear HD6 HNm6 HX6 HBm6
                      refine tq_chain ?_
                      refine chain_only rfl (by rfl) (fun K hK => ?_)
                      obtain ⟨-, -, -, w3c⟩ := HD7.out.c4
                      go_simp
                      refine hK _ _ ((leap_kept _).refl _) ?_
                      clear hK K w3c
                    all_goals
                      refine chain_only rfl (by rfl) (fun K hK => ?_)
                      have HNg : Hid (own A3 ≠ some gm) := Lib.hid (HNm7.out.blkNe HBm7.out (by decide))
                      refine wp_appendZ w7 (.tmp 119) (.tmp 124) 53 rfl w2.heap.size 52 (.int .u32 0) 1 4 Try.underlying53 (by kernel_rfl) rfl (by omega) A3 k c3 _ rfl HNm7.out gu _ #[.int .u32 (v0 : Int)] rfl HU7.out rfl (by simp [Value.oneCell']) (by unfold maxLen; omega) (by omega) HX7.out.size ?_
                      intro A8 c8 w8 ho8 hg8 hown8
                      refine hK _ _ ⟨hg8.size, fun j hj hj2 => by subst hj2; exact hg8.block _ hj (Ne.symm HNg.out)⟩ ?_
                      clear hK K
                      have HNd : Hid (own A3 ≠ some gd) := Lib.hid (HNm7.out.blkNe HD7.out (by decide))
                      have HD8 : Hid (Blk w8 gd 55 #[.int .u16 (x1 : Int), .int .u16 (x2 : Int), .int .u32 (x4 : Int), .slice A3 k c3]) := Lib.hid (by have := HD7.out; rw [Blk, hg8.block gd this.lt (Ne.symm HNd.out)]; exact this)
                      have HNm8 : Hid (ZO w8 w2.heap.size 52 1 A8 (k + 1) c8 ((T2 ++ [p]).map Fn)) := Lib.hid (by rw [List.map_append, List.map_singleton, HFp.out]; exact ho8)
                      have HX8 : Hid (Grow w2 w8) := HX7.out.trans' ((Below.refl _ _).grown hg8 HX7.out.size (fun j hj => HNm7.out.ge hj))
                      have HBm8 : Hid (Blk w8 gm 62 cs2) := Lib.hid (by have := HBm7.out; rw [Blk, hg8.block gm this.lt (Ne.symm HNg.out)]; exact this)
                      clear ho8 hg8 hown8 HD7 HNm7 HX7 HBm7 HU7 HNg HNd
                      repeat (refine chain_take rfl (by rfl) ?_ (fun W hG => ?_) ?_; rotate_left; (go_simp; rfl); simp only [Act.put, List.setIfInBounds_toArray, List.set_cons_zero, List.set_cons_succ])
                      refine chain_only rfl (by rfl) (fun K hK => ?_)
                      obtain ⟨-, -, -, w3c⟩ := HD8.out.c4
                      have w3f := HD8.out.soft 3
                      go_simp
                      refine hK _ _ (Kept.cellset _ _ _ _ (fun k hk => by
                        subst hk
                        intro e
                        have h1 := HBm8.out
                        have h2 := HD8.out
                        rw [e] at h1
                        rw [Blk] at h1 h2
                        rw [h1] at h2
                        injection h2 with h2
                        injection h2 with _ h2
                        exact absurd h2 (by decide))) ?_
                      clear hK K w3c w3f
                      refine chain_done (tq_done ?_)
                      have HNd : Hid (own A8 ≠ some gd) := Lib.hid (HNm8.out.blkNe HD8.out (by decide))
                      have HD9 := Lib.hid (HD8.out.putD (.slice A8 (k + 1) c8))
                      have HNm9 := Lib.hid (HNm8.out.cellOther HNd.out 3 (.slice A8 (k + 1) c8))
                      have HX9 := Lib.hid (Grow.cellset HX8.out (g := gd) (by have := HGD.out; omega) 3 (.slice A8 (k + 1) c8))
                      have HBm9 := Lib.hid (HBm8.out.cellset (a := ⟨gd, 3, none⟩) (by
                        intro e
                        have h1 := HBm8.out
                        have h2 := HD8.out
                        rw [e] at h1
                        rw [Blk] at h1 h2
                        rw [h1] at h2
                        injection h2 with h2
                        injection h2 with _ h2
                        exact absurd h2 (by decide)) (.slice A8 (k + 1) c8))
                      generalize World.setCell _ _ _ = w9 at HD9 HNm9 HX9 HBm9 ⊢
                      clear HD8 HNm8 HX8 HBm8 HNd
                      obtain ⟨u0, u1⟩ := HCm.out _ HBm9.out
                      obtain ⟨p2, hp2⟩ : ∃ p2, p2 = p + v1 := ⟨_, rfl⟩
                      have zq : IntKind.u64.wrap ((p : Int) + (v1 : Int)) = (p2 : Int) := by rw [IntKind.wrap_u64]; omega
                      have hp264 : p2 < 18446744073709551616 := by omega
                      have HP2 := Lib.hid hp2
                      clear hp2
                      go_wp2
                      go_roundw
                      case rel => exact ⟨p2, d2, T2 ++ [p], k + 1, A8, c8, by trivial, by go_num, by rw [List.length_append, ← HK2.out]; rfl, by omega, hp264, by rw [HPr.out, HD20.out]; simp [vtParts], HD9.out, HNm9.out, HX9.out⟩
                      case measure => simp [intOf]; omega
                  · rw [if_neg ho0] at HPr
                    have e6 : ((v1 : Int) != 0) = true := by simp; omega
                    rw [if_pos (by rw [HPr.out]; simp), HPr.out] at HRe
                    go_wp2_with fail
                    refine (HPlace.out p _ hp).mono ?_
                    rintro e w' ⟨rfl, rfl⟩
                    go_wp2
                    go_ret3
                    rw [HRe.out]
                    rw [Nat.min_eq_left (by omega)]
                    exact .inr ⟨(by decide : (4 : Nat) ≠ 0), rfl, HG2.out.trans HX5.out⟩
                · rw [if_neg hd2] at HPr
                  have e4 : ((((k + 1 : Nat) : Int)) == (x3 : Int)) = false := by simp; omega
                  have e5 : ((k : Int) + 1 == (x3 : Int)) = false := by simp; omega
                  by_cases hoz : v1 < 8
                  · rw [if_pos hoz] at HPr
                    have e6 : decide ((v1 : Int) < 8) = true := decide_eq_true (by omega)
                    have e7 : (v1 : Int) < 8 := by omega
                    rw [if_pos (by rw [HPr.out]; simp), HPr.out] at HRe
                    go_wp2_with fail
                    refine (HPlace.out p _ hp).mono ?_
                    rintro e w' ⟨rfl, rfl⟩
                    go_wp2
                    go_ret3
                    rw [HRe.out]
                    rw [Nat.min_eq_left (by omega)]
                    exact .inr ⟨(by decide : (4 : Nat) ≠ 0), rfl, HG2.out.trans HX5.out⟩
                  · rw [if_neg hoz] at HPr
                    have e6 : decide ((v1 : Int) < 8) = false := decide_eq_false (by omega)
                    have e7 : ¬ (v1 : Int) < 8 := by omega
                    have zv0 : IntKind.u32.wrap (v0 : Int) = (v0 : Int) := by rw [IntKind.wrap_u32]; omega
                    go_wp2_with fail
                    clear y0 y1 y2 y3 y4 y5 y6 u0 u1 zk
                    refine wp_region_tq (leap_kept (fun k => k = gm)) (.chain [(0, true), (2, true), (3, true), (4, true), (5, true)] (.both 1 (.chain [(6, false), (7, false), (8, true), (9, false)] .done) 6 (.chain [(1, false), (7, false), (8, true), (9, false)] .done))) (by kernel_rfl) (by kernel_rfl) (by kernel_rfl) ?_
                    refine tq_chain ?_
                    have HXm : Hid (∀ W, Kept (fun k => k = gm) w5.drew W → _ ∧ _) := fun W hW => HCm.out W ((HBm.out.drew).kept hW rfl)
                    have HD6 := Lib.hid HD5.out.drew
                    have HNm6 : Hid (ZO w5.drew _ _ _ _ _ _ _) := HNm5.out
                    have HX6 : Hid (Grow w2 w5.drew) := HX5.out.trans (Grow.of_drew _)
                    have HBm6 := Lib.hid HBm.out.drew
                    generalize w5.drew = w6 at HXm HD6 HNm6 HX6 HBm6 ⊢
                    clear HD5 HNm5 HX5 HBm
                    repeat (refine chain_take rfl (by rfl) ?_ (fun W hG => ?_) ?_; rotate_left; (obtain ⟨q0, q1⟩ := HXm.out W hG; go_simp; rfl); simp only [Act.put, List.setIfInBounds_toArray, List.set_cons_zero, List.set_cons_succ])
                    clear HXm zv0
                    refine chain_done (tq_both (step_op rfl (by rfl) ?A2) (step_op rfl (by rfl) ?B2))
                    case' A2 =>
                      intro K hK
                      obtain ⟨-, -, -, w3c⟩ := HD6.out.c4
                      go_simp
                      refine hK _ _ ((leap_kept _).refl _) ?_
                      clear hK K w3c
                      refine tq_chain ?_
                      refine chain_only rfl (by rfl) (fun K hK => ?_)
                      go_simp
                      refine hK _ _ (Kept.of_grow (Grow.of_alloc _ _)) ?_
                      clear hK K
                      have HU7 := Lib.hid (Blk.new w6 52 #[.int .u32 (v0 : Int)])
                      have HD7 := Lib.hid (HD6.out.alloc (.cells #[.int .u32 (v0 : Int)] 52))
                      have HNm7 := Lib.hid (HNm6.out.keep (Grow.of_alloc w6 (.cells #[.int .u32 (v0 : Int)] 52)))
                      have HX7 : Hid (Grow w2 (w6.alloc (.cells #[.int .u32 (v0 : Int)] 52))) := HX6.out.trans (Grow.of_alloc _ _)
                      have HBm7 := Lib.hid (HBm6.out.alloc (.cells #[.int .u32 (v0 : Int)] 52))
                      generalize w6.alloc _ = w7 at HU7 HD7 HNm7 HX7 HBm7 ⊢
                      generalize w6.heap.size = gu at HU7 ⊢
                      clear HD6 HNm6 HX6 HBm6
                    case' B2 =>
                      intro K hK
                      go_simp
                      refine hK _ _ (Kept.of_grow (Grow.of_alloc _ _)) ?_
                      clear hK K
                      have HU7 := Lib.hid (Blk.new w6 52 #[.int .u32 (v0 : Int)])
                      have HD7 := Lib.hid (HD6.out.alloc (.cells #[.int .u32 (v0 : Int)] 52))
                      have HNm7 := Lib.hid (HNm6.out.keep (Grow.of_alloc w6 (.cells #[.int .u32 (v0 : Int)] 52)))
                      have HX7 : Hid (Grow w2 (w6.alloc (.cells #[.int .u32 (v0 : Int)] 52))) := HX6.out.trans (Grow.of_alloc _ _)
                      have HBm7 := Lib.hid (HBm6.out.alloc (.cells #[.int .u32 (v0 : Int)] 52))
                      generalize w6.alloc _ = w7 at HU7 HD7 HNm7 HX7 HBm7 ⊢
                      generalize w6.heap.size = gu at HU7 ⊢
                      clear HD6 HNm6 HX6 HBm6
                      refine tq_chain ?_
                      refine chain_only rfl (by rfl) (fun K hK => ?_)
                      obtain ⟨-, -, -, w3c⟩ := HD7.out.c4
                      go_simp
                      refine hK _ _ ((leap_kept _).refl _) ?_
                      clear hK K w3c
                    all_goals
                      refine chain_only rfl (by rfl) (fun K hK => ?_)
                      have HNg : Hid (own A3 ≠ some gm) := Lib.hid (HNm7.out.blkNe HBm7.out (by decide))
                      refine wp_appendZ w7 (.tmp 119) (.tmp 124) 53 rfl w2.heap.size 52 (.int .u32 0) 1 4 Try.underlying53 (by kernel_rfl) rfl (by omega) A3 k c3 _ rfl HNm7.out gu _ #[.int .u32 (v0 : Int)] rfl HU7.out rfl (by simp [Value.oneCell']) (by unfold maxLen; omega) (by omega) HX7.out.size ?_
                      intro A8 c8 w8 ho8 hg8 hown8
                      refine hK _ _ ⟨hg8.size, fun j hj hj2 => by subst hj2; exact hg8.block _ hj (Ne.symm HNg.out)⟩ ?_
                      clear hK K
                      have HNd : Hid (own A3 ≠ some gd) := Lib.hid (HNm7.out.blkNe HD7.out (by decide))
                      have HD8 : Hid (Blk w8 gd 55 #[.int .u16 (x1 : Int), .int .u16 (x2 : Int), .int .u32 (x4 : Int), .slice A3 k c3]) := Lib.hid (by have := HD7.out; rw [Blk, hg8.block gd this.lt (Ne.symm HNd.out)]; exact this)
                      have HNm8 : Hid (ZO w8 w2.heap.size 52 1 A8 (k + 1) c8 ((T2 ++ [p]).map Fn)) := Lib.hid (by rw [List.map_append, List.map_singleton, HFp.out]; exact ho8)
                      have HX8 : Hid (Grow w2 w8) := HX7.out.trans' ((Below.refl _ _).grown hg8 HX7.out.size (fun j hj => HNm7.out.ge hj))
                      have HBm8 : Hid (Blk w8 gm 62 cs2) := Lib.hid (by have := HBm7.out; rw [Blk, hg8.block gm this.lt (Ne.symm HNg.out)]; exact this)
                      clear ho8 hg8 hown8 HD7 HNm7 HX7 HBm7 HU7 HNg HNd
                      repeat (refine chain_take rfl (by rfl) ?_ (fun W hG => ?_) ?_; rotate_left; (go_simp; rfl); simp only [Act.put, List.setIfInBounds_toArray, List.set_cons_zero, List.set_cons_succ])
                      refine chain_only rfl (by rfl) (fun K hK => ?_)
                      obtain ⟨-, -, -, w3c⟩ := HD8.out.c4
                      have w3f := HD8.out.soft 3
                      go_simp
                      refine hK _ _ (Kept.cellset _ _ _ _ (fun k hk => by
                        subst hk
                        intro e
                        have h1 := HBm8.out
                        have h2 := HD8.out
                        rw [e] at h1
                        rw [Blk] at h1 h2
                        rw [h1] at h2
                        injection h2 with h2
                        injection h2 with _ h2
                        exact absurd h2 (by decide))) ?_
                      clear hK K w3c w3f
                      refine chain_done (tq_done ?_)
                      have HNd : Hid (own A8 ≠ some gd) := Lib.hid (HNm8.out.blkNe HD8.out (by decide))
                      have HD9 := Lib.hid (HD8.out.putD (.slice A8 (k + 1) c8))
                      have HNm9 := Lib.hid (HNm8.out.cellOther HNd.out 3 (.slice A8 (k + 1) c8))
                      have HX9 := Lib.hid (Grow.cellset HX8.out (g := gd) (by have := HGD.out; omega) 3 (.slice A8 (k + 1) c8))
                      have HBm9 := Lib.hid (HBm8.out.cellset (a := ⟨gd, 3, none⟩) (by
                        intro e
                        have h1 := HBm8.out
                        have h2 := HD8.out
                        rw [e] at h1
                        rw [Blk] at h1 h2
                        rw [h1] at h2
                        injection h2 with h2
                        injection h2 with _ h2
                        exact absurd h2 (by decide)) (.slice A8 (k + 1) c8))
                      generalize World.setCell _ _ _ = w9 at HD9 HNm9 HX9 HBm9 ⊢
                      clear HD8 HNm8 HX8 HBm8 HNd
                      obtain ⟨u0, u1⟩ := HCm.out _ HBm9.out
                      obtain ⟨p2, hp2⟩ : ∃ p2, p2 = p + v1 := ⟨_, rfl⟩
                      have zq : IntKind.u64.wrap ((p : Int) + (v1 : Int)) = (p2 : Int) := by rw [IntKind.wrap_u64]; omega
                      have hp264 : p2 < 18446744073709551616 := by omega
                      have HP2 := Lib.hid hp2
                      clear hp2
                      go_wp2
                      go_roundw
                      case rel => exact ⟨p2, d2, T2 ++ [p], k + 1, A8, c8, by trivial, by go_num, by rw [List.length_append, ← HK2.out]; rfl, by omega, hp264, by rw [HPr.out, HP2.out]; simp, HD9.out, HNm9.out, HX9.out⟩
                      case measure => simp [intOf]; omega
              · have hsum2 : sumN [4, 4] = 8 := rfl
                rw [hsum2] at hout2
                rw [if_pos (by omega)] at HPr
                rw [if_pos (by rw [HPr.out]; simp), HPr.out] at HRe
                have HX5 : Hid (Grow w2 w5) := HX4.out.trans hg5
                go_wp2_with fail
                refine (HPlace.out p _ hp).mono ?_
                rintro e w' ⟨rfl, rfl⟩
                go_wp2
                go_ret3
                rw [HRe.out]
                exact .inr ⟨(by decide : (2 : Nat) ≠ 0), rfl, HG2.out.trans HX5.out⟩
            · obtain rfl : c' = 0 := by omega
              obtain rfl : k = x3 := by omega
              rw [vtParts, List.append_nil] at HPr
              rw [if_neg (by rw [HPr.out]; simp), HPr.out] at HRe
              have HSz : Hid (w.heap.size ≤ w2.heap.size) := Lib.hid HG2.out.size
              have HV : Hid (VeO vmD wr w.heap.size #[.int .u16 (x1 : Int), .int .u16 (x2 : Int), .int .u32 (x4 : Int), .slice A3 k c3] (veOf vkD G (a, T2))) := Lib.hid ⟨A3, k, c3, (HHa.out T2 _).symm, by rw [HPpa.out, ← HFn.out]; exact HNm.out.mono HSz.out⟩
              have HOw := Lib.hid (HO2.out.keep HX.out)
              have HTw := Lib.hid (HT2.out.keep HX.out)
              have HGw : Hid (Grow w wr) := HG2.out.trans HX.out
              have HBlw := Lib.hid (HBl2.out.grow HX.out)
              have hal := Grow.of_alloc wr (.cells #[.int .u16 (x1 : Int), .int .u16 (x2 : Int), .int .u32 (x4 : Int), .slice A3 k c3] 55)
              have HSz2 := Lib.hid (Nat.le_trans HGw.out.size hal.size)
              have HNu := Lib.hid (Blk.new wr 55 #[.int .u16 (x1 : Int), .int .u16 (x2 : Int), .int .u32 (x4 : Int), .slice A3 k c3])
              have HOA := Lib.hid (HOw.out.keep hal)
              have HTA := Lib.hid (HTw.out.keep hal)
              have HVA := Lib.hid (HV.out.keep hal)
              have HGA : Hid (Grow w (wr.alloc (.cells #[.int .u16 (x1 : Int), .int .u16 (x2 : Int), .int .u32 (x4 : Int), .slice A3 k c3] 55))) := HGw.out.trans hal
              have HBlA := Lib.hid (HBlw.out.grow hal)
              clear hal HV HOw HTw HGw HBlw HX HNm
              go_wp2_with (first | (refine wpList_load_row rfl 55 (.tmp 11) rfl gd rfl _ #[.int .u16 (x1 : Int), .int .u16 (x2 : Int), .int .u32 (x4 : Int), .slice A3 k c3] (0, 0) _ HD.out Try.underlying55 rfl (by kernel_rfl) ?_) | (at_builtin; refine wpList_appendZ (wr.alloc (.cells #[.int .u16 (x1 : Int), .int .u16 (x2 : Int), .int .u32 (x4 : Int), .slice A3 k c3] 55)) rfl (.tmp 132) (.tmp 134) 22 rfl w.heap.size 55 (.agg #[.int .u16 0, .int .u16 0, .int .u32 0, .slice none 0 0]) 4 32 Try.underlying22 (by kernel_rfl) rfl (by omega) A2 m c2 _ rfl HOA.out wr.heap.size _ #[.int .u16 (x1 : Int), .int .u16 (x2 : Int), .int .u32 (x4 : Int), .slice A3 k c3] rfl HNu.out rfl (by simp [Value.oneCell']) (by unfold maxLen; omega) (by omega) HSz2.out ?_; intro A6 c6 w7 ho7 hg7 _; refine Hid.out ?_))
              have HNl : Hid (own A2 ≠ some gl) := Lib.hid (HOA.out.blkNe HBlA.out (by decide))
              have HBl7 : Hid (Blk w7 gl 62 cs) := Lib.hid (by have := HBlA.out; rw [Blk, hg7.block gl this.lt (Ne.symm HNl.out)]; exact this)
              have HG7 : Hid (Grow w w7) := HGA.out.trans' ((Below.refl _ _).grown hg7 HSz2.out (fun j hj => HOA.out.ge hj))
              have HO7 := Lib.hid ho7
              have HT7 : Hid (VeOs vmD w7 w.heap.size (RR ++ [#[.int .u16 (x1 : Int), .int .u16 (x2 : Int), .int .u32 (x4 : Int), .slice A3 k c3]]) ((T ++ [(a, T2)]).map (veOf vkD G))) := Lib.hid (by
                rw [List.map_append]
                exact (HTA.out.past HOA.out (by decide) hg7).snoc (HVA.out.past HOA.out (by decide) hg7))
              clear ho7 hg7 HSz HSz2 HNu HOA HTA HVA HGA HBlA HNl HD
              refine Lib.hid ?_
              clear y0 y1 y2 y3 y4 y5 y6 zc
              obtain ⟨y0, y1, y2, y3, y4, y5, y6⟩ := HCl.out _ HBl7.out
              by_cases h0 : x6 = 0
              · rw [if_pos h0] at HRe
                have e1 : ((x6 : Int) == 0) = true := by simp; omega
                have H0 := Lib.hid h0
                clear h0
                go_wp2
                go_ret3
                rw [HRe.out]
                refine .inl ⟨rfl, A6, _, by simp only [List.length_map, List.length_append, List.length_singleton, ← HM.out]; rfl, ?_, HG7.out⟩
                simp only [List.length_map, List.length_append, List.length_singleton, ← HM.out]
                exact HO7.out.zv HT7.out
              · rw [if_neg h0] at HRe
                have e1 : ((x6 : Int) == 0) = false := by simp; omega
                by_cases hs : x6 < 20
                · rw [if_pos hs] at HRe
                  have e2 : decide ((x6 : Int) < 20) = true := decide_eq_true (by omega)
                  have e3 : (x6 : Int) < 20 := by omega
                  go_wp2_with fail
                  refine (HPlace.out a _ ha64).mono ?_
                  rintro e w' ⟨rfl, rfl⟩
                  go_wp2
                  go_ret3
                  rw [HRe.out]
                  rw [Nat.min_eq_left (by omega)]
                  exact .inr ⟨(by decide : (4 : Nat) ≠ 0), rfl, HG7.out⟩
                · rw [if_neg hs] at HRe
                  have e2 : decide ((x6 : Int) < 20) = false := decide_eq_false (by omega)
                  have e3 : ¬ (x6 : Int) < 20 := by omega
                  obtain ⟨a2, ha2⟩ : ∃ a2, a2 = a + x6 := ⟨_, rfl⟩
                  have zp : IntKind.u64.wrap ((a : Int) + (x6 : Int)) = (a2 : Int) := by rw [IntKind.wrap_u64]; omega
                  rw [← ha2] at HRe
                  have ha264 : a2 < 18446744073709551616 := by omega
                  have hdd : 1 ≤ d ∧ n < a2 + d ∧ m + 1 + d = n + 1 := by omega
                  clear ha2
                  go_wp2
                  go_roundw
                  case rel => exact ⟨d, a2, T ++ [(a, T2)], _, m + 1, A6, c6, by trivial, by trivial, by rw [List.length_append, ← HM.out]; rfl, hdd.1, hdd.2.1, hdd.2.2, ha264, by rw [HRe.out]; simp, HO7.out, HT7.out, HG7.out⟩
                  case measure => simp only [vLen]; omega
        · have hwf : (decide (x0 = 1) && decide (x3 ≠ 0) && decide (20 ≤ x5)) = false := by
            rw [Bool.eq_false_iff]
            intro hh
            rw [Bool.and_eq_true, Bool.and_eq_true, decide_eq_true_eq, decide_eq_true_eq, decide_eq_true_eq] at hh
            exact hgood ⟨hh.1.1, hh.1.2, hh.2⟩
          rw [hwf, if_pos rfl] at HRe
          clear hwf
          by_cases hc0 : x0 = 1
          · have e0 : ((x0 : Int) != 1) = false := by simp; omega
            by_cases hc1 : x3 = 0
            · have e1 : ((x3 : Int) == 0) = true := by simp; omega
              clear hgood hc0 hc1
              go_wp2_with fail
              refine (HPlace.out a _ ha64).mono ?_
              rintro e w' ⟨rfl, rfl⟩
              go_wp2
              go_ret3
              rw [HRe.out]
              rw [Nat.min_eq_left (by omega)]
              exact .inr ⟨(by decide : (4 : Nat) ≠ 0), rfl, HG2.out⟩
            · have e1 : ((x3 : Int) == 0) = false := by simp; omega
              have e2 : decide ((x5 : Int) < 20) = true := decide_eq_true (by omega)
              have e3 : (x5 : Int) < 20 := by omega
              clear hgood hc0 hc1
              go_wp2_with fail
              refine (HPlace.out a _ ha64).mono ?_
              rintro e w' ⟨rfl, rfl⟩
              go_wp2
              go_ret3
              rw [HRe.out]
              rw [Nat.min_eq_left (by omega)]
              exact .inr ⟨(by decide : (4 : Nat) ≠ 0), rfl, HG2.out⟩
          · have e0 : ((x0 : Int) != 1) = true := by simp; omega
            clear hgood hc0
            go_wp2_with fail
            refine (HPlace.out a _ ha64).mono ?_
            rintro e w' ⟨rfl, rfl⟩
            go_wp2
            go_ret3
            rw [HRe.out]
            rw [Nat.min_eq_left (by omega)]
            exact .inr ⟨(by decide : (4 : Nat) ≠ 0), rfl, HG2.out⟩
      · have hsum : sumN [2, 2, 2, 2, 4, 4, 4] = 20 := rfl
        rw [hsum] at hout
        rw [if_pos (by omega)] at HRe
        have HG2 : Hid (Grow w w2) := HG1.out.trans hg2
        go_wp2_with fail
        refine (HPlace.out a _ ha64).mono ?_
        rintro e w' ⟨rfl, rfl⟩
        go_wp2
        go_ret3
        rw [HRe.out]
        exact .inr ⟨(by decide : (2 : Nat) ≠ 0), rfl, HG2.out⟩
end Go.Proofs.Ytfnaigeakfgpbaa
