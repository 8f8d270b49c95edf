/-
  The contract of the document's own PutDefs: their bytes, or that they may not be.
-/
import Derived.Test.YtfnaigeakfgpbaaVePutMath
import Derived.Test.YtfnaigeakfgpbaaVeWell
import Derived.Test.YtfnaigeakfgpbaaRefRow
import Derived.Test.YtfnaigeakfgpbaaLists
import Derived.Test.YtfnaigeakfgpbaaCut
import Derived.Test.YtfnaigeakfgpbaaFork3
namespace Go.Proofs.Ytfnaigeakfgpbaa
open Go.RowKit

theorem rowedD1 (h0 h1 h2 n1 nv : Nat) (b0 : h0 < 65536) (b1 : h1 < 65536) (b2 : h2 < 4294967296) (hn : n1 < 4294967296) (hv : nv < 4294967296) : Rowed [(1, 2), (h0, 2), (h1, 2), (n1, 2), (h2, 4), (20, 4), (nv, 4)] := by
  refine ⟨by show 7 ≤ 100; decide, fun k hk => ?_, fun k hk => ?_⟩
  · match k, hk with
    | 0, _ => rfl
    | 1, _ => rfl
    | 2, _ => rfl
    | 3, _ => rfl
    | 4, _ => rfl
    | 5, _ => rfl
    | 6, _ => rfl
  · match k, hk with
    | 0, _ => (show 1 < 18446744073709551616; omega)
    | 1, _ => (show h0 < 18446744073709551616; omega)
    | 2, _ => (show h1 < 18446744073709551616; omega)
    | 3, _ => (show n1 < 18446744073709551616; omega)
    | 4, _ => (show h2 < 18446744073709551616; omega)
    | 5, _ => (show 20 < 18446744073709551616; omega)
    | 6, _ => (show nv < 18446744073709551616; omega)
theorem rowedD2 (vk nv2 : Nat) (k0 : vk < 4294967296) (hv : nv2 < 4294967296) : Rowed [(vk, 4), (nv2, 4)] := by
  refine ⟨by show 2 ≤ 100; decide, fun k hk => ?_, fun k hk => ?_⟩
  · match k, hk with
    | 0, _ => rfl
    | 1, _ => rfl
  · match k, hk with
    | 0, _ => (show vk < 18446744073709551616; omega)
    | 1, _ => (show nv2 < 18446744073709551616; omega)

set_option maxRecDepth 100000 in
set_option maxHeartbeats 4000000 in
theorem rputD_any (A : Option Addr) (n c : Nat) (L : List Ve) (hok : ∀ e ∈ L, e.Ok vkD) (big : Bool) (hb : (vsB vkD big L).length ≤ 100000) (hn1000 : n ≤ 100000) (w : World) (h : ZV vmD w w.heap.size A n c L) :
    Calls Try.prog 8 #[.slice A n c, .bool big] w (RPut vmD L big w) := by
  have hn := h.len
  have hcp := h.cap
  have hmx := h.max
  unfold maxLen at hmx
  obtain ⟨R, hs, hk⟩ := eachD big h hok hb
  have HS := Lib.hid hs
  have HK := Lib.hid hk
  have HNl := Lib.hid hn
  have HP0 : Hid (vsP vkD big L 0 = []) := Lib.hid rfl
  have HPn : Hid (vsP vkD big L n = vsB vkD big L) := Lib.hid (by rw [hn]; rfl)
  unfold RPut
  rw [show vmD.K = vkD from rfl]
  generalize vsP vkD big L = P at HK HP0 HPn
  generalize vsB vkD big L = PL at HPn hb ⊢
  clear hs hk h hok hn
  go_enter Try.func8, Try.ntmps8
  go_wp2_with fail
  go_loopw [6, 7] (fun x i wr => ∃ (k : Nat) (A2 : Option Addr) (m c2 : Nat), k ≤ n ∧ i = .int .i64 k ∧ x = .slice A2 m c2 ∧ m = (P k).length ∧ OB wr w.heap.size 5 A2 m c2 (P k) ∧ Hid (∀ j (hj : j < L.length), j < k → L[j].May = true) ∧ Grow w wr) (fun _ i _ => n - (intOf i).toNat)
  case atStart => exact ⟨0, none, 0, 0, Nat.zero_le _, rfl, rfl, by rw [HP0.out]; rfl, by rw [HP0.out]; exact OB.nil, Lib.hid fun j _ hj => absurd hj (by omega), Grow.refl _⟩
  case round =>
    obtain ⟨i, A2, m, c2, hi, rfl, rfl, hm, ho, HMy, hg⟩ := hrel
    have HM := Lib.hid hm
    have HO := Lib.hid ho
    have HG := Lib.hid hg
    clear ho hg hm
    by_cases hlt : i < n
    · obtain ⟨b, off, rfl, hbB, hcs⟩ := HS.out.pos (by omega)
      obtain ⟨h0, h1, h2, A1, n1, c1, v, Q, E, hmay⟩ := HK.out i hlt
      have HE := Lib.hid E
      have HMay := Lib.hid hmay
      have hrow := E.row E.ir
      have HCells : Hid (∀ W, Grow w W → W.cell? ⟨b, off + i * 4, none⟩ = some (.int .u16 (h0 : Int)) ∧ W.cell? ⟨b, off + i * 4 + 1, none⟩ = some (.int .u16 (h1 : Int)) ∧ W.cell? ⟨b, off + i * 4 + 2, none⟩ = some (.int .u32 (h2 : Int)) ∧ W.cell? ⟨b, off + i * 4 + 3, none⟩ = some (.slice A1 n1 c1)) := Lib.hid fun W hW => by
        have key : ∀ j v, (#[.int .u16 (h0 : Int), .int .u16 (h1 : Int), .int .u32 (h2 : Int), .slice A1 n1 c1] : Array Value)[j]? = some v → W.cell? ⟨b, off + i * 4 + j, none⟩ = some v := fun j v hv => by
          rw [hW.cell hbB]
          exact hcs i E.ir j v (by rw [hrow]; exact hv)
        exact ⟨key 0 _ rfl, key 1 _ rfl, key 2 _ rfl, key 3 _ rfl⟩
      have b0 := E.b0
      have b1 := E.b1
      have b2 := E.b2
      have hsz := E.size
      have hcap1 := E.cap
      have hmax1 := E.max
      unfold maxLen at hmax1
      clear E hmay hcs hrow
      have z0 : (0 : Int) ≤ (i : Int) := by omega
      have z1 : (i : Int) < (n : Int) := by omega
      obtain ⟨y0, y1, y2, y3⟩ := HCells.out _ HG.out
      by_cases hmy : (decide (1 ≤ n1) && decide (n1 ≤ 65535)) = true
      · have hn65 : 1 ≤ n1 ∧ n1 ≤ 65535 := by
          rw [Bool.and_eq_true, decide_eq_true_eq, decide_eq_true_eq] at hmy
          exact hmy
        have d1 : decide ((n1 : Int) < 1) = false := decide_eq_false (by omega)
        have d2 : decide ((65535 : Int) < (n1 : Int)) = false := decide_eq_false (by omega)
        go_wp2_with fail
        clear y0 y1 y2 y3
        obtain ⟨m8, hm8⟩ : ∃ q, q = 8 * n1 := ⟨_, rfl⟩
        obtain ⟨offv, hoff⟩ : ∃ q, q = 20 + m8 := ⟨_, rfl⟩
        have HSc := Lib.hid HE.out.succ
        rw [← hm8, ← hoff] at HSc
        have zm : IntKind.i64.wrap (8 * (n1 : Int)) = (m8 : Int) := by rw [IntKind.wrap_i64]; omega
        have za : IntKind.i64.wrap (20 + (m8 : Int)) = (offv : Int) := by rw [IntKind.wrap_i64]; omega
        have zuh0 : IntKind.u64.wrap (h0 : Int) = (h0 : Int) := by rw [IntKind.wrap_u64]; omega
        have zuh1 : IntKind.u64.wrap (h1 : Int) = (h1 : Int) := by rw [IntKind.wrap_u64]; omega
        have zuh2 : IntKind.u64.wrap (h2 : Int) = (h2 : Int) := by rw [IntKind.wrap_u64]; omega
        have zn : IntKind.u64.wrap (n1 : Int) = (n1 : Int) := by rw [IntKind.wrap_u64]; omega
        have HNx := Lib.hid fun w => step_any i n offv w hlt (by omega) (by omega)
        have hnv : nx i n offv < 4294967296 := by unfold nx; split <;> omega
        generalize nx i n offv = nv at HSc HNx hnv
        clear hm8 hoff
        have HRy := Lib.hid (rowedD1 h0 h1 h2 n1 nv b0 b1 b2 (by omega) hnv)
        have HFs : Hid (∀ (W : World) (g : Nat), Blk W g 62 #[.int .u64 1, .int .u64 (h0 : Int), .int .u64 (h1 : Int), .int .u64 (n1 : Int), .int .u64 (h2 : Int), .int .u64 20, .int .u64 (nv : Int)] → NS W W.heap.size .u64 (some ⟨g, 0, none⟩) 7 7 ([(1, 2), (h0, 2), (h1, 2), (n1, 2), (h2, 4), (20, 4), (nv, 4)].map (·.1))) := Lib.hid fun W g hb => NS.of_blkN hb rfl (by decide) hb.lt rfl
        have HSn : Hid (∀ (W : World) (g : Nat), Blk W g 3 #[.int .i64 2, .int .i64 2, .int .i64 2, .int .i64 2, .int .i64 4, .int .i64 4, .int .i64 4] → NS W W.heap.size .i64 (some ⟨g, 0, none⟩) 7 7 ([(1, 2), (h0, 2), (h1, 2), (n1, 2), (h2, 4), (20, 4), (nv, 4)].map (·.2))) := Lib.hid fun W g hb => NS.of_blkN hb rfl (by decide) hb.lt rfl
        have HQl : Hid ((rowB big [(1, 2), (h0, 2), (h1, 2), (n1, 2), (h2, 4), (20, 4), (nv, 4)]).length = 20) := Lib.hid (by rw [length_rowB]; rfl)
        have HQH : Hid (rowB big [(1, 2), (h0, 2), (h1, 2), (n1, 2), (h2, 4), (20, 4), (nv, 4)] = (rowB big (evs 2 [1, h0, h1, n1]) ++ rowB big (evs 4 [h2, 20, nv]))) := Lib.hid (by rw [← rowB_append]; rfl)
        generalize ([(1, 2), (h0, 2), (h1, 2), (n1, 2), (h2, 4), (20, 4), (nv, 4)] : List (Nat × Nat)) = q at HRy HFs HSn HQl HQH
        have hgr0 := HG.out
        refine wp_cut (fun a a' w' => ∃ A9 c9, a' = ⟨(a.tmps.toList.take 9 ++ (a'.tmps.toList.drop 9).take 57 ++ a.tmps.toList.drop 66).toArray, a.defers⟩ ∧ ((a'.tmps.toList.drop 9).take 57).length = 57 ∧ ((a'.tmps.toList.drop 9).take 57).head? = some (.slice A9 20 c9) ∧ RB w' w'.heap.size A9 20 c9 (rowB big q) ∧ Grow wr w') ?_ ?_
        · refine wp_region_tq leap_grow (.chain [(0, true), (1, true), (2, true), (3, true), (4, true), (5, true), (6, true), (7, true), (8, true), (9, true), (10, true), (11, true), (12, true), (13, true), (14, true), (15, true), (16, true), (17, true), (18, true), (19, true), (20, true), (21, true), (22, true), (23, true), (24, true), (25, true), (29, true)] (.both 26 (.both 27 (.chain [(28, false), (30, false), (31, true), (32, true), (33, true), (34, true), (35, true)] .done) 28 (.chain [(27, false), (30, false), (31, true), (32, true), (33, true), (34, true), (35, true)] .done)) 28 (.chain [(26, false), (27, false), (30, false), (31, true), (32, true), (33, true), (34, true), (35, true)] .done))) (by kernel_rfl) (by kernel_rfl) (by kernel_rfl) ?_
          refine tq_chain ?_
          have HX : Hid (∀ W, Grow wr.drew W → _ ∧ _ ∧ _ ∧ _) := fun W hW => HCells.out W ((hgr0.trans (Grow.of_drew _)).trans hW)
          have HG1 : Hid (Grow wr wr.drew) := Lib.hid (Grow.of_drew _)
          generalize wr.drew = v1 at HX HG1 ⊢
          clear HE HMy HMay HM HNl hsz hcap1 hmax1 hb HP0 HPn HSc
          repeat (refine chain_take rfl (by rfl) ?_ (fun W hG => ?_) ?_; rotate_left; (obtain ⟨q0, q1, q2, q3⟩ := HX.out W hG; go_simp; rfl); simp only [Act.put, List.setIfInBounds_toArray, List.set_cons_zero, List.set_cons_succ])
          clear HX
          refine chain_done (tq_both (step_op rfl (by rfl) (fun K hK => ?_)) (step_op rfl (by rfl) (fun K hK => ?_)))
          · go_simp
            refine (HNx.out _).mono ?_
            rintro e w' ⟨rfl, rfl⟩
            refine hK _ _ (Grow.refl _) ?_
            clear hK K
            refine tq_both (step_op rfl (by rfl) (fun K hK => ?_)) (step_op rfl (by rfl) (fun K hK => ?_))
            · go_simp
              refine hK _ _ (Grow.of_alloc _ _) ?_
              clear hK K
              have HV2 := Lib.hid (Blk.new v1 62 #[.int .u64 1, .int .u64 (h0 : Int), .int .u64 (h1 : Int), .int .u64 (n1 : Int), .int .u64 (h2 : Int), .int .u64 20, .int .u64 (nv : Int)])
              have HG2 : Hid (Grow wr (v1.alloc (.cells #[.int .u64 1, .int .u64 (h0 : Int), .int .u64 (h1 : Int), .int .u64 (n1 : Int), .int .u64 (h2 : Int), .int .u64 20, .int .u64 (nv : Int)] 62))) := HG1.out.trans (Grow.of_alloc _ _)
              generalize v1.alloc _ = v2 at HV2 HG2 ⊢
              generalize v1.heap.size = gV at HV2 ⊢
              clear HG1
              refine tq_chain ?_
              refine chain_only rfl (by rfl) (fun K hK => ?_)
              go_simp
              refine hK _ _ (Grow.of_alloc _ _) ?_
              clear hK K
              have HW3 := Lib.hid (Blk.new v2 3 #[.int .i64 2, .int .i64 2, .int .i64 2, .int .i64 2, .int .i64 4, .int .i64 4, .int .i64 4])
              have HG3 : Hid (Grow wr (v2.alloc (.cells #[.int .i64 2, .int .i64 2, .int .i64 2, .int .i64 2, .int .i64 4, .int .i64 4, .int .i64 4] 3))) := HG2.out.trans (Grow.of_alloc _ _)
              have HV3 := Lib.hid (HV2.out.alloc (.cells #[.int .i64 2, .int .i64 2, .int .i64 2, .int .i64 2, .int .i64 4, .int .i64 4, .int .i64 4] 3))
              generalize v2.alloc _ = v3 at HW3 HG3 HV3 ⊢
              generalize v2.heap.size = gW at HW3 ⊢
              clear HG2 HV2
              refine chain_only rfl (by rfl) (fun K hK => ?_)
              go_simp
              refine (row_any q HRy.out _ 7 7 _ 7 7 big _ (HFs.out _ _ HV3.out) (HSn.out _ _ HW3.out)).mono ?_
              rintro e v9 ⟨A5, c5, rfl, ho9, hg9⟩
              refine hK _ _ hg9 ?_
              clear hK K
              have hrb := ho9.rb
              have hgr := HG3.out.trans hg9
              rw [HQl.out] at hrb
              rw [HQl.out]
              clear ho9 hg9
              repeat (refine chain_take rfl (by rfl) ?_ (fun W hG => ?_) ?_; rotate_left; (go_simp; rfl); simp only [Act.put, List.setIfInBounds_toArray, List.set_cons_zero, List.set_cons_succ])
              refine chain_done (tq_done ?_)
              exact ⟨rfl, A5, c5, rfl, rfl, rfl, hrb, hgr⟩
            · go_simp
              refine hK _ _ (Grow.of_alloc _ _) ?_
              clear hK K
              have HW2 := Lib.hid (Blk.new v1 3 #[.int .i64 2, .int .i64 2, .int .i64 2, .int .i64 2, .int .i64 4, .int .i64 4, .int .i64 4])
              have HG2 : Hid (Grow wr (v1.alloc (.cells #[.int .i64 2, .int .i64 2, .int .i64 2, .int .i64 2, .int .i64 4, .int .i64 4, .int .i64 4] 3))) := HG1.out.trans (Grow.of_alloc _ _)
              generalize v1.alloc _ = v2 at HW2 HG2 ⊢
              generalize v1.heap.size = gW at HW2 ⊢
              clear HG1
              refine tq_chain ?_
              refine chain_only rfl (by rfl) (fun K hK => ?_)
              go_simp
              refine hK _ _ (Grow.of_alloc _ _) ?_
              clear hK K
              have HV3 := Lib.hid (Blk.new v2 62 #[.int .u64 1, .int .u64 (h0 : Int), .int .u64 (h1 : Int), .int .u64 (n1 : Int), .int .u64 (h2 : Int), .int .u64 20, .int .u64 (nv : Int)])
              have HG3 : Hid (Grow wr (v2.alloc (.cells #[.int .u64 1, .int .u64 (h0 : Int), .int .u64 (h1 : Int), .int .u64 (n1 : Int), .int .u64 (h2 : Int), .int .u64 20, .int .u64 (nv : Int)] 62))) := HG2.out.trans (Grow.of_alloc _ _)
              have HW3 := Lib.hid (HW2.out.alloc (.cells #[.int .u64 1, .int .u64 (h0 : Int), .int .u64 (h1 : Int), .int .u64 (n1 : Int), .int .u64 (h2 : Int), .int .u64 20, .int .u64 (nv : Int)] 62))
              generalize v2.alloc _ = v3 at HV3 HG3 HW3 ⊢
              generalize v2.heap.size = gV at HV3 ⊢
              clear HG2 HW2
              refine chain_only rfl (by rfl) (fun K hK => ?_)
              go_simp
              refine (row_any q HRy.out _ 7 7 _ 7 7 big _ (HFs.out _ _ HV3.out) (HSn.out _ _ HW3.out)).mono ?_
              rintro e v9 ⟨A5, c5, rfl, ho9, hg9⟩
              refine hK _ _ hg9 ?_
              clear hK K
              have hrb := ho9.rb
              have hgr := HG3.out.trans hg9
              rw [HQl.out] at hrb
              rw [HQl.out]
              clear ho9 hg9
              repeat (refine chain_take rfl (by rfl) ?_ (fun W hG => ?_) ?_; rotate_left; (go_simp; rfl); simp only [Act.put, List.setIfInBounds_toArray, List.set_cons_zero, List.set_cons_succ])
              refine chain_done (tq_done ?_)
              exact ⟨rfl, A5, c5, rfl, rfl, rfl, hrb, hgr⟩
          · go_simp
            refine hK _ _ (Grow.of_alloc _ _) ?_
            clear hK K
            have HW2 := Lib.hid (Blk.new v1 3 #[.int .i64 2, .int .i64 2, .int .i64 2, .int .i64 2, .int .i64 4, .int .i64 4, .int .i64 4])
            have HG2 : Hid (Grow wr (v1.alloc (.cells #[.int .i64 2, .int .i64 2, .int .i64 2, .int .i64 2, .int .i64 4, .int .i64 4, .int .i64 4] 3))) := HG1.out.trans (Grow.of_alloc _ _)
            generalize v1.alloc _ = v2 at HW2 HG2 ⊢
            generalize v1.heap.size = gW at HW2 ⊢
            clear HG1
            refine tq_chain ?_
            refine chain_only rfl (by rfl) (fun K hK => ?_)
            go_simp
            refine (HNx.out _).mono ?_
            rintro e w' ⟨rfl, rfl⟩
            refine hK _ _ (Grow.refl _) ?_
            clear hK K
            refine chain_only rfl (by rfl) (fun K hK => ?_)
            go_simp
            refine hK _ _ (Grow.of_alloc _ _) ?_
            clear hK K
            have HV3 := Lib.hid (Blk.new v2 62 #[.int .u64 1, .int .u64 (h0 : Int), .int .u64 (h1 : Int), .int .u64 (n1 : Int), .int .u64 (h2 : Int), .int .u64 20, .int .u64 (nv : Int)])
            have HG3 : Hid (Grow wr (v2.alloc (.cells #[.int .u64 1, .int .u64 (h0 : Int), .int .u64 (h1 : Int), .int .u64 (n1 : Int), .int .u64 (h2 : Int), .int .u64 20, .int .u64 (nv : Int)] 62))) := HG2.out.trans (Grow.of_alloc _ _)
            have HW3 := Lib.hid (HW2.out.alloc (.cells #[.int .u64 1, .int .u64 (h0 : Int), .int .u64 (h1 : Int), .int .u64 (n1 : Int), .int .u64 (h2 : Int), .int .u64 20, .int .u64 (nv : Int)] 62))
            generalize v2.alloc _ = v3 at HV3 HG3 HW3 ⊢
            generalize v2.heap.size = gV at HV3 ⊢
            clear HG2 HW2
            refine chain_only rfl (by rfl) (fun K hK => ?_)
            go_simp
            refine (row_any q HRy.out _ 7 7 _ 7 7 big _ (HFs.out _ _ HV3.out) (HSn.out _ _ HW3.out)).mono ?_
            rintro e v9 ⟨A5, c5, rfl, ho9, hg9⟩
            refine hK _ _ hg9 ?_
            clear hK K
            have hrb := ho9.rb
            have hgr := HG3.out.trans hg9
            rw [HQl.out] at hrb
            rw [HQl.out]
            clear ho9 hg9
            repeat (refine chain_take rfl (by rfl) ?_ (fun W hG => ?_) ?_; rotate_left; (go_simp; rfl); simp only [Act.put, List.setIfInBounds_toArray, List.set_cons_zero, List.set_cons_succ])
            refine chain_done (tq_done ?_)
            exact ⟨rfl, A5, c5, rfl, rfl, rfl, hrb, hgr⟩
        · clear HRy HFs HSn HNx zm za zuh0 zuh1 zuh2 zn
          rintro a' w1 ⟨A9, c9, ha, hl, hh, hrb, hgr⟩
          generalize (a'.tmps.toList.drop 9).take 57 = vs at ha hl hh
          obtain ⟨u0, u1, u2, u3, u4, u5, u6, u7, u8, u9, u10, u11, u12, u13, u14, u15, u16, u17, u18, u19, u20, u21, u22, u23, u24, u25, u26, u27, u28, u29, u30, u31, u32, u33, u34, u35, u36, u37, u38, u39, u40, u41, u42, u43, u44, u45, u46, u47, u48, u49, u50, u51, u52, u53, u54, u55, u56, rfl⟩ := list57 hl
          obtain rfl : u0 = _ := Option.some.inj hh
          subst ha
          clear hl hh
          rename_i K hK
          apply hK
          clear hK K
          simp only [List.take_succ_cons, List.take_zero, List.drop_succ_cons, List.drop_zero, List.cons_append, List.nil_append]
          rw [HQH.out] at hrb
          have HO1 := Lib.hid (HO.out.keep hgr)
          have HR1 := Lib.hid hrb
          have HG1 : Hid (Grow w w1) := hgr0.trans hgr
          clear hrb hgr HO HG hgr0 HQH HQl
          generalize hHd : (rowB big (evs 2 [1, h0, h1, n1]) ++ rowB big (evs 4 [h2, 20, nv])) = Hd at HR1 HSc
          have HHl : Hid (Hd.length = 20) := Lib.hid (by rw [← hHd, ← rowB_append, length_rowB]; rfl)
          clear hHd
          have hm6 : m ≤ 100000 := by have := HM.out; omega
          go_wp2_with (at_builtin; refine wpList_appendB w1 rfl (.tmp 66) (.tmp 67) 24 rfl w.heap.size 5 Try.underlying24 (by kernel_rfl) A2 m c2 _ rfl HO1.out w1.heap.size A9 20 c9 _ rfl HR1.out (by omega) HG1.out.size ?_; intro A5 c5 w5 ho5 hb5; refine Hid.out ?_)
          have HO5 := Lib.hid ho5
          have HG5 : Hid (Grow w w5) := HG1.out.trans' hb5
          clear ho5 hb5 HO1 HR1 HG1
          have HSc2 : Hid (P (i + 1) = (P i ++ Hd) ++ Q n1) := Lib.hid (by rw [HSc.out]; simp only [List.append_assoc])
          have HL2 : Hid ((P i ++ Hd).length = m + 20) := Lib.hid (by rw [List.length_append, HHl.out, HM.out])
          generalize P i ++ Hd = P8 at HO5 HSc2 HL2
          clear HSc HHl
          refine Lib.hid ?_
          go_wp2_with fail
          go_loopw [6, 11] (fun x j wr => ∃ (k : Nat) (A2 : Option Addr) (m2 c2 : Nat), k ≤ n1 ∧ j = .int .i64 k ∧ x = .slice A2 m2 c2 ∧ m2 = m + 20 + k * 8 ∧ OB wr w.heap.size 5 A2 m2 c2 (P8 ++ Q k) ∧ Grow w wr) (fun _ j _ => n1 - (intOf j).toNat)
          case atStart => exact ⟨0, A5, m + 20, c5, Nat.zero_le _, rfl, rfl, by omega, by rw [HE.out.q0, List.append_nil]; exact HO5.out, HG5.out⟩
          case round =>
            obtain ⟨k, A8, m9, c8, hk, rfl, rfl, hm9, ho, hg⟩ := hrel
            have HO9 := Lib.hid ho
            have HG9 := Lib.hid hg
            have HM9 := Lib.hid hm9
            clear ho hg HO5 HG5 hm9
            by_cases hkn : k < n1
            · obtain ⟨b2, o2, hA1, hbB2, hcs⟩ := HE.out.cells (by omega)
              subst hA1
              obtain ⟨hcell, k0⟩ := hcs k hkn
              have q0 := (HG9.out.cell hbB2).trans hcell
              have HQs := Lib.hid (HE.out.qs k)
              have HNx := Lib.hid fun w => step_any k n1 8 w hkn (by omega) (by omega)
              have hnv2 : nx k n1 8 < 4294967296 := by unfold nx; split <;> omega
              generalize nx k n1 8 = nv2 at HQs HNx hnv2
              generalize v k = vk at hcell q0 HQs k0
              have zk : IntKind.u64.wrap (vk : Int) = (vk : Int) := by rw [IntKind.wrap_u64]; omega
              have z2 : (0 : Int) ≤ (k : Int) := by omega
              have z3 : (k : Int) < (n1 : Int) := by omega
              have hm9 : m9 ≤ 300000 := by have := HM9.out; omega
              have HCell := Lib.hid hcell
              have HbB2 := Lib.hid hbB2
              clear hcs q0 hcell hbB2
              have HRy := Lib.hid (rowedD2 vk nv2 k0 hnv2)
              have HFs : Hid (∀ (W : World) (g : Nat), Blk W g 62 #[.int .u64 (vk : Int), .int .u64 (nv2 : Int)] → NS W W.heap.size .u64 (some ⟨g, 0, none⟩) 2 2 ([(vk, 4), (nv2, 4)].map (·.1))) := Lib.hid fun W g hb => NS.of_blkN hb rfl (by decide) hb.lt rfl
              have HSn : Hid (∀ (W : World) (g : Nat), Blk W g 3 #[.int .i64 4, .int .i64 4] → NS W W.heap.size .i64 (some ⟨g, 0, none⟩) 2 2 ([(vk, 4), (nv2, 4)].map (·.2))) := Lib.hid fun W g hb => NS.of_blkN hb rfl (by decide) hb.lt rfl
              have HQl : Hid ((rowB big [(vk, 4), (nv2, 4)]).length = 8) := Lib.hid (by rw [length_rowB]; rfl)
              have HQH : Hid (rowB big [(vk, 4), (nv2, 4)] = rowB big (evs 4 [vk, nv2])) := Lib.hid (by rfl)
              generalize ([(vk, 4), (nv2, 4)] : List (Nat × Nat)) = q at HRy HFs HSn HQl HQH
              go_wp2_with fail
              have hgr9 := HG9.out
              refine wp_cut (fun a a' w' => ∃ A9 c9, a' = ⟨(a.tmps.toList.take 12 ++ (a'.tmps.toList.drop 12).take 2 ++ (a.tmps.toList.drop 14).take 60 ++ (a'.tmps.toList.drop 74).take 19 ++ a.tmps.toList.drop 93).toArray, a.defers⟩ ∧ ((a'.tmps.toList.drop 74).take 19).length = 19 ∧ ((a'.tmps.toList.drop 12).take 2).length = 2 ∧ ((a'.tmps.toList.drop 12).take 2).head? = some (.slice A9 8 c9) ∧ RB w' w'.heap.size A9 8 c9 (rowB big q) ∧ Grow wr w') ?_ ?_
              · refine wp_region_tq leap_grow (.chain [(0, true), (1, true), (2, true), (3, true), (4, true), (5, true), (6, true), (7, true), (8, true), (9, true), (10, true), (14, true)] (.both 11 (.both 12 (.chain [(13, false), (15, false), (16, true), (17, true), (18, true), (19, true), (20, true)] .done) 13 (.chain [(12, false), (15, false), (16, true), (17, true), (18, true), (19, true), (20, true)] .done)) 13 (.chain [(11, false), (12, false), (15, false), (16, true), (17, true), (18, true), (19, true), (20, true)] .done))) (by kernel_rfl) (by kernel_rfl) (by kernel_rfl) ?_
                refine tq_chain ?_
                have HX : Hid (∀ W, Grow wr.drew W → _ ∧ (W.cell? ⟨b, off + i * 4, none⟩ = some (.int .u16 (h0 : Int)) ∧ W.cell? ⟨b, off + i * 4 + 1, none⟩ = some (.int .u16 (h1 : Int)) ∧ W.cell? ⟨b, off + i * 4 + 2, none⟩ = some (.int .u32 (h2 : Int)) ∧ W.cell? ⟨b, off + i * 4 + 3, none⟩ = some (.slice (some ⟨b2, o2, none⟩) n1 c1))) := fun W hW => ⟨(((hgr9.trans (Grow.of_drew _)).trans hW).cell HbB2.out).trans HCell.out, HCells.out W ((hgr9.trans (Grow.of_drew _)).trans hW)⟩
                have HG1 : Hid (Grow wr wr.drew) := Lib.hid (Grow.of_drew _)
                generalize wr.drew = v1 at HX HG1 ⊢
                clear HE HMy HMay HM HM9 HNl hsz hcap1 hmax1 hb HP0 HPn HSc2 HL2 HCell HbB2 HCells
                repeat (refine chain_take rfl (by rfl) ?_ (fun W hG => ?_) ?_; rotate_left; (obtain ⟨q4, q0, q1, q2, q3⟩ := HX.out W hG; go_simp; rfl); simp only [Act.put, List.setIfInBounds_toArray, List.set_cons_zero, List.set_cons_succ])
                clear HX
                refine chain_done (tq_both (step_op rfl (by rfl) (fun K hK => ?_)) (step_op rfl (by rfl) (fun K hK => ?_)))
                · go_simp
                  refine (HNx.out _).mono ?_
                  rintro e w' ⟨rfl, rfl⟩
                  refine hK _ _ (Grow.refl _) ?_
                  clear hK K
                  refine tq_both (step_op rfl (by rfl) (fun K hK => ?_)) (step_op rfl (by rfl) (fun K hK => ?_))
                  · go_simp
                    refine hK _ _ (Grow.of_alloc _ _) ?_
                    clear hK K
                    have HV2 := Lib.hid (Blk.new v1 62 #[.int .u64 (vk : Int), .int .u64 (nv2 : Int)])
                    have HG2 : Hid (Grow wr (v1.alloc (.cells #[.int .u64 (vk : Int), .int .u64 (nv2 : Int)] 62))) := HG1.out.trans (Grow.of_alloc _ _)
                    generalize v1.alloc _ = v2 at HV2 HG2 ⊢
                    generalize v1.heap.size = gV at HV2 ⊢
                    clear HG1
                    refine tq_chain ?_
                    refine chain_only rfl (by rfl) (fun K hK => ?_)
                    go_simp
                    refine hK _ _ (Grow.of_alloc _ _) ?_
                    clear hK K
                    have HW3 := Lib.hid (Blk.new v2 3 #[.int .i64 4, .int .i64 4])
                    have HG3 : Hid (Grow wr (v2.alloc (.cells #[.int .i64 4, .int .i64 4] 3))) := HG2.out.trans (Grow.of_alloc _ _)
                    have HV3 := Lib.hid (HV2.out.alloc (.cells #[.int .i64 4, .int .i64 4] 3))
                    generalize v2.alloc _ = v3 at HW3 HG3 HV3 ⊢
                    generalize v2.heap.size = gW at HW3 ⊢
                    clear HG2 HV2
                    refine chain_only rfl (by rfl) (fun K hK => ?_)
                    go_simp
                    refine (row_any q HRy.out _ 2 2 _ 2 2 big _ (HFs.out _ _ HV3.out) (HSn.out _ _ HW3.out)).mono ?_
                    rintro e v9 ⟨A5, c5, rfl, ho9, hg9⟩
                    refine hK _ _ hg9 ?_
                    clear hK K
                    have hrb := ho9.rb
                    have hgr := HG3.out.trans hg9
                    rw [HQl.out] at hrb
                    rw [HQl.out]
                    clear ho9 hg9
                    repeat (refine chain_take rfl (by rfl) ?_ (fun W hG => ?_) ?_; rotate_left; (go_simp; rfl); simp only [Act.put, List.setIfInBounds_toArray, List.set_cons_zero, List.set_cons_succ])
                    refine chain_done (tq_done ?_)
                    exact ⟨rfl, A5, c5, rfl, rfl, rfl, rfl, hrb, hgr⟩
                  · go_simp
                    refine hK _ _ (Grow.of_alloc _ _) ?_
                    clear hK K
                    have HW2 := Lib.hid (Blk.new v1 3 #[.int .i64 4, .int .i64 4])
                    have HG2 : Hid (Grow wr (v1.alloc (.cells #[.int .i64 4, .int .i64 4] 3))) := HG1.out.trans (Grow.of_alloc _ _)
                    generalize v1.alloc _ = v2 at HW2 HG2 ⊢
                    generalize v1.heap.size = gW at HW2 ⊢
                    clear HG1
                    refine tq_chain ?_
                    refine chain_only rfl (by rfl) (fun K hK => ?_)
                    go_simp
                    refine hK _ _ (Grow.of_alloc _ _) ?_
                    clear hK K
                    have HV3 := Lib.hid (Blk.new v2 62 #[.int .u64 (vk : Int), .int .u64 (nv2 : Int)])
                    have HG3 : Hid (Grow wr (v2.alloc (.cells #[.int .u64 (vk : Int), .int .u64 (nv2 : Int)] 62))) := HG2.out.trans (Grow.of_alloc _ _)
                    have HW3 := Lib.hid (HW2.out.alloc (.cells #[.int .u64 (vk : Int), .int .u64 (nv2 : Int)] 62))
                    generalize v2.alloc _ = v3 at HV3 HG3 HW3 ⊢
                    generalize v2.heap.size = gV at HV3 ⊢
                    clear HG2 HW2
                    refine chain_only rfl (by rfl) (fun K hK => ?_)
                    go_simp
                    refine (row_any q HRy.out _ 2 2 _ 2 2 big _ (HFs.out _ _ HV3.out) (HSn.out _ _ HW3.out)).mono ?_
                    rintro e v9 ⟨A5, c5, rfl, ho9, hg9⟩
                    refine hK _ _ hg9 ?_
                    clear hK K
                    have hrb := ho9.rb
                    have hgr := HG3.out.trans hg9
                    rw [HQl.out] at hrb
                    rw [HQl.out]
                    clear ho9 hg9
                    repeat (refine chain_take rfl (by rfl) ?_ (fun W hG => ?_) ?_; rotate_left; (go_simp; rfl); simp only [Act.put, List.setIfInBounds_toArray, List.set_cons_zero, List.set_cons_succ])
                    refine chain_done (tq_done ?_)
                    exact ⟨rfl, A5, c5, rfl, rfl, rfl, rfl, hrb, hgr⟩
                · go_simp
                  refine hK _ _ (Grow.of_alloc _ _) ?_
                  clear hK K
                  have HW2 := Lib.hid (Blk.new v1 3 #[.int .i64 4, .int .i64 4])
                  have HG2 : Hid (Grow wr (v1.alloc (.cells #[.int .i64 4, .int .i64 4] 3))) := HG1.out.trans (Grow.of_alloc _ _)
                  generalize v1.alloc _ = v2 at HW2 HG2 ⊢
                  generalize v1.heap.size = gW at HW2 ⊢
                  clear HG1
                  refine tq_chain ?_
                  refine chain_only rfl (by rfl) (fun K hK => ?_)
                  go_simp
                  refine (HNx.out _).mono ?_
                  rintro e w' ⟨rfl, rfl⟩
                  refine hK _ _ (Grow.refl _) ?_
                  clear hK K
                  refine chain_only rfl (by rfl) (fun K hK => ?_)
                  go_simp
                  refine hK _ _ (Grow.of_alloc _ _) ?_
                  clear hK K
                  have HV3 := Lib.hid (Blk.new v2 62 #[.int .u64 (vk : Int), .int .u64 (nv2 : Int)])
                  have HG3 : Hid (Grow wr (v2.alloc (.cells #[.int .u64 (vk : Int), .int .u64 (nv2 : Int)] 62))) := HG2.out.trans (Grow.of_alloc _ _)
                  have HW3 := Lib.hid (HW2.out.alloc (.cells #[.int .u64 (vk : Int), .int .u64 (nv2 : Int)] 62))
                  generalize v2.alloc _ = v3 at HV3 HG3 HW3 ⊢
                  generalize v2.heap.size = gV at HV3 ⊢
                  clear HG2 HW2
                  refine chain_only rfl (by rfl) (fun K hK => ?_)
                  go_simp
                  refine (row_any q HRy.out _ 2 2 _ 2 2 big _ (HFs.out _ _ HV3.out) (HSn.out _ _ HW3.out)).mono ?_
                  rintro e v9 ⟨A5, c5, rfl, ho9, hg9⟩
                  refine hK _ _ hg9 ?_
                  clear hK K
                  have hrb := ho9.rb
                  have hgr := HG3.out.trans hg9
                  rw [HQl.out] at hrb
                  rw [HQl.out]
                  clear ho9 hg9
                  repeat (refine chain_take rfl (by rfl) ?_ (fun W hG => ?_) ?_; rotate_left; (go_simp; rfl); simp only [Act.put, List.setIfInBounds_toArray, List.set_cons_zero, List.set_cons_succ])
                  refine chain_done (tq_done ?_)
                  exact ⟨rfl, A5, c5, rfl, rfl, rfl, rfl, hrb, hgr⟩
              · clear HRy HFs HSn HNx
                rintro a' w1 ⟨A9, c9, ha, hl, hl2, hh, hrb, hgr⟩
                generalize (a'.tmps.toList.drop 74).take 19 = vs at ha hl
                generalize (a'.tmps.toList.drop 12).take 2 = vs2 at ha hl2 hh
                obtain ⟨u0, u1, u2, u3, u4, u5, u6, u7, u8, u9, u10, u11, u12, u13, u14, u15, u16, u17, u18, rfl⟩ := lst19 hl
                obtain ⟨t0, t1, rfl⟩ : ∃ t0 t1, vs2 = [t0, t1] := by
                  match vs2, hl2 with
                  | [t0, t1], _ => exact ⟨_, _, rfl⟩
                obtain rfl : t0 = _ := Option.some.inj hh
                subst ha
                clear hl hl2 hh
                rename_i K hK
                apply hK
                clear hK K
                simp only [List.take_succ_cons, List.take_zero, List.drop_succ_cons, List.drop_zero, List.cons_append, List.nil_append]
                rw [HQH.out] at hrb
                have HO1 := Lib.hid (HO9.out.keep hgr)
                have HR1 := Lib.hid hrb
                have HG1 : Hid (Grow w w1) := hgr9.trans hgr
                clear hrb hgr HO9 HG9 hgr9 HQH HQl
                go_wp2_with (at_builtin; refine wpList_appendB w1 rfl (.tmp 93) (.tmp 94) 24 rfl w.heap.size 5 Try.underlying24 (by kernel_rfl) A8 m9 c8 _ rfl HO1.out w1.heap.size A9 8 c9 _ rfl HR1.out (by omega) HG1.out.size ?_; intro A5 c5 w5 ho5 hb5; refine Hid.out ?_)
                have HO5 : Hid (OB w5 w.heap.size 5 A5 (m9 + 8) c5 (P8 ++ Q (k + 1))) := Lib.hid (by rw [HQs.out, ← List.append_assoc]; exact ho5)
                have HG5 : Hid (Grow w w5) := HG1.out.trans' hb5
                clear ho5 hb5 HO1 HR1 HG1
                refine Lib.hid ?_
                go_wp2
                go_roundw
                case rel => exact ⟨k + 1, A5, m9 + 8, c5, by omega, by go_num, by trivial, by rw [HM9.out, Nat.succ_mul]; omega, HO5.out, HG5.out⟩
                case measure => simp [intOf]; omega
            · have e : k = n1 := by omega
              subst e
              rw [← HSc2.out] at HO9
              have HLn : Hid (m9 = (P (i + 1)).length) := Lib.hid (by rw [HSc2.out, List.length_append, HL2.out, HE.out.ql]; exact HM9.out)
              have HMy2 : Hid (∀ j (hj : j < L.length), j < i + 1 → L[j].May = true) := Lib.hid fun j hjl hj => by
                by_cases e : j < i
                · exact HMy.out j hjl e
                · have : j = i := by omega
                  subst this
                  rw [HMay.out]; exact hmy
              clear HMy HMay HSc2 HL2 HE
              go_wp2
              go_roundw
              case rel => exact ⟨i + 1, A8, m9, c8, by omega, by go_num, by trivial, HLn.out, HO9.out, HMy2, HG9.out⟩
              case measure => simp [intOf]; omega
      · have hmf : (decide (1 ≤ n1) && decide (n1 ≤ 65535)) = false := by simpa using hmy
        have HF : Hid (VMays L = false) := Lib.hid (mays_no (i := i) (by rw [← HNl.out]; exact hlt) (by rw [HMay.out]; exact hmf))
        have hor : n1 < 1 ∨ 65535 < n1 := by
          rw [Bool.and_eq_false_iff, decide_eq_false_iff_not, decide_eq_false_iff_not] at hmf
          omega
        clear HMay hmf hmy
        rcases hor with hor | hor
        · obtain rfl : n1 = 0 := by omega
          have d1 : decide (((0 : Nat) : Int) < 1) = true := rfl
          go_wp2
          go_ret2
          exact .inr ⟨HF.out, rfl, HG.out⟩
        · omega
    · have e : i = n := by omega
      subst e
      have HF : Hid (VMays L = true) := Lib.hid (mays_yes fun j hj => HMy.out j hj (by rw [HNl.out]; exact hj))
      rw [HPn.out] at HO HM
      go_wp2
      go_ret2
      exact .inl ⟨HF.out, A2, c2, by rw [HM.out]; rfl, by rw [← HM.out]; exact HO.out, HG.out⟩
end Go.Proofs.Ytfnaigeakfgpbaa
