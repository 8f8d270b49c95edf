/-
  The contract of the document's own PutNeeds: their bytes, or that they may not be.
-/
import Derived.Test.YtfnaigeakfgpbaaVePutMath
import Derived.Test.YtfnaigeakfgpbaaVeWell
import Derived.Test.YtfnaigeakfgpbaaRefRow
import Derived.Test.YtfnaigeakfgpbaaLists
import Derived.Test.YtfnaigeakfgpbaaCut
import Derived.Test.YtfnaigeakfgpbaaFork3
namespace Go.Proofs.Ytfnaigeakfgpbaa
open Go.RowKit

theorem rowedN1 (h0 n1 nv : Nat) (b0 : h0 < 4294967296) (hn : n1 < 4294967296) (hv : nv < 4294967296) : Rowed [(1, 2), (n1, 2), (h0, 4), (16, 4), (nv, 4)] := by
  refine ⟨by show 5 ≤ 100; decide, fun k hk => ?_, fun k hk => ?_⟩
  · match k, hk with
    | 0, _ => rfl
    | 1, _ => rfl
    | 2, _ => rfl
    | 3, _ => rfl
    | 4, _ => rfl
  · match k, hk with
    | 0, _ => (show 1 < 18446744073709551616; omega)
    | 1, _ => (show n1 < 18446744073709551616; omega)
    | 2, _ => (show h0 < 18446744073709551616; omega)
    | 3, _ => (show 16 < 18446744073709551616; omega)
    | 4, _ => (show nv < 18446744073709551616; omega)
theorem rowedN2 (x0 x1 x2 x3 nv2 : Nat) (k0 : x0 < 4294967296) (k1 : x1 < 65536) (k2 : x2 < 65536) (k3 : x3 < 4294967296) (hv : nv2 < 4294967296) : Rowed [(x0, 4), (x1, 2), (x2, 2), (x3, 4), (nv2, 4)] := by
  refine ⟨by show 5 ≤ 100; decide, fun k hk => ?_, fun k hk => ?_⟩
  · match k, hk with
    | 0, _ => rfl
    | 1, _ => rfl
    | 2, _ => rfl
    | 3, _ => rfl
    | 4, _ => rfl
  · match k, hk with
    | 0, _ => (show x0 < 18446744073709551616; omega)
    | 1, _ => (show x1 < 18446744073709551616; omega)
    | 2, _ => (show x2 < 18446744073709551616; omega)
    | 3, _ => (show x3 < 18446744073709551616; omega)
    | 4, _ => (show nv2 < 18446744073709551616; omega)

set_option maxRecDepth 100000 in
set_option maxHeartbeats 4000000 in
theorem rputN_any (A : Option Addr) (n c : Nat) (L : List Ve) (hok : ∀ e ∈ L, e.Ok vkN) (big : Bool) (hb : (vsB vkN big L).length ≤ 100000) (hn1000 : n ≤ 100000) (w : World) (h : ZV vmN w w.heap.size A n c L) :
    Calls Try.prog 10 #[.slice A n c, .bool big] w (RPut vmN L big w) := by
  have hn := h.len
  have hcp := h.cap
  have hmx := h.max
  unfold maxLen at hmx
  obtain ⟨R, hs, hk⟩ := eachN big h hok hb
  have HS := Lib.hid hs
  have HK := Lib.hid hk
  have HNl := Lib.hid hn
  have HP0 : Hid (vsP vkN big L 0 = []) := Lib.hid rfl
  have HPn : Hid (vsP vkN big L n = vsB vkN big L) := Lib.hid (by rw [hn]; rfl)
  unfold RPut
  rw [show vmN.K = vkN from rfl]
  generalize vsP vkN big L = P at HK HP0 HPn
  generalize vsB vkN big L = PL at HPn hb ⊢
  clear hs hk h hok hn
  go_enter Try.func10, Try.ntmps10
  go_wp2_with fail
  go_loopw [6, 7] (fun x i wr => ∃ (k : Nat) (A2 : Option Addr) (m c2 : Nat), k ≤ n ∧ i = .int .i64 k ∧ x = .slice A2 m c2 ∧ m = (P k).length ∧ OB wr w.heap.size 5 A2 m c2 (P k) ∧ Hid (∀ j (hj : j < L.length), j < k → L[j].May = true) ∧ Grow w wr) (fun _ i _ => n - (intOf i).toNat)
  case atStart => exact ⟨0, none, 0, 0, Nat.zero_le _, rfl, rfl, by rw [HP0.out]; rfl, by rw [HP0.out]; exact OB.nil, Lib.hid fun j _ hj => absurd hj (by omega), Grow.refl _⟩
  case round =>
    obtain ⟨i, A2, m, c2, hi, rfl, rfl, hm, ho, HMy, hg⟩ := hrel
    have HM := Lib.hid hm
    have HO := Lib.hid ho
    have HG := Lib.hid hg
    clear ho hg hm
    by_cases hlt : i < n
    · obtain ⟨b, off, rfl, hbB, hcs⟩ := HS.out.pos (by omega)
      obtain ⟨h0, A1, n1, c1, RR, f0, f1, f2, f3, Q, E, hmay⟩ := HK.out i hlt
      have HE := Lib.hid E
      have HMay := Lib.hid hmay
      have hrow := E.row E.ir
      have HCells : Hid (∀ W, Grow w W → W.cell? ⟨b, off + i * 2, none⟩ = some (.int .u32 (h0 : Int)) ∧ W.cell? ⟨b, off + i * 2 + 1, none⟩ = some (.slice A1 n1 c1)) := Lib.hid fun W hW => by
        have key : ∀ j v, (#[.int .u32 (h0 : Int), .slice A1 n1 c1] : Array Value)[j]? = some v → W.cell? ⟨b, off + i * 2 + j, none⟩ = some v := fun j v hv => by
          rw [hW.cell hbB]
          exact hcs i E.ir j v (by rw [hrow]; exact hv)
        exact ⟨key 0 _ rfl, key 1 _ rfl⟩
      have b0 := E.b0
      have hsz := E.size
      have hcap1 := E.cap
      have hmax1 := E.max
      unfold maxLen at hmax1
      clear E hmay hcs hrow
      have z0 : (0 : Int) ≤ (i : Int) := by omega
      have z1 : (i : Int) < (n : Int) := by omega
      obtain ⟨y0, y1⟩ := HCells.out _ HG.out
      by_cases hmy : (decide (1 ≤ n1) && decide (n1 ≤ 65535)) = true
      · have hn65 : 1 ≤ n1 ∧ n1 ≤ 65535 := by
          rw [Bool.and_eq_true, decide_eq_true_eq, decide_eq_true_eq] at hmy
          exact hmy
        have d1 : decide ((n1 : Int) < 1) = false := decide_eq_false (by omega)
        have d2 : decide ((65535 : Int) < (n1 : Int)) = false := decide_eq_false (by omega)
        go_wp2_with fail
        clear y0 y1
        obtain ⟨m8, hm8⟩ : ∃ q, q = 16 * n1 := ⟨_, rfl⟩
        obtain ⟨offv, hoff⟩ : ∃ q, q = 16 + m8 := ⟨_, rfl⟩
        have HSc := Lib.hid HE.out.succ
        rw [← hm8, ← hoff] at HSc
        have zm : IntKind.i64.wrap (16 * (n1 : Int)) = (m8 : Int) := by rw [IntKind.wrap_i64]; omega
        have za : IntKind.i64.wrap (16 + (m8 : Int)) = (offv : Int) := by rw [IntKind.wrap_i64]; omega
        have zuh0 : IntKind.u64.wrap (h0 : Int) = (h0 : Int) := by rw [IntKind.wrap_u64]; omega
        have zn : IntKind.u64.wrap (n1 : Int) = (n1 : Int) := by rw [IntKind.wrap_u64]; omega
        have HNx := Lib.hid fun w => step_any i n offv w hlt (by omega) (by omega)
        have hnv : nx i n offv < 4294967296 := by unfold nx; split <;> omega
        generalize nx i n offv = nv at HSc HNx hnv
        clear hm8 hoff
        have HRy := Lib.hid (rowedN1 h0 n1 nv b0 (by omega) hnv)
        have HFs : Hid (∀ (W : World) (g : Nat), Blk W g 62 #[.int .u64 1, .int .u64 (n1 : Int), .int .u64 (h0 : Int), .int .u64 16, .int .u64 (nv : Int)] → NS W W.heap.size .u64 (some ⟨g, 0, none⟩) 5 5 ([(1, 2), (n1, 2), (h0, 4), (16, 4), (nv, 4)].map (·.1))) := Lib.hid fun W g hb => NS.of_blkN hb rfl (by decide) hb.lt rfl
        have HSn : Hid (∀ (W : World) (g : Nat), Blk W g 3 #[.int .i64 2, .int .i64 2, .int .i64 4, .int .i64 4, .int .i64 4] → NS W W.heap.size .i64 (some ⟨g, 0, none⟩) 5 5 ([(1, 2), (n1, 2), (h0, 4), (16, 4), (nv, 4)].map (·.2))) := Lib.hid fun W g hb => NS.of_blkN hb rfl (by decide) hb.lt rfl
        have HQl : Hid ((rowB big [(1, 2), (n1, 2), (h0, 4), (16, 4), (nv, 4)]).length = 16) := Lib.hid (by rw [length_rowB]; rfl)
        have HQH : Hid (rowB big [(1, 2), (n1, 2), (h0, 4), (16, 4), (nv, 4)] = (rowB big (evs 2 [1, n1]) ++ rowB big (evs 4 [h0, 16, nv]))) := Lib.hid (by rw [← rowB_append]; rfl)
        generalize ([(1, 2), (n1, 2), (h0, 4), (16, 4), (nv, 4)] : List (Nat × Nat)) = q at HRy HFs HSn HQl HQH
        have hgr0 := HG.out
        refine wp_cut (fun a a' w' => ∃ A9 c9, a' = ⟨(a.tmps.toList.take 9 ++ (a'.tmps.toList.drop 9).take 46 ++ a.tmps.toList.drop 55).toArray, a.defers⟩ ∧ ((a'.tmps.toList.drop 9).take 46).length = 46 ∧ ((a'.tmps.toList.drop 9).take 46).head? = some (.slice A9 16 c9) ∧ RB w' w'.heap.size A9 16 c9 (rowB big q) ∧ Grow wr w') ?_ ?_
        · refine wp_region_tq leap_grow (.chain [(0, true), (1, true), (2, true), (3, true), (4, true), (5, true), (6, true), (7, true), (8, true), (9, true), (10, true), (11, true), (12, true), (13, true), (17, true)] (.both 14 (.both 15 (.chain [(16, false), (18, false), (19, true), (20, true), (21, true), (22, true), (23, true)] .done) 16 (.chain [(15, false), (18, false), (19, true), (20, true), (21, true), (22, true), (23, true)] .done)) 16 (.chain [(14, false), (15, false), (18, false), (19, true), (20, true), (21, true), (22, true), (23, true)] .done))) (by kernel_rfl) (by kernel_rfl) (by kernel_rfl) ?_
          refine tq_chain ?_
          have HX : Hid (∀ W, Grow wr.drew W → _ ∧ _) := fun W hW => HCells.out W ((hgr0.trans (Grow.of_drew _)).trans hW)
          have HG1 : Hid (Grow wr wr.drew) := Lib.hid (Grow.of_drew _)
          generalize wr.drew = v1 at HX HG1 ⊢
          clear HE HMy HMay HM HNl hsz hcap1 hmax1 hb HP0 HPn HSc
          repeat (refine chain_take rfl (by rfl) ?_ (fun W hG => ?_) ?_; rotate_left; (obtain ⟨q0, q1⟩ := HX.out W hG; go_simp; rfl); simp only [Act.put, List.setIfInBounds_toArray, List.set_cons_zero, List.set_cons_succ])
          clear HX
          refine chain_done (tq_both (step_op rfl (by rfl) (fun K hK => ?_)) (step_op rfl (by rfl) (fun K hK => ?_)))
          · go_simp
            refine (HNx.out _).mono ?_
            rintro e w' ⟨rfl, rfl⟩
            refine hK _ _ (Grow.refl _) ?_
            clear hK K
            refine tq_both (step_op rfl (by rfl) (fun K hK => ?_)) (step_op rfl (by rfl) (fun K hK => ?_))
            · go_simp
              refine hK _ _ (Grow.of_alloc _ _) ?_
              clear hK K
              have HV2 := Lib.hid (Blk.new v1 62 #[.int .u64 1, .int .u64 (n1 : Int), .int .u64 (h0 : Int), .int .u64 16, .int .u64 (nv : Int)])
              have HG2 : Hid (Grow wr (v1.alloc (.cells #[.int .u64 1, .int .u64 (n1 : Int), .int .u64 (h0 : Int), .int .u64 16, .int .u64 (nv : Int)] 62))) := HG1.out.trans (Grow.of_alloc _ _)
              generalize v1.alloc _ = v2 at HV2 HG2 ⊢
              generalize v1.heap.size = gV at HV2 ⊢
              clear HG1
              refine tq_chain ?_
              refine chain_only rfl (by rfl) (fun K hK => ?_)
              go_simp
              refine hK _ _ (Grow.of_alloc _ _) ?_
              clear hK K
              have HW3 := Lib.hid (Blk.new v2 3 #[.int .i64 2, .int .i64 2, .int .i64 4, .int .i64 4, .int .i64 4])
              have HG3 : Hid (Grow wr (v2.alloc (.cells #[.int .i64 2, .int .i64 2, .int .i64 4, .int .i64 4, .int .i64 4] 3))) := HG2.out.trans (Grow.of_alloc _ _)
              have HV3 := Lib.hid (HV2.out.alloc (.cells #[.int .i64 2, .int .i64 2, .int .i64 4, .int .i64 4, .int .i64 4] 3))
              generalize v2.alloc _ = v3 at HW3 HG3 HV3 ⊢
              generalize v2.heap.size = gW at HW3 ⊢
              clear HG2 HV2
              refine chain_only rfl (by rfl) (fun K hK => ?_)
              go_simp
              refine (row_any q HRy.out _ 5 5 _ 5 5 big _ (HFs.out _ _ HV3.out) (HSn.out _ _ HW3.out)).mono ?_
              rintro e v9 ⟨A5, c5, rfl, ho9, hg9⟩
              refine hK _ _ hg9 ?_
              clear hK K
              have hrb := ho9.rb
              have hgr := HG3.out.trans hg9
              rw [HQl.out] at hrb
              rw [HQl.out]
              clear ho9 hg9
              repeat (refine chain_take rfl (by rfl) ?_ (fun W hG => ?_) ?_; rotate_left; (go_simp; rfl); simp only [Act.put, List.setIfInBounds_toArray, List.set_cons_zero, List.set_cons_succ])
              refine chain_done (tq_done ?_)
              exact ⟨rfl, A5, c5, rfl, rfl, rfl, hrb, hgr⟩
            · go_simp
              refine hK _ _ (Grow.of_alloc _ _) ?_
              clear hK K
              have HW2 := Lib.hid (Blk.new v1 3 #[.int .i64 2, .int .i64 2, .int .i64 4, .int .i64 4, .int .i64 4])
              have HG2 : Hid (Grow wr (v1.alloc (.cells #[.int .i64 2, .int .i64 2, .int .i64 4, .int .i64 4, .int .i64 4] 3))) := HG1.out.trans (Grow.of_alloc _ _)
              generalize v1.alloc _ = v2 at HW2 HG2 ⊢
              generalize v1.heap.size = gW at HW2 ⊢
              clear HG1
              refine tq_chain ?_
              refine chain_only rfl (by rfl) (fun K hK => ?_)
              go_simp
              refine hK _ _ (Grow.of_alloc _ _) ?_
              clear hK K
              have HV3 := Lib.hid (Blk.new v2 62 #[.int .u64 1, .int .u64 (n1 : Int), .int .u64 (h0 : Int), .int .u64 16, .int .u64 (nv : Int)])
              have HG3 : Hid (Grow wr (v2.alloc (.cells #[.int .u64 1, .int .u64 (n1 : Int), .int .u64 (h0 : Int), .int .u64 16, .int .u64 (nv : Int)] 62))) := HG2.out.trans (Grow.of_alloc _ _)
              have HW3 := Lib.hid (HW2.out.alloc (.cells #[.int .u64 1, .int .u64 (n1 : Int), .int .u64 (h0 : Int), .int .u64 16, .int .u64 (nv : Int)] 62))
              generalize v2.alloc _ = v3 at HV3 HG3 HW3 ⊢
              generalize v2.heap.size = gV at HV3 ⊢
              clear HG2 HW2
              refine chain_only rfl (by rfl) (fun K hK => ?_)
              go_simp
              refine (row_any q HRy.out _ 5 5 _ 5 5 big _ (HFs.out _ _ HV3.out) (HSn.out _ _ HW3.out)).mono ?_
              rintro e v9 ⟨A5, c5, rfl, ho9, hg9⟩
              refine hK _ _ hg9 ?_
              clear hK K
              have hrb := ho9.rb
              have hgr := HG3.out.trans hg9
              rw [HQl.out] at hrb
              rw [HQl.out]
              clear ho9 hg9
              repeat (refine chain_take rfl (by rfl) ?_ (fun W hG => ?_) ?_; rotate_left; (go_simp; rfl); simp only [Act.put, List.setIfInBounds_toArray, List.set_cons_zero, List.set_cons_succ])
              refine chain_done (tq_done ?_)
              exact ⟨rfl, A5, c5, rfl, rfl, rfl, hrb, hgr⟩
          · go_simp
            refine hK _ _ (Grow.of_alloc _ _) ?_
            clear hK K
            have HW2 := Lib.hid (Blk.new v1 3 #[.int .i64 2, .int .i64 2, .int .i64 4, .int .i64 4, .int .i64 4])
            have HG2 : Hid (Grow wr (v1.alloc (.cells #[.int .i64 2, .int .i64 2, .int .i64 4, .int .i64 4, .int .i64 4] 3))) := HG1.out.trans (Grow.of_alloc _ _)
            generalize v1.alloc _ = v2 at HW2 HG2 ⊢
            generalize v1.heap.size = gW at HW2 ⊢
            clear HG1
            refine tq_chain ?_
            refine chain_only rfl (by rfl) (fun K hK => ?_)
            go_simp
            refine (HNx.out _).mono ?_
            rintro e w' ⟨rfl, rfl⟩
            refine hK _ _ (Grow.refl _) ?_
            clear hK K
            refine chain_only rfl (by rfl) (fun K hK => ?_)
            go_simp
            refine hK _ _ (Grow.of_alloc _ _) ?_
            clear hK K
            have HV3 := Lib.hid (Blk.new v2 62 #[.int .u64 1, .int .u64 (n1 : Int), .int .u64 (h0 : Int), .int .u64 16, .int .u64 (nv : Int)])
            have HG3 : Hid (Grow wr (v2.alloc (.cells #[.int .u64 1, .int .u64 (n1 : Int), .int .u64 (h0 : Int), .int .u64 16, .int .u64 (nv : Int)] 62))) := HG2.out.trans (Grow.of_alloc _ _)
            have HW3 := Lib.hid (HW2.out.alloc (.cells #[.int .u64 1, .int .u64 (n1 : Int), .int .u64 (h0 : Int), .int .u64 16, .int .u64 (nv : Int)] 62))
            generalize v2.alloc _ = v3 at HV3 HG3 HW3 ⊢
            generalize v2.heap.size = gV at HV3 ⊢
            clear HG2 HW2
            refine chain_only rfl (by rfl) (fun K hK => ?_)
            go_simp
            refine (row_any q HRy.out _ 5 5 _ 5 5 big _ (HFs.out _ _ HV3.out) (HSn.out _ _ HW3.out)).mono ?_
            rintro e v9 ⟨A5, c5, rfl, ho9, hg9⟩
            refine hK _ _ hg9 ?_
            clear hK K
            have hrb := ho9.rb
            have hgr := HG3.out.trans hg9
            rw [HQl.out] at hrb
            rw [HQl.out]
            clear ho9 hg9
            repeat (refine chain_take rfl (by rfl) ?_ (fun W hG => ?_) ?_; rotate_left; (go_simp; rfl); simp only [Act.put, List.setIfInBounds_toArray, List.set_cons_zero, List.set_cons_succ])
            refine chain_done (tq_done ?_)
            exact ⟨rfl, A5, c5, rfl, rfl, rfl, hrb, hgr⟩
        · clear HRy HFs HSn HNx zm za zuh0 zn
          rintro a' w1 ⟨A9, c9, ha, hl, hh, hrb, hgr⟩
          generalize (a'.tmps.toList.drop 9).take 46 = vs at ha hl hh
          obtain ⟨u0, u1, u2, u3, u4, u5, u6, u7, u8, u9, u10, u11, u12, u13, u14, u15, u16, u17, u18, u19, u20, u21, u22, u23, u24, u25, u26, u27, u28, u29, u30, u31, u32, u33, u34, u35, u36, u37, u38, u39, u40, u41, u42, u43, u44, u45, rfl⟩ := list46 hl
          obtain rfl : u0 = _ := Option.some.inj hh
          subst ha
          clear hl hh
          rename_i K hK
          apply hK
          clear hK K
          simp only [List.take_succ_cons, List.take_zero, List.drop_succ_cons, List.drop_zero, List.cons_append, List.nil_append]
          rw [HQH.out] at hrb
          have HO1 := Lib.hid (HO.out.keep hgr)
          have HR1 := Lib.hid hrb
          have HG1 : Hid (Grow w w1) := hgr0.trans hgr
          clear hrb hgr HO HG hgr0 HQH HQl
          generalize hHd : (rowB big (evs 2 [1, n1]) ++ rowB big (evs 4 [h0, 16, nv])) = Hd at HR1 HSc
          have HHl : Hid (Hd.length = 16) := Lib.hid (by rw [← hHd, ← rowB_append, length_rowB]; rfl)
          clear hHd
          have hm6 : m ≤ 100000 := by have := HM.out; omega
          go_wp2_with (at_builtin; refine wpList_appendB w1 rfl (.tmp 55) (.tmp 56) 24 rfl w.heap.size 5 Try.underlying24 (by kernel_rfl) A2 m c2 _ rfl HO1.out w1.heap.size A9 16 c9 _ rfl HR1.out (by omega) HG1.out.size ?_; intro A5 c5 w5 ho5 hb5; refine Hid.out ?_)
          have HO5 := Lib.hid ho5
          have HG5 : Hid (Grow w w5) := HG1.out.trans' hb5
          clear ho5 hb5 HO1 HR1 HG1
          have HSc2 : Hid (P (i + 1) = (P i ++ Hd) ++ Q n1) := Lib.hid (by rw [HSc.out]; simp only [List.append_assoc])
          have HL2 : Hid ((P i ++ Hd).length = m + 16) := Lib.hid (by rw [List.length_append, HHl.out, HM.out])
          generalize P i ++ Hd = P8 at HO5 HSc2 HL2
          clear HSc HHl
          refine Lib.hid ?_
          go_wp2_with fail
          go_loopw [6, 11] (fun x j wr => ∃ (k : Nat) (A2 : Option Addr) (m2 c2 : Nat), k ≤ n1 ∧ j = .int .i64 k ∧ x = .slice A2 m2 c2 ∧ m2 = m + 16 + k * 16 ∧ OB wr w.heap.size 5 A2 m2 c2 (P8 ++ Q k) ∧ Grow w wr) (fun _ j _ => n1 - (intOf j).toNat)
          case atStart => exact ⟨0, A5, m + 16, c5, Nat.zero_le _, rfl, rfl, by omega, by rw [HE.out.q0, List.append_nil]; exact HO5.out, HG5.out⟩
          case round =>
            obtain ⟨k, A8, m9, c8, hk, rfl, rfl, hm9, ho, hg⟩ := hrel
            have HO9 := Lib.hid ho
            have HG9 := Lib.hid hg
            have HM9 := Lib.hid hm9
            clear ho hg HO5 HG5 hm9
            by_cases hkn : k < n1
            · obtain ⟨b2, o2, hA1, -, -⟩ := HE.out.zs.pos (by omega)
              subst hA1
              obtain ⟨hkR, hRk, k0, k1, k2, k3⟩ := HE.out.rr k hkn
              have HQs := Lib.hid (HE.out.qs k)
              have HNx := Lib.hid fun w => step_any k n1 16 w hkn (by omega) (by omega)
              have hnv2 : nx k n1 16 < 4294967296 := by unfold nx; split <;> omega
              generalize nx k n1 16 = nv2 at HQs HNx hnv2
              have HkR := Lib.hid hkR
              have HRk := Lib.hid hRk
              generalize f0 k = x0 at HQs HRk k0
              generalize f1 k = x1 at HQs HRk k1
              generalize f2 k = x2 at HQs HRk k2
              generalize f3 k = x3 at HQs HRk k3
              have HZw := Lib.hid (HE.out.zs.belowAt HG9.out (Nat.le_refl _))
              have HC1 : Hid ((#[.int .u32 (x0 : Int), .int .u16 (x1 : Int), .int .u16 (x2 : Int), .int .u32 (x3 : Int)] : Array Value).all (·.oneCell') = true) := Lib.hid (by simp [Value.oneCell'])
              have zk0 : IntKind.u64.wrap (x0 : Int) = (x0 : Int) := by rw [IntKind.wrap_u64]; omega
              have zk1 : IntKind.u64.wrap (x1 : Int) = (x1 : Int) := by rw [IntKind.wrap_u64]; omega
              have zk2 : IntKind.u64.wrap (x2 : Int) = (x2 : Int) := by rw [IntKind.wrap_u64]; omega
              have zk3 : IntKind.u64.wrap (x3 : Int) = (x3 : Int) := by rw [IntKind.wrap_u64]; omega
              have z2 : (0 : Int) ≤ (k : Int) := by omega
              have z3 : (k : Int) < (n1 : Int) := by omega
              have hm9 : m9 ≤ 300000 := by have := HM9.out; omega
              have HRy := Lib.hid (rowedN2 x0 x1 x2 x3 nv2 k0 k1 k2 k3 hnv2)
              clear hkR hRk k0 k1 k2 k3
              obtain ⟨y0, y1⟩ := HCells.out _ HG9.out
              have HFs : Hid (∀ (W : World) (g : Nat), Blk W g 62 #[.int .u64 (x0 : Int), .int .u64 (x1 : Int), .int .u64 (x2 : Int), .int .u64 (x3 : Int), .int .u64 (nv2 : Int)] → NS W W.heap.size .u64 (some ⟨g, 0, none⟩) 5 5 ([(x0, 4), (x1, 2), (x2, 2), (x3, 4), (nv2, 4)].map (·.1))) := Lib.hid fun W g hb => NS.of_blkN hb rfl (by decide) hb.lt rfl
              have HSn : Hid (∀ (W : World) (g : Nat), Blk W g 3 #[.int .i64 4, .int .i64 2, .int .i64 2, .int .i64 4, .int .i64 4] → NS W W.heap.size .i64 (some ⟨g, 0, none⟩) 5 5 ([(x0, 4), (x1, 2), (x2, 2), (x3, 4), (nv2, 4)].map (·.2))) := Lib.hid fun W g hb => NS.of_blkN hb rfl (by decide) hb.lt rfl
              have HQl : Hid ((rowB big [(x0, 4), (x1, 2), (x2, 2), (x3, 4), (nv2, 4)]).length = 16) := Lib.hid (by rw [length_rowB]; rfl)
              have HQH : Hid (rowB big [(x0, 4), (x1, 2), (x2, 2), (x3, 4), (nv2, 4)] = ((rowB big (evs 4 [x0]) ++ rowB big (evs 2 [x1, x2])) ++ rowB big (evs 4 [x3, nv2]))) := Lib.hid (by rw [← rowB_append, ← rowB_append]; rfl)
              generalize ([(x0, 4), (x1, 2), (x2, 2), (x3, 4), (nv2, 4)] : List (Nat × Nat)) = q at HRy HFs HSn HQl HQH
              go_wp2_with (first | (refine wpList_load_zs HZw.out HkR.out rfl 68 (.tmp 69) rfl rfl _ Try.underlying68 rfl (by kernel_rfl) _ (HRk.out _) ?_) | (refine wpList_store_row rfl 68 (.tmp 12) (.tmp 70) rfl wr.heap.size _ rfl rfl _ _ (Blk.new _ _ _) (by kernel_rfl) rfl HC1.out ?_; rw [World.setRow_alloc_new]; refine Hid.out ?_))
              clear y0 y1
              generalize hW : World.alloc _ _ = w10
              obtain ⟨br, hg10⟩ := blk1 hW
              have HO10 := Lib.hid (HO9.out.keep hg10)
              have hgr9 := HG9.out.trans hg10
              generalize wr.heap.size = gx at br ⊢
              clear hW hg10 HO9 HG9 HZw HkR HRk HC1
              have HO9 := HO10
              have HG9 : Hid (Grow w w10) := hgr9
              clear HO10
              refine Lib.hid (wpList_nil ?_)
              unfold Exit.then
              apply_assumption
              go_wp2_with fail
              refine wp_cut (fun a a' w' => ∃ A9 c9, a' = ⟨(a.tmps.toList.take 13 ++ (a'.tmps.toList.drop 13).take 2 ++ (a.tmps.toList.drop 15).take 56 ++ (a'.tmps.toList.drop 71).take 22 ++ a.tmps.toList.drop 93).toArray, a.defers⟩ ∧ ((a'.tmps.toList.drop 71).take 22).length = 22 ∧ ((a'.tmps.toList.drop 13).take 2).length = 2 ∧ ((a'.tmps.toList.drop 13).take 2).head? = some (.slice A9 16 c9) ∧ RB w' w'.heap.size A9 16 c9 (rowB big q) ∧ Grow w10 w') ?_ ?_
              · refine wp_region_tq leap_grow (.chain [(0, true), (1, true), (2, true), (3, true), (4, true), (5, true), (6, true), (7, true), (8, true), (9, true), (10, true), (11, true), (12, true), (13, true), (17, true)] (.both 14 (.both 15 (.chain [(16, false), (18, false), (19, true), (20, true), (21, true), (22, true), (23, true)] .done) 16 (.chain [(15, false), (18, false), (19, true), (20, true), (21, true), (22, true), (23, true)] .done)) 16 (.chain [(14, false), (15, false), (18, false), (19, true), (20, true), (21, true), (22, true), (23, true)] .done))) (by kernel_rfl) (by kernel_rfl) (by kernel_rfl) ?_
                refine tq_chain ?_
                have HX : Hid (∀ W, Grow w10.drew W → _ ∧ _ ∧ _ ∧ _) := fun W hW => (br.drew.grow hW).c4
                have HG1 : Hid (Grow w10 w10.drew) := Lib.hid (Grow.of_drew _)
                generalize w10.drew = v1 at HX HG1 ⊢
                clear HE HMy HMay HM HM9 HNl hsz hcap1 hmax1 hb HP0 HPn HSc2 HL2 HCells br
                repeat (refine chain_take rfl (by rfl) ?_ (fun W hG => ?_) ?_; rotate_left; (obtain ⟨q0, q1, q2, q3⟩ := HX.out W hG; go_simp; rfl); simp only [Act.put, List.setIfInBounds_toArray, List.set_cons_zero, List.set_cons_succ])
                clear HX
                refine chain_done (tq_both (step_op rfl (by rfl) (fun K hK => ?_)) (step_op rfl (by rfl) (fun K hK => ?_)))
                · go_simp
                  refine (HNx.out _).mono ?_
                  rintro e w' ⟨rfl, rfl⟩
                  refine hK _ _ (Grow.refl _) ?_
                  clear hK K
                  refine tq_both (step_op rfl (by rfl) (fun K hK => ?_)) (step_op rfl (by rfl) (fun K hK => ?_))
                  · go_simp
                    refine hK _ _ (Grow.of_alloc _ _) ?_
                    clear hK K
                    have HV2 := Lib.hid (Blk.new v1 62 #[.int .u64 (x0 : Int), .int .u64 (x1 : Int), .int .u64 (x2 : Int), .int .u64 (x3 : Int), .int .u64 (nv2 : Int)])
                    have HG2 : Hid (Grow w10 (v1.alloc (.cells #[.int .u64 (x0 : Int), .int .u64 (x1 : Int), .int .u64 (x2 : Int), .int .u64 (x3 : Int), .int .u64 (nv2 : Int)] 62))) := HG1.out.trans (Grow.of_alloc _ _)
                    generalize v1.alloc _ = v2 at HV2 HG2 ⊢
                    generalize v1.heap.size = gV at HV2 ⊢
                    clear HG1
                    refine tq_chain ?_
                    refine chain_only rfl (by rfl) (fun K hK => ?_)
                    go_simp
                    refine hK _ _ (Grow.of_alloc _ _) ?_
                    clear hK K
                    have HW3 := Lib.hid (Blk.new v2 3 #[.int .i64 4, .int .i64 2, .int .i64 2, .int .i64 4, .int .i64 4])
                    have HG3 : Hid (Grow w10 (v2.alloc (.cells #[.int .i64 4, .int .i64 2, .int .i64 2, .int .i64 4, .int .i64 4] 3))) := HG2.out.trans (Grow.of_alloc _ _)
                    have HV3 := Lib.hid (HV2.out.alloc (.cells #[.int .i64 4, .int .i64 2, .int .i64 2, .int .i64 4, .int .i64 4] 3))
                    generalize v2.alloc _ = v3 at HW3 HG3 HV3 ⊢
                    generalize v2.heap.size = gW at HW3 ⊢
                    clear HG2 HV2
                    refine chain_only rfl (by rfl) (fun K hK => ?_)
                    go_simp
                    refine (row_any q HRy.out _ 5 5 _ 5 5 big _ (HFs.out _ _ HV3.out) (HSn.out _ _ HW3.out)).mono ?_
                    rintro e v9 ⟨A5, c5, rfl, ho9, hg9⟩
                    refine hK _ _ hg9 ?_
                    clear hK K
                    have hrb := ho9.rb
                    have hgr := HG3.out.trans hg9
                    rw [HQl.out] at hrb
                    rw [HQl.out]
                    clear ho9 hg9
                    repeat (refine chain_take rfl (by rfl) ?_ (fun W hG => ?_) ?_; rotate_left; (go_simp; rfl); simp only [Act.put, List.setIfInBounds_toArray, List.set_cons_zero, List.set_cons_succ])
                    refine chain_done (tq_done ?_)
                    exact ⟨rfl, A5, c5, rfl, rfl, rfl, rfl, hrb, hgr⟩
                  · go_simp
                    refine hK _ _ (Grow.of_alloc _ _) ?_
                    clear hK K
                    have HW2 := Lib.hid (Blk.new v1 3 #[.int .i64 4, .int .i64 2, .int .i64 2, .int .i64 4, .int .i64 4])
                    have HG2 : Hid (Grow w10 (v1.alloc (.cells #[.int .i64 4, .int .i64 2, .int .i64 2, .int .i64 4, .int .i64 4] 3))) := HG1.out.trans (Grow.of_alloc _ _)
                    generalize v1.alloc _ = v2 at HW2 HG2 ⊢
                    generalize v1.heap.size = gW at HW2 ⊢
                    clear HG1
                    refine tq_chain ?_
                    refine chain_only rfl (by rfl) (fun K hK => ?_)
                    go_simp
                    refine hK _ _ (Grow.of_alloc _ _) ?_
                    clear hK K
                    have HV3 := Lib.hid (Blk.new v2 62 #[.int .u64 (x0 : Int), .int .u64 (x1 : Int), .int .u64 (x2 : Int), .int .u64 (x3 : Int), .int .u64 (nv2 : Int)])
                    have HG3 : Hid (Grow w10 (v2.alloc (.cells #[.int .u64 (x0 : Int), .int .u64 (x1 : Int), .int .u64 (x2 : Int), .int .u64 (x3 : Int), .int .u64 (nv2 : Int)] 62))) := HG2.out.trans (Grow.of_alloc _ _)
                    have HW3 := Lib.hid (HW2.out.alloc (.cells #[.int .u64 (x0 : Int), .int .u64 (x1 : Int), .int .u64 (x2 : Int), .int .u64 (x3 : Int), .int .u64 (nv2 : Int)] 62))
                    generalize v2.alloc _ = v3 at HV3 HG3 HW3 ⊢
                    generalize v2.heap.size = gV at HV3 ⊢
                    clear HG2 HW2
                    refine chain_only rfl (by rfl) (fun K hK => ?_)
                    go_simp
                    refine (row_any q HRy.out _ 5 5 _ 5 5 big _ (HFs.out _ _ HV3.out) (HSn.out _ _ HW3.out)).mono ?_
                    rintro e v9 ⟨A5, c5, rfl, ho9, hg9⟩
                    refine hK _ _ hg9 ?_
                    clear hK K
                    have hrb := ho9.rb
                    have hgr := HG3.out.trans hg9
                    rw [HQl.out] at hrb
                    rw [HQl.out]
                    clear ho9 hg9
                    repeat (refine chain_take rfl (by rfl) ?_ (fun W hG => ?_) ?_; rotate_left; (go_simp; rfl); simp only [Act.put, List.setIfInBounds_toArray, List.set_cons_zero, List.set_cons_succ])
                    refine chain_done (tq_done ?_)
                    exact ⟨rfl, A5, c5, rfl, rfl, rfl, rfl, hrb, hgr⟩
                · go_simp
                  refine hK _ _ (Grow.of_alloc _ _) ?_
                  clear hK K
                  have HW2 := Lib.hid (Blk.new v1 3 #[.int .i64 4, .int .i64 2, .int .i64 2, .int .i64 4, .int .i64 4])
                  have HG2 : Hid (Grow w10 (v1.alloc (.cells #[.int .i64 4, .int .i64 2, .int .i64 2, .int .i64 4, .int .i64 4] 3))) := HG1.out.trans (Grow.of_alloc _ _)
                  generalize v1.alloc _ = v2 at HW2 HG2 ⊢
                  generalize v1.heap.size = gW at HW2 ⊢
                  clear HG1
                  refine tq_chain ?_
                  refine chain_only rfl (by rfl) (fun K hK => ?_)
                  go_simp
                  refine (HNx.out _).mono ?_
                  rintro e w' ⟨rfl, rfl⟩
                  refine hK _ _ (Grow.refl _) ?_
                  clear hK K
                  refine chain_only rfl (by rfl) (fun K hK => ?_)
                  go_simp
                  refine hK _ _ (Grow.of_alloc _ _) ?_
                  clear hK K
                  have HV3 := Lib.hid (Blk.new v2 62 #[.int .u64 (x0 : Int), .int .u64 (x1 : Int), .int .u64 (x2 : Int), .int .u64 (x3 : Int), .int .u64 (nv2 : Int)])
                  have HG3 : Hid (Grow w10 (v2.alloc (.cells #[.int .u64 (x0 : Int), .int .u64 (x1 : Int), .int .u64 (x2 : Int), .int .u64 (x3 : Int), .int .u64 (nv2 : Int)] 62))) := HG2.out.trans (Grow.of_alloc _ _)
                  have HW3 := Lib.hid (HW2.out.alloc (.cells #[.int .u64 (x0 : Int), .int .u64 (x1 : Int), .int .u64 (x2 : Int), .int .u64 (x3 : Int), .int .u64 (nv2 : Int)] 62))
                  generalize v2.alloc _ = v3 at HV3 HG3 HW3 ⊢
                  generalize v2.heap.size = gV at HV3 ⊢
                  clear HG2 HW2
                  refine chain_only rfl (by rfl) (fun K hK => ?_)
                  go_simp
                  refine (row_any q HRy.out _ 5 5 _ 5 5 big _ (HFs.out _ _ HV3.out) (HSn.out _ _ HW3.out)).mono ?_
                  rintro e v9 ⟨A5, c5, rfl, ho9, hg9⟩
                  refine hK _ _ hg9 ?_
                  clear hK K
                  have hrb := ho9.rb
                  have hgr := HG3.out.trans hg9
                  rw [HQl.out] at hrb
                  rw [HQl.out]
                  clear ho9 hg9
                  repeat (refine chain_take rfl (by rfl) ?_ (fun W hG => ?_) ?_; rotate_left; (go_simp; rfl); simp only [Act.put, List.setIfInBounds_toArray, List.set_cons_zero, List.set_cons_succ])
                  refine chain_done (tq_done ?_)
                  exact ⟨rfl, A5, c5, rfl, rfl, rfl, rfl, hrb, hgr⟩
              · clear HRy HFs HSn HNx
                rintro a' w1 ⟨A9, c9, ha, hl, hl2, hh, hrb, hgr⟩
                generalize (a'.tmps.toList.drop 71).take 22 = vs at ha hl
                generalize (a'.tmps.toList.drop 13).take 2 = vs2 at ha hl2 hh
                obtain ⟨u0, u1, u2, u3, u4, u5, u6, u7, u8, u9, u10, u11, u12, u13, u14, u15, u16, u17, u18, u19, u20, u21, rfl⟩ := lst22 hl
                obtain ⟨t0, t1, rfl⟩ : ∃ t0 t1, vs2 = [t0, t1] := by
                  match vs2, hl2 with
                  | [t0, t1], _ => exact ⟨_, _, rfl⟩
                obtain rfl : t0 = _ := Option.some.inj hh
                subst ha
                clear hl hl2 hh
                rename_i K hK
                apply hK
                clear hK K
                simp only [List.take_succ_cons, List.take_zero, List.drop_succ_cons, List.drop_zero, List.cons_append, List.nil_append]
                rw [HQH.out] at hrb
                have HO1 := Lib.hid (HO9.out.keep hgr)
                have HR1 := Lib.hid hrb
                have HG1 : Hid (Grow w w1) := hgr9.trans hgr
                clear hrb hgr HO9 HG9 hgr9 HQH HQl
                go_wp2_with (at_builtin; refine wpList_appendB w1 rfl (.tmp 93) (.tmp 94) 24 rfl w.heap.size 5 Try.underlying24 (by kernel_rfl) A8 m9 c8 _ rfl HO1.out w1.heap.size A9 16 c9 _ rfl HR1.out (by omega) HG1.out.size ?_; intro A5 c5 w5 ho5 hb5; refine Hid.out ?_)
                have HO5 : Hid (OB w5 w.heap.size 5 A5 (m9 + 16) c5 (P8 ++ Q (k + 1))) := Lib.hid (by rw [HQs.out, ← List.append_assoc]; exact ho5)
                have HG5 : Hid (Grow w w5) := HG1.out.trans' hb5
                clear ho5 hb5 HO1 HR1 HG1
                refine Lib.hid ?_
                go_wp2
                go_roundw
                case rel => exact ⟨k + 1, A5, m9 + 16, c5, by omega, by go_num, by trivial, by rw [HM9.out, Nat.succ_mul]; omega, HO5.out, HG5.out⟩
                case measure => simp [intOf]; omega
            · have e : k = n1 := by omega
              subst e
              rw [← HSc2.out] at HO9
              have HLn : Hid (m9 = (P (i + 1)).length) := Lib.hid (by rw [HSc2.out, List.length_append, HL2.out, HE.out.ql]; exact HM9.out)
              have HMy2 : Hid (∀ j (hj : j < L.length), j < i + 1 → L[j].May = true) := Lib.hid fun j hjl hj => by
                by_cases e : j < i
                · exact HMy.out j hjl e
                · have : j = i := by omega
                  subst this
                  rw [HMay.out]; exact hmy
              clear HMy HMay HSc2 HL2 HE
              go_wp2
              go_roundw
              case rel => exact ⟨i + 1, A8, m9, c8, by omega, by go_num, by trivial, HLn.out, HO9.out, HMy2, HG9.out⟩
              case measure => simp [intOf]; omega
      · have hmf : (decide (1 ≤ n1) && decide (n1 ≤ 65535)) = false := by simpa using hmy
        have HF : Hid (VMays L = false) := Lib.hid (mays_no (i := i) (by rw [← HNl.out]; exact hlt) (by rw [HMay.out]; exact hmf))
        have hor : n1 < 1 ∨ 65535 < n1 := by
          rw [Bool.and_eq_false_iff, decide_eq_false_iff_not, decide_eq_false_iff_not] at hmf
          omega
        clear HMay hmf hmy
        rcases hor with hor | hor
        · obtain rfl : n1 = 0 := by omega
          have d1 : decide (((0 : Nat) : Int) < 1) = true := rfl
          go_wp2
          go_ret2
          exact .inr ⟨HF.out, rfl, HG.out⟩
        · omega
    · have e : i = n := by omega
      subst e
      have HF : Hid (VMays L = true) := Lib.hid (mays_yes fun j hj => HMy.out j hj (by rw [HNl.out]; exact hj))
      rw [HPn.out] at HO HM
      go_wp2
      go_ret2
      exact .inl ⟨HF.out, A2, c2, by rw [HM.out]; rfl, by rw [← HM.out]; exact HO.out, HG.out⟩
end Go.Proofs.Ytfnaigeakfgpbaa
