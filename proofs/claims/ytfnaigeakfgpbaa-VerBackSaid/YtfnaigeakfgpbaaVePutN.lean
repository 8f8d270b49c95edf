/-
  The contract of ver.PutNeeds: the bytes of any needs, or that they may not be.
-/
import Derived.Test.YtfnaigeakfgpbaaVePutMath
import Derived.Test.YtfnaigeakfgpbaaVeWell
import Derived.Test.YtfnaigeakfgpbaaCut
namespace Go.Proofs.Ytfnaigeakfgpbaa
open Go.RowKit

set_option maxRecDepth 100000 in
set_option maxHeartbeats 4000000 in
theorem putN_any (A : Option Addr) (n c : Nat) (L : List Ve) (hok : ∀ e ∈ L, e.Ok vkN) (big : Bool) (hb : (vsB vkN big L).length ≤ 100000) (hn1000 : n ≤ 100000) (w : World) (h : ZV vmN w w.heap.size A n c L) :
    Calls Try.prog 9 #[.slice A n c, .bool big] w (VPut vmN L big w) := by
  have hn := h.len
  have hcp := h.cap
  have hmx := h.max
  unfold maxLen at hmx
  obtain ⟨R, hs, hk⟩ := eachN big h hok hb
  have HS := Lib.hid hs
  have HK := Lib.hid hk
  have HNl := Lib.hid hn
  have HP0 : Hid (vsP vkN big L 0 = []) := Lib.hid rfl
  have HPn : Hid (vsP vkN big L n = vsB vkN big L) := Lib.hid (by rw [hn]; rfl)
  have HLay2 : Hid (∀ (L : List Nat) (N g : Nat) (hN : N = L.length) (A : Option Addr) (n c : Nat) (l : List UInt8) (base : Nat) (w : World) (ho : OB w base 5 A n c l) (hb : Blk w g 62 (u64s L)) (hbase : base ≤ w.heap.size) (hN8 : N ≤ 8) (hn : n ≤ 1000000),
      Calls Try.prog 21 #[.slice A n c, .int .i64 2, .bool big, .slice (some ⟨g, 0, none⟩) N N] w (VLay A (l ++ rowB big (evs 2 L)) base w)) := Lib.hid (vlay_any 2 (.inl rfl) big)
  have HLay4 : Hid (∀ (L : List Nat) (N g : Nat) (hN : N = L.length) (A : Option Addr) (n c : Nat) (l : List UInt8) (base : Nat) (w : World) (ho : OB w base 5 A n c l) (hb : Blk w g 62 (u64s L)) (hbase : base ≤ w.heap.size) (hN8 : N ≤ 8) (hn : n ≤ 1000000),
      Calls Try.prog 21 #[.slice A n c, .int .i64 4, .bool big, .slice (some ⟨g, 0, none⟩) N N] w (VLay A (l ++ rowB big (evs 4 L)) base w)) := Lib.hid (vlay_any 4 (.inr rfl) big)
  unfold VPut
  rw [show vmN.K = vkN from rfl]
  generalize vsP vkN big L = P at HK HP0 HPn
  generalize vsB vkN big L = PL at HPn hb ⊢
  clear hs hk h hok hn
  go_enter Try.func9, Try.ntmps9
  go_wp2_with fail
  go_loopw [6, 14] (fun x i wr => ∃ (k : Nat) (A2 : Option Addr) (m c2 : Nat), k ≤ n ∧ i = .int .i64 k ∧ x = .slice A2 m c2 ∧ m = (P k).length ∧ OB wr w.heap.size 5 A2 m c2 (P k) ∧ Hid (∀ j (hj : j < L.length), j < k → L[j].May = true) ∧ Grow w wr) (fun _ i _ => n - (intOf i).toNat)
  case atStart => exact ⟨0, none, 0, 0, Nat.zero_le _, rfl, rfl, by rw [HP0.out]; rfl, by rw [HP0.out]; exact OB.nil, Lib.hid fun j _ hj => absurd hj (by omega), Grow.refl _⟩
  case round =>
    obtain ⟨i, A2, m, c2, hi, rfl, rfl, hm, ho, HMy, hg⟩ := hrel
    have HM := Lib.hid hm
    have HO := Lib.hid ho
    have HG := Lib.hid hg
    clear ho hg hm
    by_cases hlt : i < n
    · obtain ⟨b, off', rfl, -, -⟩ := HS.out.pos (by omega)
      have HSw := Lib.hid (HS.out.belowAt HG.out (Nat.le_refl _))
      obtain ⟨h0, A1, n1, c1, RR, f0, f1, f2, f3, Q, E, hmay⟩ := HK.out i hlt
      have HE := Lib.hid E
      have HMay := Lib.hid hmay
      have HkM := Lib.hid E.ir
      have HRk := Lib.hid E.row
      have HC1 : Hid ((#[.int .u32 (h0 : Int), .slice A1 n1 c1] : Array Value).all (·.oneCell') = true) := Lib.hid (by simp [Value.oneCell'])
      have b0 := E.b0
      have hsz := E.size
      have hcap1 := E.cap
      have hmax1 := E.max
      unfold maxLen at hmax1
      clear E hmay
      have z0 : (0 : Int) ≤ (i : Int) := by omega
      have z1 : (i : Int) < (n : Int) := by omega
      go_wp2_with (first | (refine wpList_load_zs HSw.out HkM.out rfl 58 (.tmp 17) rfl rfl _ Try.underlying58 rfl (by kernel_rfl) _ (HRk.out _) ?_) | (refine wpList_store_row rfl 58 (.tmp 8) (.tmp 18) rfl wr.heap.size _ rfl rfl _ _ (Blk.new _ _ _) (by kernel_rfl) rfl HC1.out ?_; rw [World.setRow_alloc_new]; refine Hid.out ?_))
      generalize hW : World.alloc _ _ = w3
      obtain ⟨br, hg3⟩ := blk1 hW
      have HNe3 : Hid (own A2 ≠ some wr.heap.size) := Lib.hid (HO.out.ne (.inr (Nat.le_refl _)))
      have HO3 := Lib.hid (HO.out.keep hg3)
      have HBR3 := Lib.hid br
      have HG3 : Hid (Grow w w3) := HG.out.trans hg3
      have HD3 : Hid (w.heap.size ≤ wr.heap.size) := Lib.hid HG.out.size
      generalize wr.heap.size = g8 at HNe3 HBR3 HD3 ⊢
      clear hW hg3 br HO HG HSw HkM HRk HC1 z0 z1
      refine Lib.hid (wpList_nil ?_)
      unfold Exit.then
      apply_assumption
      obtain ⟨y0, y1⟩ := HBR3.out.c2
      go_wp2_with fail
      clear y0 y1
      refine (mayBe_any n1 _).mono ?_
      rintro e w' ⟨rfl, rfl⟩
      by_cases hmy : (decide (1 ≤ n1) && decide (n1 ≤ 65535)) = true
      · rw [hmy]
        have hn65 : n1 ≤ 65535 := by
          rw [Bool.and_eq_true, decide_eq_true_eq, decide_eq_true_eq] at hmy
          exact hmy.2
        have x2 : IntKind.u64.wrap (n1 : Int) = (n1 : Int) := by rw [IntKind.wrap_u64]; omega
        obtain ⟨y0, y1⟩ := HBR3.out.c2
        go_wp2_with fail
        clear y0 y1 x2
        have HN4 := Lib.hid (show Blk (w3.alloc (.cells #[.int .u64 1, .int .u64 (n1 : Int)] 62)) w3.heap.size 62 (u64s [1, n1]) from Blk.new _ _ _)
        have HO4 := Lib.hid (HO3.out.keep (Grow.of_alloc w3 (.cells #[.int .u64 1, .int .u64 (n1 : Int)] 62)))
        have HBR4 := Lib.hid (HBR3.out.alloc (.cells #[.int .u64 1, .int .u64 (n1 : Int)] 62))
        have HG4 : Hid (Grow w (w3.alloc (.cells #[.int .u64 1, .int .u64 (n1 : Int)] 62))) := HG3.out.trans (Grow.of_alloc _ _)
        generalize w3.alloc _ = w4 at HN4 HO4 HBR4 HG4 ⊢
        generalize w3.heap.size = g9 at HN4 ⊢
        clear HO3 HBR3 HG3
        have hm6 : m ≤ 100000 := by have := HM.out; omega
        refine (HLay2.out [1, n1] 2 g9 rfl A2 m c2 _ _ _ HO4.out HN4.out HG4.out.size (by omega) (by omega)).mono ?_
        rintro e w5 ⟨A5, c5, rfl, ho5, hb5, hl5⟩
        have hbr5 := hl5.blk HNe3.out HBR4.out
        have HO5 := Lib.hid ho5
        have HBR5 := Lib.hid hbr5.1
        have HNe5 := Lib.hid hbr5.2
        have HG5 : Hid (Grow w w5) := HG4.out.trans' hb5
        have HL1 : Hid ((P i ++ rowB big (evs 2 [1, n1])).length = m + 4) := Lib.hid (by rw [List.length_append, len_evs, ← HM.out]; rfl)
        rw [HL1.out] at HO5
        rw [HL1.out]
        clear ho5 hb5 hl5 hbr5 HO4 HBR4 HG4 HN4 HL1
        generalize hP5 : P i ++ rowB big (evs 2 [1, n1]) = P5 at HO5
        have HP5 := Lib.hid hP5
        clear hP5
        obtain ⟨m8, hm8⟩ : ∃ q, q = 16 * n1 := ⟨_, rfl⟩
        obtain ⟨off, hoff⟩ : ∃ q, q = 16 + m8 := ⟨_, rfl⟩
        have HSc := Lib.hid HE.out.succ
        rw [← hm8, ← hoff] at HSc
        have zm : IntKind.i64.wrap ((n1 : Int) * 16) = (m8 : Int) := by rw [IntKind.wrap_i64]; omega
        have za : IntKind.i64.wrap (16 + (m8 : Int)) = (off : Int) := by rw [IntKind.wrap_i64]; omega
        have zu : IntKind.u64.wrap (h0 : Int) = (h0 : Int) := by rw [IntKind.wrap_u64]; omega
        have HNx := Lib.hid fun w => nextOf_any i n off w hlt (by omega) (by omega)
        generalize nx i n off = nv at HSc HNx
        clear hm8 hoff
        go_wp2_with fail
        refine wp_region_leap (leap_kept (fun k => k = g8)) [(0, true), (1, true), (2, true), (3, true), (4, true), (5, true), (6, true), (7, true), (8, true), (9, true), (10, true), (11, false), (12, false), (13, false), (14, true)] (by kernel_rfl) (by kernel_rfl) (by kernel_rfl) ?_
        have HX : Hid (∀ W, Kept (fun k => k = g8) w5.drew W → _ ∧ _) := fun W hW => ((HBR5.out.drew).kept hW rfl).c2
        have HO6 : Hid (OB w5.drew _ _ _ _ _ _) := HO5.out
        have HBR6 := Lib.hid HBR5.out.drew
        have HG6 : Hid (Grow w w5.drew) := HG5.out.trans (Grow.of_drew _)
        generalize w5.drew = w6 at HX HO6 HBR6 HG6 ⊢
        clear HO5 HBR5 HG5
        repeat (refine chain_take rfl (by rfl) ?_ (fun W hG => ?_) ?_; rotate_left; (obtain ⟨q1, q2⟩ := HX.out W hG; go_simp; rfl); simp only [Act.put, List.setIfInBounds_toArray, List.set_cons_zero, List.set_cons_succ])
        clear HX zm za zu
        refine chain_only rfl (by rfl) (fun K hK => ?_)
        go_simp
        refine (HNx.out _).mono ?_
        rintro e w' ⟨rfl, rfl⟩
        refine hK _ _ ((leap_kept _).refl _) ?_
        clear hK K HNx
        refine chain_only rfl (by rfl) (fun K hK => ?_)
        go_simp
        refine hK _ _ (Kept.of_grow (Grow.of_alloc _ _)) ?_
        clear hK K
        have HN7 := Lib.hid (show Blk (w6.alloc (.cells #[.int .u64 (h0 : Int), .int .u64 16, .int .u64 (nv : Int)] 62)) w6.heap.size 62 (u64s [h0, 16, nv]) from Blk.new _ _ _)
        have HO7 := Lib.hid (HO6.out.keep (Grow.of_alloc w6 (.cells #[.int .u64 (h0 : Int), .int .u64 16, .int .u64 (nv : Int)] 62)))
        have HBR7 := Lib.hid (HBR6.out.alloc (.cells #[.int .u64 (h0 : Int), .int .u64 16, .int .u64 (nv : Int)] 62))
        have HG7 : Hid (Grow w (w6.alloc (.cells #[.int .u64 (h0 : Int), .int .u64 16, .int .u64 (nv : Int)] 62))) := HG6.out.trans (Grow.of_alloc _ _)
        generalize w6.alloc _ = w7 at HN7 HO7 HBR7 HG7 ⊢
        generalize w6.heap.size = g10 at HN7 ⊢
        clear HO6 HBR6 HG6
        refine chain_only rfl (by rfl) (fun K hK => ?_)
        go_simp
        refine (HLay4.out [h0, 16, nv] 3 g10 rfl A5 (m + 4) c5 _ _ _ HO7.out HN7.out HG7.out.size (by omega) (by omega)).mono ?_
        rintro e w8 ⟨A8, c8, rfl, ho8, hb8, hl8⟩
        refine hK _ _ ⟨hl8.1, fun j hj hj2 => by subst hj2; exact hl8.2.1 _ hj HNe5.out⟩ ?_
        clear hK K
        have hbr8 := hl8.blk HNe5.out HBR7.out
        have HO8 := Lib.hid ho8
        have HBR8 := Lib.hid hbr8.1
        have HG8 : Hid (Grow w w8) := HG7.out.trans' hb8
        have HL2 : Hid ((P5 ++ rowB big (evs 4 [h0, 16, nv])).length = m + 16) := Lib.hid (by rw [← HP5.out, List.length_append, List.length_append, len_evs, len_evs, ← HM.out]; rfl)
        rw [HL2.out] at HO8
        rw [HL2.out]
        clear ho8 hb8 hl8 hbr8 HO7 HBR7 HG7 HN7 HNe5
        repeat (refine chain_take rfl (by rfl) ?_ (fun W hG => ?_) ?_; rotate_left; (go_simp; rfl); simp only [Act.put, List.setIfInBounds_toArray, List.set_cons_zero, List.set_cons_succ])
        refine chain_done ?_
        have HSc2 : Hid (P (i + 1) = (P5 ++ rowB big (evs 4 [h0, 16, nv])) ++ Q n1) := Lib.hid (by rw [HSc.out, ← HP5.out]; simp only [List.append_assoc])
        generalize P5 ++ rowB big (evs 4 [h0, 16, nv]) = P8 at HO8 HL2 HSc2
        clear HSc HP5
        obtain ⟨y0, y1⟩ := HBR8.out.c2
        go_wp2_with fail
        clear y0 y1
        go_loopw [6, 49] (fun x j wr => ∃ (k : Nat) (A2 : Option Addr) (m2 c2 : Nat), k ≤ n1 ∧ j = .int .i64 k ∧ x = .slice A2 m2 c2 ∧ m2 = m + 16 + k * 16 ∧ OB wr w.heap.size 5 A2 m2 c2 (P8 ++ Q k) ∧ Grow w wr) (fun _ j _ => n1 - (intOf j).toNat)
        case atStart => exact ⟨0, A8, m + 16, c8, Nat.zero_le _, rfl, rfl, by omega, by rw [HE.out.q0, List.append_nil]; exact HO8.out, HG8.out⟩
        case round =>
          obtain ⟨k, A9, m9, c9, hk, rfl, rfl, hm9, ho, hg⟩ := hrel
          have HO9 := Lib.hid ho
          have HG9 := Lib.hid hg
          have HM9 := Lib.hid hm9
          clear ho hg HO8 HG8 HBR8 hm9
          by_cases hkn : k < n1
          · obtain ⟨b2, o2, hA1, -, -⟩ := HE.out.zs.pos (by omega)
            subst hA1
            obtain ⟨hkR, hRk, k0, k1, k2, k3⟩ := HE.out.rr k hkn
            have HQs := Lib.hid (HE.out.qs k)
            have HNx := Lib.hid fun w => nextOf_any k n1 16 w hkn (by omega) (by omega)
            generalize nx k n1 16 = nv2 at HQs HNx
            have HkR := Lib.hid hkR
            have HRk := Lib.hid hRk
            generalize f0 k = x0 at HQs HRk k0
            generalize f1 k = x1 at HQs HRk k1
            generalize f2 k = x2 at HQs HRk k2
            generalize f3 k = x3 at HQs HRk k3
            have HZw := Lib.hid (HE.out.zs.belowAt HG9.out (Nat.le_refl _))
            have HC1 : Hid ((#[.int .u32 (x0 : Int), .int .u16 (x1 : Int), .int .u16 (x2 : Int), .int .u32 (x3 : Int)] : Array Value).all (·.oneCell') = true) := Lib.hid (by simp [Value.oneCell'])
            have z0 : (0 : Int) ≤ (k : Int) := by omega
            have z1 : (k : Int) < (n1 : Int) := by omega
            have hm9 : m9 ≤ 300000 := by have := HM9.out; omega
            clear hkR hRk
            go_wp2_with (first | (refine wpList_load_zs HZw.out HkR.out rfl 68 (.tmp 52) rfl rfl _ Try.underlying68 rfl (by kernel_rfl) _ (HRk.out _) ?_) | (refine wpList_store_row rfl 68 (.tmp 11) (.tmp 53) rfl wr.heap.size _ rfl rfl _ _ (Blk.new _ _ _) (by kernel_rfl) rfl HC1.out ?_; rw [World.setRow_alloc_new]; refine Hid.out ?_))
            generalize hW : World.alloc _ _ = w10
            obtain ⟨br, hg10⟩ := blk1 hW
            have HNe10 : Hid (own A9 ≠ some wr.heap.size) := Lib.hid (HO9.out.ne (.inr (Nat.le_refl _)))
            have HO10 := Lib.hid (HO9.out.keep hg10)
            have HX10 := Lib.hid br
            have HG10 : Hid (Grow w w10) := HG9.out.trans hg10
            generalize wr.heap.size = gx at HNe10 HX10 ⊢
            clear hW hg10 br HO9 HG9 HZw HkR HRk HC1 z0 z1
            refine Lib.hid (wpList_nil ?_)
            unfold Exit.then
            apply_assumption
            have e_x0 : IntKind.u64.wrap (x0 : Int) = (x0 : Int) := by rw [IntKind.wrap_u64]; omega
            obtain ⟨y0, y1, y2, y3⟩ := HX10.out.c4
            go_wp2_with fail
            clear y0 y1 y2 y3 e_x0
            have HN11 := Lib.hid (show Blk (w10.alloc (.cells #[.int .u64 (x0 : Int)] 62)) w10.heap.size 62 (u64s [x0]) from Blk.new _ _ _)
            have HO11 := Lib.hid (HO10.out.keep (Grow.of_alloc w10 (.cells #[.int .u64 (x0 : Int)] 62)))
            have HX11 := Lib.hid (HX10.out.alloc (.cells #[.int .u64 (x0 : Int)] 62))
            have HG11 : Hid (Grow w (w10.alloc (.cells #[.int .u64 (x0 : Int)] 62))) := HG10.out.trans (Grow.of_alloc _ _)
            generalize w10.alloc _ = w11 at HN11 HO11 HX11 HG11 ⊢
            generalize w10.heap.size = g11 at HN11 ⊢
            clear HO10 HX10 HG10
            refine (HLay4.out [x0] 1 g11 rfl A9 m9 c9 _ _ _ HO11.out HN11.out HG11.out.size (by omega) (by omega)).mono ?_
            rintro e w12 ⟨A12, c12, rfl, ho12, hb12, hl12⟩
            have hbr12 := hl12.blk HNe10.out HX11.out
            have HX12 := Lib.hid hbr12.1
            have HNe12 := Lib.hid hbr12.2
            have HG12 : Hid (Grow w w12) := HG11.out.trans' hb12
            have HL12 : Hid (((P8 ++ Q k) ++ rowB big (evs 4 [x0])).length = m9 + 4) := Lib.hid (by rw [List.length_append, List.length_append, HL2.out, len_evs, HE.out.ql, HM9.out]; rfl)
            rw [HL12.out] at ho12
            rw [HL12.out]
            have HO12 := Lib.hid ho12
            clear ho12 hb12 hl12 hbr12 HO11 HX11 HG11 HN11 HNe10
            generalize hP12 : (P8 ++ Q k) ++ rowB big (evs 4 [x0]) = P12 at HO12 HL12
            have HP12 := Lib.hid hP12
            clear hP12
            have e_x1 : IntKind.u64.wrap (x1 : Int) = (x1 : Int) := by rw [IntKind.wrap_u64]; omega
            have e_x2 : IntKind.u64.wrap (x2 : Int) = (x2 : Int) := by rw [IntKind.wrap_u64]; omega
            obtain ⟨y0, y1, y2, y3⟩ := HX12.out.c4
            go_wp2_with fail
            clear y0 y1 y2 y3 e_x1 e_x2
            have HN13 := Lib.hid (show Blk (w12.alloc (.cells #[.int .u64 (x1 : Int), .int .u64 (x2 : Int)] 62)) w12.heap.size 62 (u64s [x1, x2]) from Blk.new _ _ _)
            have HO13 := Lib.hid (HO12.out.keep (Grow.of_alloc w12 (.cells #[.int .u64 (x1 : Int), .int .u64 (x2 : Int)] 62)))
            have HX13 := Lib.hid (HX12.out.alloc (.cells #[.int .u64 (x1 : Int), .int .u64 (x2 : Int)] 62))
            have HG13 : Hid (Grow w (w12.alloc (.cells #[.int .u64 (x1 : Int), .int .u64 (x2 : Int)] 62))) := HG12.out.trans (Grow.of_alloc _ _)
            generalize w12.alloc _ = w13 at HN13 HO13 HX13 HG13 ⊢
            generalize w12.heap.size = g13 at HN13 ⊢
            clear HO12 HX12 HG12
            refine (HLay2.out [x1, x2] 2 g13 rfl A12 (m9 + 4) c12 _ _ _ HO13.out HN13.out HG13.out.size (by omega) (by omega)).mono ?_
            rintro e w14 ⟨A14, c14, rfl, ho14, hb14, hl14⟩
            have hbr14 := hl14.blk HNe12.out HX13.out
            have HX14 := Lib.hid hbr14.1
            have HNe14 := Lib.hid hbr14.2
            have HG14 : Hid (Grow w w14) := HG13.out.trans' hb14
            have HL14 : Hid ((P12 ++ rowB big (evs 2 [x1, x2])).length = m9 + 8) := Lib.hid (by rw [List.length_append, HL12.out, len_evs]; rfl)
            rw [HL14.out] at ho14
            rw [HL14.out]
            have HO14 := Lib.hid ho14
            clear ho14 hb14 hl14 hbr14 HO13 HX13 HG13 HN13 HNe12
            generalize hP14 : P12 ++ rowB big (evs 2 [x1, x2]) = P14 at HO14 HL14
            have HP14 := Lib.hid hP14
            clear hP14
            have e_x3 : IntKind.u64.wrap (x3 : Int) = (x3 : Int) := by rw [IntKind.wrap_u64]; omega
            go_wp2_with fail
            refine wp_region_leap (leap_kept (fun k => k = gx)) [(0, true), (1, true), (2, true), (3, true), (4, true), (5, true), (6, true), (7, false), (8, false), (9, false), (10, true)] (by kernel_rfl) (by kernel_rfl) (by kernel_rfl) ?_
            have HX : Hid (∀ W, Kept (fun k => k = gx) w14.drew W → _ ∧ _ ∧ _ ∧ _) := fun W hW => ((HX14.out.drew).kept hW rfl).c4
            have HO15 : Hid (OB w14.drew _ _ _ _ _ _) := HO14.out
            have HG15 : Hid (Grow w w14.drew) := HG14.out.trans (Grow.of_drew _)
            generalize w14.drew = w15 at HX HO15 HG15 ⊢
            clear HO14 HX14 HG14
            repeat (refine chain_take rfl (by rfl) ?_ (fun W hG => ?_) ?_; rotate_left; (obtain ⟨q1, q2, q3, q4⟩ := HX.out W hG; go_simp; rfl); simp only [Act.put, List.setIfInBounds_toArray, List.set_cons_zero, List.set_cons_succ])
            clear HX e_x3
            refine chain_only rfl (by rfl) (fun K hK => ?_)
            go_simp
            refine (HNx.out _).mono ?_
            rintro e w' ⟨rfl, rfl⟩
            refine hK _ _ ((leap_kept _).refl _) ?_
            clear hK K HNx
            refine chain_only rfl (by rfl) (fun K hK => ?_)
            go_simp
            refine hK _ _ (Kept.of_grow (Grow.of_alloc _ _)) ?_
            clear hK K
            have HN16 := Lib.hid (show Blk (w15.alloc (.cells #[.int .u64 (x3 : Int), .int .u64 (nv2 : Int)] 62)) w15.heap.size 62 (u64s [x3, nv2]) from Blk.new _ _ _)
            have HO16 := Lib.hid (HO15.out.keep (Grow.of_alloc w15 (.cells #[.int .u64 (x3 : Int), .int .u64 (nv2 : Int)] 62)))
            have HG16 : Hid (Grow w (w15.alloc (.cells #[.int .u64 (x3 : Int), .int .u64 (nv2 : Int)] 62))) := HG15.out.trans (Grow.of_alloc _ _)
            generalize w15.alloc _ = w16 at HN16 HO16 HG16 ⊢
            generalize w15.heap.size = g16 at HN16 ⊢
            clear HO15 HG15
            refine chain_only rfl (by rfl) (fun K hK => ?_)
            go_simp
            refine (HLay4.out [x3, nv2] 2 g16 rfl A14 (m9 + 8) c14 _ _ _ HO16.out HN16.out HG16.out.size (by omega) (by omega)).mono ?_
            rintro e w17 ⟨A17, c17, rfl, ho17, hb17, hl17⟩
            refine hK _ _ ⟨hl17.1, fun j hj hj2 => by subst hj2; exact hl17.2.1 _ hj HNe14.out⟩ ?_
            clear hK K
            have HG17 : Hid (Grow w w17) := HG16.out.trans' hb17
            have HL17 : Hid ((P14 ++ rowB big (evs 4 [x3, nv2])).length = m9 + 16) := Lib.hid (by rw [List.length_append, HL14.out, len_evs]; rfl)
            rw [HL17.out] at ho17
            rw [HL17.out]
            have HO17 : Hid (OB w17 w.heap.size 5 A17 (m9 + 16) c17 (P8 ++ Q (k + 1))) := Lib.hid (by
              have e : P8 ++ Q (k + 1) = P14 ++ rowB big (evs 4 [x3, nv2]) := by rw [HQs.out, ← HP14.out, ← HP12.out]; simp only [List.append_assoc]
              rw [e]; exact ho17)
            clear ho17 hb17 hl17 HO16 HG16 HN16 HNe14 HP14 HP12 HL17 HL14 HL12 HQs
            repeat (refine chain_take rfl (by rfl) ?_ (fun W hG => ?_) ?_; rotate_left; (go_simp; rfl); simp only [Act.put, List.setIfInBounds_toArray, List.set_cons_zero, List.set_cons_succ])
            refine chain_done ?_
            go_wp2
            go_roundw
            case rel => exact ⟨k + 1, A17, m9 + 16, c17, by omega, by go_num, by trivial, by rw [HM9.out, Nat.succ_mul]; omega, HO17.out, HG17.out⟩
            case measure => simp [intOf]; omega
          · have e : k = n1 := by omega
            subst e
            rw [← HSc2.out] at HO9
            have HLn : Hid (m9 = (P (i + 1)).length) := Lib.hid (by rw [HSc2.out, List.length_append, HL2.out, HE.out.ql]; exact HM9.out)
            have HMy2 : Hid (∀ j (hj : j < L.length), j < i + 1 → L[j].May = true) := Lib.hid fun j hjl hj => by
              by_cases e : j < i
              · exact HMy.out j hjl e
              · have : j = i := by omega
                subst this
                rw [HMay.out]; exact hmy
            clear HMy HMay HSc2 HL2 HE
            go_wp2
            go_roundw
            case rel => exact ⟨i + 1, A9, m9, c9, by omega, by go_num, by trivial, HLn.out, HO9.out, HMy2, HG9.out⟩
            case measure => simp [intOf]; omega
      · have hmf : (decide (1 ≤ n1) && decide (n1 ≤ 65535)) = false := by simpa using hmy
        rw [hmf]
        have HF : Hid (VMays L = false) := Lib.hid (mays_no (i := i) (by rw [← HNl.out]; exact hlt) (by rw [HMay.out]; exact hmf))
        clear HMay hmf hmy
        go_wp2
        go_ret2
        exact .inr ⟨HF.out, rfl, HG3.out⟩
    · have e : i = n := by omega
      subst e
      have HF : Hid (VMays L = true) := Lib.hid (mays_yes fun j hj => HMy.out j hj (by rw [HNl.out]; exact hj))
      rw [HPn.out] at HO HM
      go_wp2
      go_ret2
      exact .inl ⟨HF.out, A2, c2, by rw [HM.out]; rfl, by rw [← HM.out]; exact HO.out, HG.out⟩
end Go.Proofs.Ytfnaigeakfgpbaa
