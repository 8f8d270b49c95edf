/-
  The contract of the document's own PutRels: the bytes of any relocations, or that they may not be: of 32 bits.
-/
import Derived.Test.YtkgjebkjpcpoaaaReRow
import Derived.Test.YtkgjebkjpcpoaaaCut
namespace Go.Proofs.Ytkgjebkjpcpoaaa
open Go.RowKit

set_option maxRecDepth 100000 in
set_option maxHeartbeats 4000000 in
theorem rPutE_N (A : Option Addr) (n c : Nat) (L : List Re) (hok : ∀ s ∈ L, s.Ok) (h400 : L.length ≤ 1000) (wide adds big : Bool) (hwd : wide = false) (w : World) (h : ZS w w.heap.size 4 A n c (L.map Re.C)) :
    Calls Try.prog 7 #[.slice A n c, .agg #[.bool wide, .bool big], .bool adds] w (RPutE L wide adds big w) := by
  have hn : n = L.length := by have := h.len; simpa using this
  have HS := Lib.hid h
  have HWD := Lib.hid hwd
  clear hwd
  have hcp := h.cap
  have hmx := h.max
  unfold maxLen at hmx
  have hn4 : n ≤ 1000 := by omega
  clear h h400
  have HK : Hid (∀ k, k < n → ∃ p : Re, p.Ok ∧ (∀ hk : k < (L.map Re.C).length, (L.map Re.C)[k] = p.C) ∧ reP L wide adds big (k + 1) = reP L wide adds big k ++ rowB big (p.Q wide adds) ∧
      mays wide adds (L.take (k + 1)) = (mays wide adds (L.take k) && p.May wide adds) ∧ (p.May wide adds = false → mays wide adds L = false)) := Lib.hid (fun k hk => by
    have hkl : k < L.length := by omega
    exact ⟨L[k], hok _ (List.getElem_mem hkl), fun _ => List.getElem_map _, reP_succ L wide adds big k hkl, mays_snoc wide adds L k hkl, fun h => mays_not hkl h⟩)
  have HPl : Hid (∀ k, k ≤ n → (reP L wide adds big k).length ≤ 24000) := Lib.hid (fun k hk => by
    rw [reP_len L wide adds big k (by omega)]
    exact Nat.mul_le_mul (show k ≤ 1000 by omega) (reSize_le wide adds))
  have HP0 : Hid (reP L wide adds big 0 = []) := Lib.hid rfl
  have HPn : Hid (reP L wide adds big n = rowB big (relQ wide adds L)) := Lib.hid (by rw [reP, hn, List.take_length])
  have HMn : Hid (mays wide adds (L.take n) = mays wide adds L) := Lib.hid (by rw [hn, List.take_length])
  have HML : Hid ((L.map Re.C).length = n) := Lib.hid (by simp [hn])
  have HM0 : Hid (mays wide adds (L.take 0) = true) := Lib.hid rfl
  unfold RPutE
  generalize reP L wide adds big = P at HK HPl HP0 HPn
  obtain ⟨m, hm⟩ : ∃ m : Nat → Bool, m = fun k => mays wide adds (L.take k) := ⟨_, rfl⟩
  have em : ∀ k, mays wide adds (L.take k) = m k := fun k => by rw [hm]
  simp only [em] at HK HMn HM0
  generalize mays wide adds L = ms at HK HMn ⊢
  generalize rowB big (relQ wide adds L) = PL at HPn ⊢
  generalize L.map Re.C = M at HS HK HML
  clear hn hok em hm
  have HRw : Hid (∀ w, Calls Try.prog 20 #[.agg #[.bool wide, .bool big], .bool adds] w fun e w' =>
      ∃ g, e = .returned (.slice (some ⟨g, 0, none⟩) (reN adds : Nat) (reN adds : Nat)) ∧ NS w' w'.heap.size .i64 (some ⟨g, 0, none⟩) (reN adds) (reN adds) (reRow wide adds) ∧ Grow w w') := Lib.hid fun w =>
    (relRow_any wide big adds w).mono fun e w' ⟨g, he, hb, _, hg⟩ => ⟨g, he, NS.of_blkN hb (len_reRow wide adds) (by cases adds <;> decide) hb.lt rfl, hg⟩
  have HSnd := Lib.hid (fun p : Re => p.sndQ wide adds)
  have HRow := Lib.hid (fun (p : Re) (ok : p.Ok) => p.rowed ok wide adds)
  have HFst : Hid (∀ (p : Re) (W : World) (g : Nat), Blk W g 44 #[.int .u64 (p.off : Int), .int .u64 (p.both wide : Nat), .int .u64 (p.ad wide : Nat)] → NS W W.heap.size .u64 (some ⟨g, 0, none⟩) (reN adds) 3 ((p.Q wide adds).map (·.1))) := Lib.hid fun p W g hb => by
    have := (NS.of_blk (B := W.heap.size) (l := [p.off, p.both wide, p.ad wide]) hb rfl hb.lt (by show 3 ≤ maxLen; decide)).first (m := reN adds) (by show reN adds ≤ 3; cases adds <;> decide)
    cases adds <;> exact this
  generalize reRow wide adds = row at HRw HSnd
  have hnn : reN adds ≤ 3 := by cases adds <;> decide
  have HNN := Lib.hid hnn
  clear hnn
  generalize reN adds = nn at HRw HFst HNN
  go_enter Try.func7, Try.ntmps7
  go_wp2_with fail
  generalize hW : World.alloc _ _ = W0
  obtain ⟨bf, hg0⟩ := blk1 hW
  clear hW
  have HBF0 := Lib.hid bf
  have HG0 := Lib.hid hg0
  clear bf hg0
  go_loopw [8, 9] (fun x i wr => ∃ (k : Nat) (A2 : Option Addr) (c2 : Nat), k ≤ n ∧ i = .int .i64 k ∧ x = .slice A2 (P k).length c2 ∧ OB wr (w.heap.size + 1) 5 A2 (P k).length c2 (P k) ∧
    Blk wr w.heap.size 24 #[.bool wide, .bool big] ∧ m k = true ∧ Grow w wr) (fun _ i _ => n - (intOf i).toNat)
  case atStart => exact ⟨0, none, 0, Nat.zero_le _, rfl, by rw [HP0.out]; rfl, by rw [HP0.out]; exact OB.nil, HBF0.out, HM0.out, HG0.out⟩
  case round =>
    obtain ⟨k, A2, c2, hk, rfl, rfl, ho, hbf, hrf, hg⟩ := hrel
    have HO := Lib.hid ho
    have HBF := Lib.hid hbf
    have HRF := Lib.hid hrf
    have HG := Lib.hid hg
    clear ho hbf hrf hg HBF0 HG0
    by_cases hlt : k < n
    · obtain ⟨b, off', rfl, -, -⟩ := HS.out.pos (by omega)
      have HSw := Lib.hid (HS.out.belowAt HG.out (Nat.le_refl _))
      obtain ⟨p, ok, hCk, hPk, hMk, hNo⟩ := HK.out k hlt
      have HkM : Hid (k < M.length) := Lib.hid (by rw [HML.out]; exact hlt)
      have HCk := Lib.hid hCk
      have HRy := Lib.hid (HRow.out p ok)
      have HSn := Lib.hid (HSnd.out p)
      have HFs := Lib.hid (HFst.out p)
      rw [HRF.out, Bool.true_and] at hMk
      have HMk := Lib.hid hMk
      have HNo := Lib.hid hNo
      have HPk := Lib.hid hPk
      have HLe := Lib.hid (HPl.out (k + 1) hlt)
      rw [HPk.out, List.length_append] at HLe
      have HMf := Lib.hid (fun h1 h2 => Re.may_fits p ok (wide := wide) (adds := adds) h1 h2)
      have HM1 := Lib.hid (fun h => Re.may_no1 p (wide := wide) (adds := adds) h)
      have HM2 : Hid (wide = false → NarrowNo p.sym p.ty p.add → p.May wide adds = false) := Lib.hid (fun hw h => by subst hw; exact Re.may_no2 p (narrow_no h))
      obtain ⟨off, sym, ty, add⟩ := p
      obtain ⟨-, k1, k2, -, -⟩ := ok
      unfold Re.C at HCk
      have HC1 : Hid ((#[.int .u64 (off : Int), .int .u32 (sym : Int), .int .u32 (ty : Int), .int .i64 add] : Array Value).all (·.oneCell') = true) := Re.one ⟨off, sym, ty, add⟩
      generalize hsq : Re.Q ⟨off, sym, ty, add⟩ wide adds = sq at HPk HLe HRy HSn HFs HMf
      generalize Re.May ⟨off, sym, ty, add⟩ wide adds = my at HMk HNo HMf HM1 HM2
      simp only [] at *
      clear hsq hCk hPk hMk hNo
      have z0 : (0 : Int) ≤ (k : Int) := by omega
      have z1 : (k : Int) < (n : Int) := by omega
      have hno := narrow_or sym ty add
      have HZ0 := Lib.hid k1
      have HZ1 := Lib.hid k2
      clear k1 k2
      go_wp2_with (first | (refine wpList_load_zs HSw.out HkM.out rfl 47 (.tmp 24) rfl rfl _ Try.underlying47 rfl (by kernel_rfl) _ (HCk.out _) ?_) | (refine wpList_store_row rfl 47 (.tmp 10) (.tmp 25) rfl wr.heap.size _ rfl rfl _ _ (Blk.new _ _ _) (by kernel_rfl) rfl HC1.out ?_; rw [World.setRow_alloc_new]; refine Hid.out ?_))
      generalize hW : World.alloc _ _ = w3
      obtain ⟨br, hg3⟩ := blk1 hW
      have HO3 := Lib.hid (HO.out.keep hg3)
      have HBF3 := Lib.hid (HBF.out.grow hg3)
      have HBR3 := Lib.hid br
      have HG3 : Hid (Grow w w3) := HG.out.trans hg3
      generalize wr.heap.size = g8 at HBR3 ⊢
      clear hW hg3 br HO HBF HG HSw HkM HCk HC1 z0 z1
      refine Lib.hid (wpList_nil ?_)
      unfold Exit.then
      apply_assumption
      apply wp_seq_k
      intro K6 hK6
      obtain ⟨nb, hnb⟩ : ∃ nb : Bool, (nb = false ∧ NarrowNo sym ty add) ∨ (nb = true ∧ NarrowYes sym ty add) := by
        rcases hno with h | h
        · exact ⟨false, .inl ⟨rfl, h⟩⟩
        · exact ⟨true, .inr ⟨rfl, h⟩⟩
      clear hno
      refine wp_cut (fun a a' w' => w3 = w' ∧ a' = ⟨((a.tmps.toList.take 26 ++ (a'.tmps.toList.drop 26).take 18 ++ a.tmps.toList.drop 44).toArray).setIfInBounds 11 (.bool nb), a.defers⟩ ∧ ((a'.tmps.toList.drop 26).take 18).length = 18) ?_ ?_
      · obtain ⟨y0, y1, y2, y3⟩ := HBR3.out.c4
        unfold NarrowNo NarrowYes at hnb
        rcases hnb with ⟨rfl, (q1 | ⟨q1, q2⟩ | ⟨q1, q2, q3⟩ | ⟨q1, q2, q3, q4⟩)⟩ | ⟨rfl, q1, q2, q3, q4⟩
        all_goals
          go_wp2
          done
      · rintro a' w' ⟨rfl, ha, hl⟩
        generalize (a'.tmps.toList.drop 26).take 18 = vs at ha hl
        obtain ⟨v0, v1, v2, v3, v4, v5, v6, v7, v8, v9, v10, v11, v12, v13, v14, v15, v16, v17, rfl⟩ := list18 hl
        subst ha
        clear hl
        apply hK6
        simp only [List.take_succ_cons, List.take_zero, List.drop_succ_cons, List.drop_zero, List.cons_append, List.nil_append, List.setIfInBounds_toArray, List.set_cons_succ, List.set_cons_zero]
        cases hz : (adds || add == 0)
        · have HMy := Lib.hid (HNo.out (HM1.out hz))
          obtain ⟨rfl, hz2⟩ := Bool.or_eq_false_iff.1 hz
          have z2 : (add != 0) = true := by simpa using hz2
          obtain ⟨y0, y1, y2, y3⟩ := HBR3.out.c4
          obtain ⟨f0, f1⟩ := HBF3.out.c2
          clear hz hz2 HM1 HM2 HMf HNo HMk HPk HLe HRy HSn HFs hnb
          go_wp2
          go_ret2
          exact .inr ⟨HMy.out, rfl, HG3.out⟩
        · have hz0 : adds = false → (add != 0) = false := by rintro rfl; simpa using hz
          have HMf2 := Lib.hid (HMf.out hz)
          clear hz HM1 HMf
          have hp : (wide = false ∧ nb = false ∧ NarrowNo sym ty add) ∨ (wide = true ∨ nb = true ∧ NarrowYes sym ty add) := by
            cases wide
            · rcases hnb with h | h
              · exact .inl ⟨rfl, h⟩
              · exact .inr (.inr h)
            · exact .inr (.inl rfl)
          clear hnb
          rcases hp with ⟨rfl, rfl, hno⟩ | hp
          · have HMy := Lib.hid (HNo.out (HM2.out rfl hno))
            obtain ⟨y0, y1, y2, y3⟩ := HBR3.out.c4
            obtain ⟨f0, f1⟩ := HBF3.out.c2
            clear HM2 HMf2 HNo HMk HPk HLe HRy HSn HFs hno
            cases adds
            case' false => have z2 := hz0 rfl
            all_goals
              clear hz0
              go_wp2
              go_ret2
              exact .inr ⟨HMy.out, rfl, HG3.out⟩
          · apply wp_seq_k
            intro K7 hK7
            refine wp_cut (fun a a' w' => w3 = w' ∧ a' = ⟨((a.tmps.toList.take 44 ++ (a'.tmps.toList.drop 44).take 16 ++ a.tmps.toList.drop 60).toArray), a.defers⟩ ∧ ((a'.tmps.toList.drop 44).take 16).length = 16) ?_ ?_
            · have hp2 : wide = true ∨ (wide = false ∧ nb = true) := by
                cases wide
                · rcases hp with h | h
                  · cases h
                  · exact .inr ⟨rfl, h.1⟩
                · exact .inl rfl
              obtain ⟨y0, y1, y2, y3⟩ := HBR3.out.c4
              obtain ⟨f0, f1⟩ := HBF3.out.c2
              clear HM2 HMf2 HNo HMk HPk HLe HRy HSn HFs hp
              cases adds
              case' false => have z2 := hz0 rfl
              all_goals
                clear hz0
                rcases hp2 with rfl | ⟨rfl, rfl⟩
              all_goals
                go_wp2
                done
            · rintro a' w' ⟨rfl, ha, hl⟩
              generalize (a'.tmps.toList.drop 44).take 16 = vs at ha hl
              obtain ⟨u0, u1, u2, u3, u4, u5, u6, u7, u8, u9, u10, u11, u12, u13, u14, u15, rfl⟩ := list16 hl
              subst ha
              clear hl hz0
              apply hK7
              simp only [List.take_succ_cons, List.take_zero, List.drop_succ_cons, List.drop_zero, List.cons_append, List.nil_append]
              have k1 := HZ0.out
              have k2 := HZ1.out
              have zs : IntKind.u64.wrap (sym : Int) = (sym : Int) := by rw [IntKind.wrap_u64]; omega
              have zt : IntKind.u64.wrap (ty : Int) = (ty : Int) := by rw [IntKind.wrap_u64]; omega
              obtain ⟨j0, hj0⟩ : ∃ j : Nat, j = 256 * sym := ⟨_, rfl⟩
              have zj : IntKind.u64.wrap (256 * (sym : Int)) = (j0 : Int) := by rw [IntKind.wrap_u64]; omega
              obtain ⟨ua, hua⟩ : ∃ j : Nat, j = (add % (18446744073709551616 : Nat)).toNat := ⟨_, rfl⟩
              have zA : IntKind.u64.wrap add = (ua : Int) := by rw [IntKind.wrap_u64]; omega
              have hwd := HWD.out
              subst hwd
              have hyes : NarrowYes sym ty add := by
                rcases hp with h | h
                · cases h
                · exact h.2
              have HMy := Lib.hid (HMf2.out (.inr ⟨by have := hyes.1; omega, by have := hyes.2.1; omega, hyes.2.2.1, hyes.2.2.2⟩))
              have hty := hyes.2.1
              obtain ⟨bo, hbo⟩ : ∃ j : Nat, j = Re.both ⟨off, sym, ty, add⟩ false := ⟨_, rfl⟩
              obtain ⟨ad, had⟩ : ∃ j : Nat, j = Re.ad ⟨off, sym, ty, add⟩ false := ⟨_, rfl⟩
              rw [← hbo, ← had] at HFs
              have zb : IntKind.u64.wrap ((j0 : Int) + (ty : Int)) = (bo : Int) := by
                rw [IntKind.wrap_u64, hbo]; simp only [Re.both, reK, byWide, Bool.false_eq_true, if_false]; omega
              have zr : (ua : Int).tmod 4294967296 = (ad : Int) := by
                rw [show (4294967296 : Int) = ((4294967296 : Nat) : Int) from rfl, ← Int.ofNat_tmod, had, hua]; simp only [Re.ad, reM, byWide, Bool.false_eq_true, if_false]; omega
              have zc := zb
              have zd := zj
              clear hbo had k1 k2 hj0 hua HM2 HMf2 hty hyes hp
              obtain ⟨y0, y1, y2, y3⟩ := HBR3.out.c4
              obtain ⟨f0, f1⟩ := HBF3.out.c2
              go_wp2_with fail
              clear zs zt zj zA zb zc zd zr y0 y1 y2 y3 f0 f1
              refine wp_region_tree leap_grow (.chain [(0, true), (1, true), (2, true), (3, true), (5, true), (6, true), (10, true), (11, true), (13, true), (14, true)] (.both 4 (.chain [(7, false), (8, true), (9, true), (12, false), (15, false), (16, true), (17, true), (18, true), (19, true), (20, true)] .done) 7
                (.chain [(8, true)] (.both 4 (.chain [(9, true), (12, false), (15, false), (16, true), (17, true), (18, true), (19, true), (20, true)] .done) 12 (.chain [(4, false), (9, true), (15, false), (16, true), (17, true), (18, true), (19, true), (20, true)] .done))))) (by kernel_rfl) (by kernel_rfl) (by kernel_rfl) ?_
              refine tr_chain ?_
              have HX : Hid (∀ W, Grow w3.drew W → (_ ∧ _) ∧ _) := fun W hW => ⟨((HBF3.out.drew).grow hW).c2, ((HBR3.out.drew).grow hW).c4⟩
              have HB4 := Lib.hid HBF3.out.drew
              have HO4 : Hid (OB w3.drew _ _ _ _ _ _) := HO3.out
              have HG4 : Hid (Grow w w3.drew) := HG3.out.trans (Grow.of_drew _)
              generalize w3.drew = w4 at HX HB4 HO4 HG4 ⊢
              clear HO3 HBF3 HBR3 HG3
              repeat (refine chain_take rfl (by rfl) ?_ (fun W hG => ?_) ?_; rotate_left; (obtain ⟨⟨q1, q2⟩, q3, q4, q5, q6⟩ := HX.out W hG; go_simp; rfl); simp only [Act.put, List.setIfInBounds_toArray, List.set_cons_zero, List.set_cons_succ])
              clear HX
              have n0 : (nn : Int) ≤ 3 := by have := HNN.out; omega
              refine chain_done (tr_both (step_op rfl (by rfl) ?A) (step_op rfl (by rfl) ?B))
              case' A =>
                intro K hK
                go_simp
                refine hK _ _ (Grow.of_alloc _ _) ?_
                clear hK K
                have HN5 := Lib.hid (HFs.out _ _ (Blk.new w4 44 #[.int .u64 (off : Int), .int .u64 (bo : Int), .int .u64 (ad : Int)]))
                have HB5 := Lib.hid (HB4.out.alloc (.cells #[.int .u64 (off : Int), .int .u64 (bo : Int), .int .u64 (ad : Int)] 44))
                have HO5 := Lib.hid (HO4.out.keep (Grow.of_alloc w4 (.cells #[.int .u64 (off : Int), .int .u64 (bo : Int), .int .u64 (ad : Int)] 44)))
                have HG5 : Hid (Grow w (w4.alloc (.cells #[.int .u64 (off : Int), .int .u64 (bo : Int), .int .u64 (ad : Int)] 44))) := HG4.out.trans (Grow.of_alloc _ _)
                generalize w4.alloc _ = w5 at HN5 HB5 HO5 HG5 ⊢
                generalize w4.heap.size = g4 at HN5 ⊢
                clear HB4 HO4 HG4
                refine tr_chain ?_
                refine chain_only rfl (by rfl) (fun K hK => ?_)
                go_simp
                refine (HRw.out _).mono ?_
                rintro e w6 ⟨gr6, rfl, hnr, hg⟩
                refine hK _ _ hg ?_
                clear hK K
                have HB6 := Lib.hid (HB5.out.grow hg)
                have HO6 := Lib.hid (HO5.out.keep hg)
                have HG6 : Hid (Grow w w6) := HG5.out.trans hg
                have HN6 := Lib.hid ((HN5.out.belowAt hg (Nat.le_refl _)).more hg.size)
                clear hg hnr HB5 HO5 HG5 HN5
                repeat (refine chain_take rfl (by rfl) ?_ (fun W hG => ?_) ?_; rotate_left; (go_simp; rfl); simp only [Act.put, List.setIfInBounds_toArray, List.set_cons_zero, List.set_cons_succ])
                refine chain_only rfl (by rfl) (fun K hK => ?_)
                go_simp
                refine (HRw.out _).mono ?_
                rintro e w7 ⟨gr7, rfl, hnr, hg⟩
                refine hK _ _ hg ?_
                clear hK K
                have HB7 := Lib.hid (HB6.out.grow hg)
                have HO7 := Lib.hid (HO6.out.keep hg)
                have HG7 : Hid (Grow w w7) := HG6.out.trans hg
                have HR7 := Lib.hid hnr
                have HN7 := Lib.hid ((HN6.out.belowAt hg (Nat.le_refl _)).more hg.size)
                clear hg hnr HB6 HO6 HG6 HN6
              case' B =>
                intro K hK
                go_simp
                refine (HRw.out _).mono ?_
                rintro e w5 ⟨gr5, rfl, hnr, hg⟩
                refine hK _ _ hg ?_
                clear hK K
                have HB5 := Lib.hid (HB4.out.grow hg)
                have HO5 := Lib.hid (HO4.out.keep hg)
                have HG5 : Hid (Grow w w5) := HG4.out.trans hg
                clear hg hnr HB4 HO4 HG4
                refine tr_chain ?_
                repeat (refine chain_take rfl (by rfl) ?_ (fun W hG => ?_) ?_; rotate_left; (go_simp; rfl); simp only [Act.put, List.setIfInBounds_toArray, List.set_cons_zero, List.set_cons_succ])
                refine chain_done (tr_both (step_op rfl (by rfl) ?B1) (step_op rfl (by rfl) ?B2))
              case' B1 =>
                intro K hK
                go_simp
                refine hK _ _ (Grow.of_alloc _ _) ?_
                clear hK K
                have HN6 := Lib.hid (HFs.out _ _ (Blk.new w5 44 #[.int .u64 (off : Int), .int .u64 (bo : Int), .int .u64 (ad : Int)]))
                have HB6 := Lib.hid (HB5.out.alloc (.cells #[.int .u64 (off : Int), .int .u64 (bo : Int), .int .u64 (ad : Int)] 44))
                have HO6 := Lib.hid (HO5.out.keep (Grow.of_alloc w5 (.cells #[.int .u64 (off : Int), .int .u64 (bo : Int), .int .u64 (ad : Int)] 44)))
                have HG6 : Hid (Grow w (w5.alloc (.cells #[.int .u64 (off : Int), .int .u64 (bo : Int), .int .u64 (ad : Int)] 44))) := HG5.out.trans (Grow.of_alloc _ _)
                generalize w5.alloc _ = w6 at HN6 HB6 HO6 HG6 ⊢
                generalize w5.heap.size = g4 at HN6 ⊢
                clear HB5 HO5 HG5
                refine tr_chain ?_
                repeat (refine chain_take rfl (by rfl) ?_ (fun W hG => ?_) ?_; rotate_left; (go_simp; rfl); simp only [Act.put, List.setIfInBounds_toArray, List.set_cons_zero, List.set_cons_succ])
                refine chain_only rfl (by rfl) (fun K hK => ?_)
                go_simp
                refine (HRw.out _).mono ?_
                rintro e w7 ⟨gr7, rfl, hnr, hg⟩
                refine hK _ _ hg ?_
                clear hK K
                have HB7 := Lib.hid (HB6.out.grow hg)
                have HO7 := Lib.hid (HO6.out.keep hg)
                have HG7 : Hid (Grow w w7) := HG6.out.trans hg
                have HR7 := Lib.hid hnr
                have HN7 := Lib.hid ((HN6.out.belowAt hg (Nat.le_refl _)).more hg.size)
                clear hg hnr HB6 HO6 HG6 HN6
              case' B2 =>
                intro K hK
                go_simp
                refine (HRw.out _).mono ?_
                rintro e w6 ⟨gr6, rfl, hnr, hg⟩
                refine hK _ _ hg ?_
                clear hK K
                have HB6 := Lib.hid (HB5.out.grow hg)
                have HO6 := Lib.hid (HO5.out.keep hg)
                have HG6 : Hid (Grow w w6) := HG5.out.trans hg
                have HR6 := Lib.hid hnr
                clear hg hnr HB5 HO5 HG5
                refine tr_chain ?_
                refine chain_only rfl (by rfl) (fun K hK => ?_)
                go_simp
                refine hK _ _ (Grow.of_alloc _ _) ?_
                clear hK K
                have HN7 := Lib.hid (HFs.out _ _ (Blk.new w6 44 #[.int .u64 (off : Int), .int .u64 (bo : Int), .int .u64 (ad : Int)]))
                have HB7 := Lib.hid (HB6.out.alloc (.cells #[.int .u64 (off : Int), .int .u64 (bo : Int), .int .u64 (ad : Int)] 44))
                have HO7 := Lib.hid (HO6.out.keep (Grow.of_alloc w6 (.cells #[.int .u64 (off : Int), .int .u64 (bo : Int), .int .u64 (ad : Int)] 44)))
                have HG7 : Hid (Grow w (w6.alloc (.cells #[.int .u64 (off : Int), .int .u64 (bo : Int), .int .u64 (ad : Int)] 44))) := HG6.out.trans (Grow.of_alloc _ _)
                have HR7 := Lib.hid (HR6.out.alloc (.cells #[.int .u64 (off : Int), .int .u64 (bo : Int), .int .u64 (ad : Int)] 44))
                generalize w6.alloc _ = w7 at HN7 HB7 HO7 HG7 HR7 ⊢
                generalize w6.heap.size = g4 at HN7 ⊢
                clear HB6 HO6 HG6 HR6
                repeat (refine chain_take rfl (by rfl) ?_ (fun W hG => ?_) ?_; rotate_left; (go_simp; rfl); simp only [Act.put, List.setIfInBounds_toArray, List.set_cons_zero, List.set_cons_succ])
              all_goals
                refine chain_only rfl (by rfl) (fun K hK => ?_)
                go_simp
                have hr7 := HR7.out
                rw [← HSn.out] at hr7
                have HR8 := Lib.hid hr7
                clear hr7
                refine (row_any sq HRy.out _ nn 3 _ nn nn big _ HN7.out HR8.out).mono ?_
                rintro e w8 ⟨A3, c3, rfl, ho8, hg8⟩
                refine hK _ _ hg8 ?_
                clear hK K
                have HB8 := Lib.hid (HB7.out.grow hg8)
                have HO8 := Lib.hid (HO7.out.keep hg8)
                have HP8 := Lib.hid ho8
                have HG8 : Hid (Grow w w8) := HG7.out.trans hg8
                clear ho8 hg8 HB7 HO7 HN7 HR7 HR8 HG7 n0
                repeat (refine chain_take rfl (by rfl) ?_ (fun W hG => ?_) ?_; rotate_left; (go_simp; rfl); simp only [Act.put, List.setIfInBounds_toArray, List.set_cons_zero, List.set_cons_succ])
                refine chain_done (tr_done ?_)
                cases hf : rowF sq
                · have HZ := Lib.hid (HNo.out (by rw [HMy.out, hf]))
                  clear hf
                  go_wp2
                  go_ret2
                  exact .inr ⟨HZ.out, rfl, HG8.out⟩
                · have HF : Hid (m (k + 1) = true) := by rw [HMk.out, HMy.out, hf]; exact Lib.hid rfl
                  clear hf
                  go_wp2_with (refine wpList_appendB w8 rfl (.tmp 104) (.tmp 105) 25 rfl (w.heap.size + 1) 5 Try.underlying25 (by kernel_rfl) A2 _ c2 _ rfl HO8.out w8.heap.size A3 _ c3 _ rfl HP8.out.rb (by have := HLe.out; omega) HB8.out.lt ?_; intro A5 c5 w9 ho9 hb9)
                  have HB9 := Lib.hid (HB8.out.below hb9 (Nat.lt_succ_self _))
                  have HG9 : Hid (Grow w w9) := HG8.out.trans' (hb9.mono (Nat.le_succ _))
                  have hm : (P k).length + (rowB big sq).length = (P (k + 1)).length := by rw [HPk.out, List.length_append]
                  rw [← HPk.out, hm] at ho9
                  rw [hm]
                  have HO9 := Lib.hid ho9
                  clear ho9 hb9 hm HB8 HO8 HP8 HG8
                  go_roundw
                  case rel => exact ⟨k + 1, A5, c5, by omega, by go_num, rfl, HO9.out, HB9.out, HF.out, HG9.out⟩
                  case measure => simp [intOf]; omega
    · have e : k = n := by omega
      rw [e, HPn.out] at HO
      rw [e, HMn.out] at HRF
      rw [e, HPn.out]
      have HO' := Lib.hid (HO.out.mono (Nat.le_succ w.heap.size))
      go_wp2
      go_ret2
      exact .inl ⟨HRF.out, A2, c2, rfl, HO'.out, HG.out⟩
end Go.Proofs.Ytkgjebkjpcpoaaa
