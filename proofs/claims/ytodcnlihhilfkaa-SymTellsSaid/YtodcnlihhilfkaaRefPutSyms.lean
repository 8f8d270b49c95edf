/-
  The contract of the document's own PutSyms: the bytes of any symbols, or that they may not be.
-/
import Derived.Test.YtodcnlihhilfkaaSyPut
namespace Go.Proofs.Ytodcnlihhilfkaa
open Go.RowKit

/-- What PutSyms answers. -/
def RPutY (L : List Sy) (wide big : Bool) (w : World) (e : Ending) (w' : World) : Prop :=
  (rowF (symQ wide L) = true ∧ ∃ A c, e = .returned (.tuple #[.slice A (rowB big (symQ wide L)).length c, .bool true]) ∧ OB w' w.heap.size 5 A (rowB big (symQ wide L)).length c (rowB big (symQ wide L)) ∧ Grow w w') ∨
  (rowF (symQ wide L) = false ∧ e = .returned (.tuple #[.slice none 0 0, .bool false]) ∧ Grow w w')

theorem Sy.rowed (p : Sy) (ok : p.Ok) (wide : Bool) : Rowed (p.Q wide) :=
  ⟨by rw [p.lenQ]; omega, fun k hk => by rw [(p.atQ wide k hk).2]; exact yWid_wid _ _, fun k hk => by rw [(p.atQ wide k hk).1]; exact p.atN ok _⟩
theorem fit_not {wide : Bool} {L : List Sy} {k : Nat} (h : k < L.length) (hf : rowF (L[k].Q wide) = false) : rowF (symQ wide L) = false := by
  have e : L = L.take (k + 1) ++ L.drop (k + 1) := (List.take_append_drop _ L).symm
  have e2 : symQ wide L = symQ wide (L.take (k + 1)) ++ symQ wide (L.drop (k + 1)) := by
    have : symQ wide (L.take (k + 1) ++ L.drop (k + 1)) = symQ wide (L.take (k + 1)) ++ symQ wide (L.drop (k + 1)) := by simp only [symQ, List.flatMap_append]
    rwa [← e] at this
  rw [e2, rowF_append, symQ_snoc wide L k h, rowF_append, hf]
  simp

set_option maxHeartbeats 1000000 in
theorem rPutY_any (A : Option Addr) (n c : Nat) (L : List Sy) (hok : ∀ s ∈ L, s.Ok) (h400 : L.length ≤ 400) (wide big : Bool) (w : World) (h : ZS w w.heap.size 6 A n c (L.map Sy.C)) :
    Calls Try.prog 7 #[.slice A n c, .agg #[.bool wide, .bool big]] w (RPutY L wide big w) := by
  have hn : n = L.length := by have := h.len; simpa using this
  have HS := Lib.hid h
  have hcp := h.cap
  have hmx := h.max
  unfold maxLen at hmx
  have hn4 : n ≤ 400 := by omega
  clear h h400
  have HK : Hid (∀ k, k < n → ∃ s : Sy, s.Ok ∧ (∀ hk : k < (L.map Sy.C).length, (L.map Sy.C)[k] = s.C) ∧ symQ wide (L.take (k + 1)) = symQ wide (L.take k) ++ s.Q wide ∧ (rowF (s.Q wide) = false → rowF (symQ wide L) = false)) := Lib.hid (fun k hk => by
    have hkl : k < L.length := by omega
    exact ⟨L[k], hok _ (List.getElem_mem hkl), fun _ => List.getElem_map _, symQ_snoc wide L k hkl, fit_not hkl⟩)
  have HLn : Hid (∀ k, (rowB big (symQ wide (L.take k))).length ≤ 9600) := Lib.hid (fun k => by
    rw [symL_len]
    have h1 : (L.take k).length ≤ 400 := by rw [List.length_take]; omega
    exact Nat.mul_le_mul h1 (ySize_le wide))
  have HAll : Hid (symQ wide (L.take n) = symQ wide L) := Lib.hid (by rw [hn, List.take_length])
  have HML : Hid ((L.map Sy.C).length = n) := Lib.hid (by simp [hn])
  have H0 : Hid (symQ wide (L.take 0) = []) := Lib.hid rfl
  unfold RPutY
  generalize symQ wide L = q at HK HAll ⊢
  obtain ⟨Q, hQ⟩ : ∃ Q : Nat → List (Nat × Nat), Q = fun k => symQ wide (L.take k) := ⟨_, rfl⟩
  have eQ : ∀ k, symQ wide (L.take k) = Q k := fun k => by rw [hQ]
  simp only [eQ] at HK HLn HAll H0
  generalize L.map Sy.C = M at HS HK HML
  clear hn hok eQ hQ
  have HRo := Lib.hid (fun w => symRow_any wide big w)
  have HSnd := Lib.hid (fun s : Sy => s.sndQ wide)
  have HFst := Lib.hid (fun s : Sy => s.fstQ wide)
  have HRow := Lib.hid (fun (s : Sy) (ok : s.Ok) => s.rowed ok wide)
  have HRl : Hid ((yRow wide).length = 6) := Lib.hid (len_yRow wide)
  go_enter Try.func7, Try.ntmps7
  go_wp2_with fail
  generalize hW : World.alloc _ _ = W0
  obtain ⟨bf, hg0⟩ := blk1 hW
  clear hW
  have HBF0 := Lib.hid bf
  have HG0 := Lib.hid hg0
  clear bf hg0
  go_loopw [6, 7] (fun x i wr => ∃ (k : Nat) (A2 : Option Addr) (c2 : Nat), k ≤ n ∧ i = .int .i64 k ∧ x = .slice A2 (rowB big (Q k)).length c2 ∧ OB wr (w.heap.size + 1) 5 A2 (rowB big (Q k)).length c2 (rowB big (Q k)) ∧
    Blk wr w.heap.size 24 #[.bool wide, .bool big] ∧ rowF (Q k) = true ∧ Grow w wr) (fun _ i _ => n - (intOf i).toNat)
  case atStart => exact ⟨0, none, 0, Nat.zero_le _, rfl, by rw [H0.out]; rfl, by rw [H0.out]; exact OB.nil, HBF0.out, by rw [H0.out]; rfl, HG0.out⟩
  case round =>
    obtain ⟨k, A2, c2, hk, rfl, rfl, ho, hbf, hrf, hg⟩ := hrel
    have HO := Lib.hid ho
    have HBF := Lib.hid hbf
    have HRF := Lib.hid hrf
    have HG := Lib.hid hg
    clear ho hbf hrf hg HBF0 HG0
    by_cases hlt : k < n
    · obtain ⟨b, off, rfl, -, -⟩ := HS.out.pos (by omega)
      have HSw := Lib.hid (HS.out.belowAt HG.out (Nat.le_refl _))
      obtain ⟨s, ok, hCk, hQk, hFk⟩ := HK.out k hlt
      have HCk := Lib.hid hCk
      have HQk := Lib.hid hQk
      have HFk := Lib.hid hFk
      have HRw := Lib.hid (HRow.out s ok)
      have HSn := Lib.hid (HSnd.out s)
      have HFs := Lib.hid (HFst.out s)
      have HLe := Lib.hid (HLn.out (k + 1))
      rw [HQk.out, rowB_append, List.length_append] at HLe
      have HkM : Hid (k < M.length) := Lib.hid (by rw [HML.out]; exact hlt)
      have HC6 : Hid (s.C.size = 6) := rfl
      have HC1 := Lib.hid s.one
      obtain ⟨na, inf, oth, shn, val, siz⟩ := s
      obtain ⟨k1, k2, k3, k4, k5, k6⟩ := ok
      unfold Sy.C at HCk HC6 HC1
      simp only [] at *
      have w1 : IntKind.u64.wrap (na : Int) = (na : Int) := by rw [IntKind.wrap_u64]; omega
      have w2 : IntKind.u64.wrap (inf : Int) = (inf : Int) := by rw [IntKind.wrap_u64]; omega
      have w3 : IntKind.u64.wrap (oth : Int) = (oth : Int) := by rw [IntKind.wrap_u64]; omega
      have w4 : IntKind.u64.wrap (shn : Int) = (shn : Int) := by rw [IntKind.wrap_u64]; omega
      clear k1 k2 k3 k4 k5 k6 hCk hQk hFk
      have z0 : (0 : Int) ≤ (k : Int) := by omega
      have z1 : (k : Int) < (n : Int) := by omega
      obtain ⟨y0, y1⟩ := ((HBF.out.alloc (.cells #[.int .u32 (na : Int), .int .u8 (inf : Int), .int .u8 (oth : Int), .int .u16 (shn : Int), .int .u64 (val : Int), .int .u64 (siz : Int)] 49)).alloc (.cells #[.int .u64 (na : Int), .int .u64 (val : Int), .int .u64 (siz : Int), .int .u64 (inf : Int), .int .u64 (oth : Int), .int .u64 (shn : Int)] 47)).c2
      cases wide
      case' false =>
        go_wp2_with (first | (refine wpList_load_zs HSw.out HkM.out rfl 49 (.tmp 20) rfl rfl _ Try.underlying49 rfl (by kernel_rfl) _ (HCk.out _) ?_) | (refine wpList_store_row rfl 49 (.tmp 8) (.tmp 21) rfl wr.heap.size _ rfl rfl _ _ (Blk.new _ _ _) (by kernel_rfl) rfl HC1.out ?_; rw [World.setRow_alloc_new]))
        clear y0 y1 w1 w2 w3 w4 HSw HkM HCk HC1 HC6
        generalize hW : World.alloc _ _ = W0
        obtain ⟨-, bl, hg3⟩ := blk2 hW
        have HNS : Hid (NS W0 W0.heap.size .u64 (some ⟨wr.heap.size + 1, 0, none⟩) 6 6 ((Sy.Q ⟨na, inf, oth, shn, val, siz⟩ false).map (·.1))) := NS.of_blkN bl rfl (by decide) bl.lt rfl
        generalize Sy.Q _ _ = sq at HQk HFk HRw HSn HNS HLe
        generalize wr.heap.size + 1 = gl at HNS ⊢
        clear hW bl HFs
      case' true =>
        go_wp2_with (first | (refine wpList_load_zs HSw.out HkM.out rfl 49 (.tmp 20) rfl rfl _ Try.underlying49 rfl (by kernel_rfl) _ (HCk.out _) ?_) | (refine wpList_store_row rfl 49 (.tmp 8) (.tmp 21) rfl wr.heap.size _ rfl rfl _ _ (Blk.new _ _ _) (by kernel_rfl) rfl HC1.out ?_; rw [World.setRow_alloc_new]))
        clear y0 y1 w1 w2 w3 w4 HSw HkM HCk HC1 HC6
        generalize hW : World.alloc _ _ = W0
        obtain ⟨-, -, bl, hg3⟩ := blk3 hW
        have HNS : Hid (NS W0 W0.heap.size .u64 (some ⟨wr.heap.size + 1 + 1, 0, none⟩) 6 6 ((Sy.Q ⟨na, inf, oth, shn, val, siz⟩ true).map (·.1))) := NS.of_blkN bl rfl (by decide) bl.lt rfl
        generalize Sy.Q _ _ = sq at HQk HFk HRw HSn HNS HLe
        generalize wr.heap.size + 1 + 1 = gl at HNS ⊢
        clear hW bl HFs
      all_goals
        have HO3 := Lib.hid (HO.out.keep hg3)
        have HBF3 := Lib.hid (HBF.out.grow hg3)
        have HG3 : Hid (Grow w W0) := HG.out.trans hg3
        generalize wr.heap.size = g8 at hg3 ⊢
        clear hg3 HO HBF HG
        refine wp_region_chain [(0, true), (1, true), (3, true), (4, true), (2, false), (5, false), (6, true), (7, true), (8, true), (9, true), (10, true)] (by kernel_rfl) (by kernel_rfl) (by kernel_rfl) ?_
        have HX : Hid (∀ W, Grow W0.drew W → _ ∧ _) := fun W hW => ((HBF3.out.drew).grow hW).c2
        have HB1 := Lib.hid HBF3.out.drew
        have HO1 : Hid (OB W0.drew _ _ _ _ _ _) := HO3.out
        have HN1 : Hid (NS W0.drew W0.drew.heap.size .u64 (some ⟨gl, 0, none⟩) 6 6 (sq.map (·.1))) := HNS.out.keep fun _ _ => rfl
        have HG1 : Hid (Grow w W0.drew) := HG3.out.trans (Grow.of_drew _)
        generalize W0.drew = w3 at HX HB1 HO1 HN1 HG1 ⊢
        clear HO3 HBF3 HNS HG3
        repeat (refine chain_take rfl (by rfl) ?_ (fun W hG => ?_) ?_; rotate_left; (obtain ⟨q1, q2⟩ := HX.out W hG; go_simp; rfl); simp only [Act.put, List.setIfInBounds_toArray, List.set_cons_zero, List.set_cons_succ])
        clear HX
        refine chain_only rfl (by rfl) (fun K hK => ?_)
        go_simp
        refine (HRo.out _).mono ?_
        rintro e w4 ⟨gr, rfl, hbr, -, hg4⟩
        refine hK _ _ hg4 ?_
        clear hK K
        have HB2 := Lib.hid (HB1.out.grow hg4)
        have HO2 := Lib.hid (HO1.out.keep hg4)
        have HN2 := Lib.hid ((HN1.out.belowAt hg4 (Nat.le_refl _)).more hg4.size)
        have HR2 : Hid (NS w4 w4.heap.size .i64 (some ⟨gr, 0, none⟩) 6 6 (sq.map (·.2))) := by
          rw [HSn.out]; exact NS.of_blkN hbr HRl.out (by decide) hbr.lt rfl
        have HG2 : Hid (Grow w w4) := HG1.out.trans hg4
        clear hbr hg4 HB1 HO1 HN1 HG1
        refine chain_only rfl (by rfl) (fun K hK => ?_)
        go_simp
        refine (row_any sq HRw.out _ 6 6 _ 6 6 big _ HN2.out HR2.out).mono ?_
        rintro e w5 ⟨A3, c3, rfl, ho5, hg5⟩
        refine hK _ _ hg5 ?_
        clear hK K
        have HB5 := Lib.hid (HB2.out.grow hg5)
        have HO5 := Lib.hid (HO2.out.keep hg5)
        have HP5 := Lib.hid ho5
        have HG5 : Hid (Grow w w5) := HG2.out.trans hg5
        clear ho5 hg5 HB2 HO2 HN2 HR2 HG2
        repeat (refine chain_take rfl (by rfl) ?_ (fun W hG => ?_) ?_; rotate_left; (go_simp; rfl); simp only [Act.put, List.setIfInBounds_toArray, List.set_cons_zero, List.set_cons_succ])
        refine chain_done ?_
        cases hf : rowF sq
        · have HZ := Lib.hid (HFk.out hf)
          clear hf
          go_wp2
          go_ret2
          exact .inr ⟨HZ.out, rfl, HG5.out⟩
        · have HF : Hid (rowF (Q (k + 1)) = true) := by rw [HQk.out, rowF_append, HRF.out, hf]; rfl
          clear hf
          go_wp2_with (refine wpList_appendB w5 rfl (.tmp 69) (.tmp 70) 25 rfl (w.heap.size + 1) 5 Try.underlying25 (by kernel_rfl) A2 _ c2 _ rfl HO5.out w5.heap.size A3 _ c3 _ rfl HP5.out.rb (by have := HLe.out; omega) HB5.out.lt ?_; intro A5 c5 w6 ho6 hb6)
          have HB6 := Lib.hid (HB5.out.below hb6 (Nat.lt_succ_self _))
          have HG6 : Hid (Grow w w6) := HG5.out.trans' (hb6.mono (Nat.le_succ _))
          have hm : (rowB big (Q k)).length + (rowB big sq).length = (rowB big (Q (k + 1))).length := by rw [HQk.out, rowB_append, List.length_append]
          rw [← rowB_append, ← HQk.out, hm] at ho6
          rw [hm]
          have HO6 := Lib.hid ho6
          clear ho6 hb6 hm HB5 HO5 HP5 HG5
          go_roundw
          case rel => exact ⟨k + 1, A5, c5, by omega, by go_num, rfl, HO6.out, HB6.out, HF.out, HG6.out⟩
          case measure => simp [intOf]; omega
    · have e : k = n := by omega
      rw [e, HAll.out] at HO HRF
      rw [e, HAll.out]
      have HO' := Lib.hid (HO.out.mono (Nat.le_succ w.heap.size))
      go_wp2
      go_ret2
      exact .inl ⟨HRF.out, A2, c2, rfl, HO'.out, HG.out⟩
end Go.Proofs.Ytodcnlihhilfkaa
