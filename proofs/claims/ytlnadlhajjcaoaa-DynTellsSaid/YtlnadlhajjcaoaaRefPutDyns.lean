/-
  The contract of the document's own PutDyns: the bytes of any entries, or that they may not be.
-/
import Derived.Test.YtlnadlhajjcaoaaDyA
import Derived.Test.YtlnadlhajjcaoaaRefRow
import Derived.Test.YtlnadlhajjcaoaaDyFind
import Derived.Test.YtlnadlhajjcaoaaCut
namespace Go.Proofs.Ytlnadlhajjcaoaa
open Go.RowKit

/-- What PutDyns answers. -/
def RPutD (L : List Dy) (wide big : Bool) (w : World) (e : Ending) (w' : World) : Prop :=
  (rowF (dynQ wide L) = true ∧ ∃ A c, e = .returned (.tuple #[.slice A (rowB big (dynQ wide L)).length c, .bool true]) ∧ OB w' w.heap.size 5 A (rowB big (dynQ wide L)).length c (rowB big (dynQ wide L)) ∧ Grow w w') ∨
  (rowF (dynQ wide L) = false ∧ e = .returned (.tuple #[.slice none 0 0, .bool false]) ∧ Grow w w')

theorem Dy.rowed (p : Dy) (ok : p.Ok) (wide : Bool) : Rowed (p.Q wide) := by
  have h0 := ok.tag
  have h1 := ok.val
  have hw := dyW_wid wide
  refine ⟨by show 2 ≤ 100; decide, fun k hk => ?_, fun k hk => ?_⟩
  · match k, hk with
    | 0, _ => exact hw
    | 1, _ => exact hw
  · match k, hk with
    | 0, _ => exact h0
    | 1, _ => exact h1

set_option maxRecDepth 100000 in
set_option maxHeartbeats 2000000 in
theorem rPutD_any (A : Option Addr) (n c : Nat) (L : List Dy) (hok : ∀ s ∈ L, s.Ok) (h400 : L.length ≤ 1000) (wide big : Bool) (w : World) (h : ZS w w.heap.size 2 A n c (L.map Dy.C)) :
    Calls Try.prog 7 #[.slice A n c, .agg #[.bool wide, .bool big]] w (RPutD L wide big w) := by
  have hn : n = L.length := by have := h.len; simpa using this
  have HS := Lib.hid h
  have hcp := h.cap
  have hmx := h.max
  unfold maxLen at hmx
  have hn4 : n ≤ 1000 := by omega
  clear h h400
  have HCell : Hid (∀ (k : Nat) (hk : k < L.length) (W : World) (b off : Nat), ZS W w.heap.size 2 (some ⟨b, off, none⟩) n c (L.map Dy.C) → W.cell? ⟨b, off + k * 2, none⟩ = some (.int .u64 (L[k].tag : Int)) ∧ W.cell? ⟨b, off + k * 2 + 1, none⟩ = some (.int .u64 (L[k].val : Int))) :=
    Lib.hid (fun k hk W b off h => h.dy k hk _ rfl)
  have HK : Hid (∀ k, k < n → ∃ p : Dy, p.Ok ∧ (∀ (W : World) (b off : Nat), ZS W w.heap.size 2 (some ⟨b, off, none⟩) n c (L.map Dy.C) → W.cell? ⟨b, off + k * 2, none⟩ = some (.int .u64 (p.tag : Int)) ∧ W.cell? ⟨b, off + k * 2 + 1, none⟩ = some (.int .u64 (p.val : Int))) ∧ dyP L wide big (k + 1) = dyP L wide big k ++ rowB big (p.Q wide) ∧
      rowF (dynQ wide (L.take (k + 1))) = (rowF (dynQ wide (L.take k)) && rowF (p.Q wide)) ∧ (rowF (p.Q wide) = false → rowF (dynQ wide L) = false)) := Lib.hid (fun k hk => by
    have hkl : k < L.length := by omega
    exact ⟨L[k], hok _ (List.getElem_mem hkl), HCell.out k hkl, dyP_succ L wide big k hkl, dyF_succ L wide k hkl, fun h => dyn_fit_not hkl h⟩)
  clear HCell
  have HPl : Hid (∀ k, k ≤ n → (dyP L wide big k).length ≤ 16000) := Lib.hid (fun k hk => by
    rw [dyP_len L wide big k (by omega)]
    exact Nat.mul_le_mul (show k ≤ 1000 by omega) (dySize_le wide))
  have HP0 : Hid (dyP L wide big 0 = []) := Lib.hid rfl
  have HPn : Hid (dyP L wide big n = rowB big (dynQ wide L)) := Lib.hid (by rw [dyP, hn, List.take_length])
  have HMn : Hid (rowF (dynQ wide (L.take n)) = rowF (dynQ wide L)) := Lib.hid (by rw [hn, List.take_length])
  have HM0 : Hid (rowF (dynQ wide (L.take 0)) = true) := Lib.hid rfl
  unfold RPutD
  generalize dyP L wide big = P at HK HPl HP0 HPn
  obtain ⟨m, hm⟩ : ∃ m : Nat → Bool, m = fun k => rowF (dynQ wide (L.take k)) := ⟨_, rfl⟩
  have em : ∀ k, rowF (dynQ wide (L.take k)) = m k := fun k => by rw [hm]
  simp only [em] at HK HMn HM0
  generalize rowF (dynQ wide L) = ms at HK HMn ⊢
  generalize rowB big (dynQ wide L) = PL at HPn ⊢
  generalize L.map Dy.C = M at HS HK
  clear hn hok em hm
  have HW := Lib.hid (fun w => dWord_any wide big w)
  have HRow := Lib.hid (fun (p : Dy) (ok : p.Ok) => p.rowed ok wide)
  have HFst : Hid (∀ (p : Dy) (W : World) (g : Nat), Blk W g 26 #[.int .u64 (p.tag : Int), .int .u64 (p.val : Int)] → NS W W.heap.size .u64 (some ⟨g, 0, none⟩) 2 2 ((p.Q wide).map (·.1))) := Lib.hid fun p W g hb =>
    NS.of_blkN hb rfl (by decide) hb.lt rfl
  have HSnd : Hid (∀ (p : Dy) (W : World) (g : Nat), Blk W g 3 #[.int .i64 (dyW wide : Nat), .int .i64 (dyW wide : Nat)] → NS W W.heap.size .i64 (some ⟨g, 0, none⟩) 2 2 ((p.Q wide).map (·.2))) := Lib.hid fun p W g hb =>
    NS.of_blkN hb rfl (by decide) hb.lt rfl
  generalize dyW wide = wd at HW HSnd
  go_enter Try.func7, Try.ntmps7
  go_wp2_with fail
  generalize hW : World.alloc _ _ = W0
  obtain ⟨bf, hg0⟩ := blk1 hW
  clear hW
  refine (HW.out W0).mono ?_
  rintro e w0 ⟨rfl, hg1⟩
  have HBF0 := Lib.hid (bf.grow hg1)
  have HG0 : Hid (Grow w w0) := hg0.trans hg1
  clear bf hg0 hg1
  go_wp2_with fail
  go_loopw [6, 8] (fun x i wr => ∃ (k : Nat) (A2 : Option Addr) (c2 : Nat), k ≤ n ∧ i = .int .i64 k ∧ x = .slice A2 (P k).length c2 ∧ OB wr (w.heap.size + 1) 5 A2 (P k).length c2 (P k) ∧
    Blk wr w.heap.size 24 #[.bool wide, .bool big] ∧ m k = true ∧ Grow w wr) (fun _ i _ => n - (intOf i).toNat)
  case atStart => exact ⟨0, none, 0, Nat.zero_le _, rfl, by rw [HP0.out]; rfl, by rw [HP0.out]; exact OB.nil, HBF0.out, HM0.out, HG0.out⟩
  case round =>
    obtain ⟨k, A2, c2, hk, rfl, rfl, ho, hbf, hrf, hg⟩ := hrel
    have HO := Lib.hid ho
    have HBF := Lib.hid hbf
    have HRF := Lib.hid hrf
    have HG := Lib.hid hg
    clear ho hbf hrf hg HBF0 HG0
    by_cases hlt : k < n
    · obtain ⟨b, off', rfl, -, -⟩ := HS.out.pos (by omega)
      obtain ⟨p, ok, hCk, hPk, hMk, hNo⟩ := HK.out k hlt
      have HSw := Lib.hid (HS.out.belowAt HG.out (Nat.le_refl _))
      have HCk : Hid (∀ W, Grow wr.drew W → W.cell? ⟨b, off' + k * 2, none⟩ = some (.int .u64 (p.tag : Int)) ∧ W.cell? ⟨b, off' + k * 2 + 1, none⟩ = some (.int .u64 (p.val : Int))) := Lib.hid (fun W hW => hCk W b off' (HSw.out.belowAt (B0 := wr.heap.size) ((Grow.of_drew wr).trans hW) HG.out.size))
      have HRy := Lib.hid (HRow.out p ok)
      have HSn := Lib.hid (HSnd.out p)
      have HFs := Lib.hid (HFst.out p)
      rw [HRF.out, Bool.true_and] at hMk
      have HMk := Lib.hid hMk
      have HNo := Lib.hid hNo
      have HPk := Lib.hid hPk
      have HLe := Lib.hid (HPl.out (k + 1) hlt)
      rw [HPk.out, List.length_append] at HLe
      generalize p.Q wide = sq at HPk HLe HRy HSn HFs HMk HNo
      obtain ⟨tag, val⟩ := p
      simp only [] at HCk HFs
      clear hCk hPk hMk hNo ok HSw
      have z0 : (0 : Int) ≤ (k : Int) := by omega
      have z1 : (k : Int) < (n : Int) := by omega
      go_wp2_with fail
      refine wp_region_tree leap_grow (.chain [(0, true), (1, true), (2, true), (3, true), (4, true), (5, true), (6, true), (7, true), (8, true), (9, true), (11, true), (12, true), (14, true), (15, true)]
        (.both 10 (.chain [(13, false), (16, false), (17, true), (18, true), (19, true), (20, true), (21, true)] .done) 13 (.chain [(10, false), (16, false), (17, true), (18, true), (19, true), (20, true), (21, true)] .done))) (by kernel_rfl) (by kernel_rfl) (by kernel_rfl) ?_
      refine tr_chain ?_
      have HX : Hid (∀ W, Grow wr.drew W → (_ ∧ _) ∧ _) := fun W hW => ⟨((HBF.out.drew).grow hW).c2, HCk.out W hW⟩
      have HB4 := Lib.hid HBF.out.drew
      have HO4 : Hid (OB wr.drew _ _ _ _ _ _) := HO.out
      have HG4 : Hid (Grow w wr.drew) := HG.out.trans (Grow.of_drew _)
      generalize wr.drew = w4 at HX HB4 HO4 HG4 ⊢
      clear HO HBF HG HCk
      repeat (refine chain_take rfl (by rfl) ?_ (fun W hG => ?_) ?_; rotate_left; (obtain ⟨⟨q1, q2⟩, q3, q4⟩ := HX.out W hG; go_simp; rfl); simp only [Act.put, List.setIfInBounds_toArray, List.set_cons_zero, List.set_cons_succ])
      clear HX z0 z1
      refine chain_done (tr_both (step_op rfl (by rfl) ?A) (step_op rfl (by rfl) ?B))
      case' A =>
        intro K hK
        go_simp
        refine hK _ _ (Grow.of_alloc _ _) ?_
        clear hK K
        have HN5 := Lib.hid (HFs.out _ _ (Blk.new w4 26 #[.int .u64 (tag : Int), .int .u64 (val : Int)]))
        have HB5 := Lib.hid (HB4.out.alloc (.cells #[.int .u64 (tag : Int), .int .u64 (val : Int)] 26))
        have HO5 := Lib.hid (HO4.out.keep (Grow.of_alloc w4 (.cells #[.int .u64 (tag : Int), .int .u64 (val : Int)] 26)))
        have HG5 : Hid (Grow w (w4.alloc (.cells #[.int .u64 (tag : Int), .int .u64 (val : Int)] 26))) := HG4.out.trans (Grow.of_alloc _ _)
        generalize w4.alloc _ = w5 at HN5 HB5 HO5 HG5 ⊢
        generalize w4.heap.size = g4 at HN5 ⊢
        clear HB4 HO4 HG4
        refine tr_chain ?_
        refine chain_only rfl (by rfl) (fun K hK => ?_)
        go_simp
        refine hK _ _ (Grow.of_alloc _ _) ?_
        clear hK K
        have HR7 := Lib.hid (HSn.out _ _ (Blk.new w5 3 #[.int .i64 (wd : Int), .int .i64 (wd : Int)]))
        have HN7 := Lib.hid (HN5.out.alloc (.cells #[.int .i64 (wd : Int), .int .i64 (wd : Int)] 3))
        have HB7 := Lib.hid (HB5.out.alloc (.cells #[.int .i64 (wd : Int), .int .i64 (wd : Int)] 3))
        have HO7 := Lib.hid (HO5.out.keep (Grow.of_alloc w5 (.cells #[.int .i64 (wd : Int), .int .i64 (wd : Int)] 3)))
        have HG7 : Hid (Grow w (w5.alloc (.cells #[.int .i64 (wd : Int), .int .i64 (wd : Int)] 3))) := HG5.out.trans (Grow.of_alloc _ _)
        generalize w5.alloc _ = w7 at HR7 HN7 HB7 HO7 HG7 ⊢
        generalize w5.heap.size = g5 at HR7 ⊢
        clear HB5 HO5 HG5 HN5
      case' B =>
        intro K hK
        go_simp
        refine hK _ _ (Grow.of_alloc _ _) ?_
        clear hK K
        have HR5 := Lib.hid (HSn.out _ _ (Blk.new w4 3 #[.int .i64 (wd : Int), .int .i64 (wd : Int)]))
        have HB5 := Lib.hid (HB4.out.alloc (.cells #[.int .i64 (wd : Int), .int .i64 (wd : Int)] 3))
        have HO5 := Lib.hid (HO4.out.keep (Grow.of_alloc w4 (.cells #[.int .i64 (wd : Int), .int .i64 (wd : Int)] 3)))
        have HG5 : Hid (Grow w (w4.alloc (.cells #[.int .i64 (wd : Int), .int .i64 (wd : Int)] 3))) := HG4.out.trans (Grow.of_alloc _ _)
        generalize w4.alloc _ = w5 at HR5 HB5 HO5 HG5 ⊢
        generalize w4.heap.size = g5 at HR5 ⊢
        clear HB4 HO4 HG4
        refine tr_chain ?_
        refine chain_only rfl (by rfl) (fun K hK => ?_)
        go_simp
        refine hK _ _ (Grow.of_alloc _ _) ?_
        clear hK K
        have HN7 := Lib.hid (HFs.out _ _ (Blk.new w5 26 #[.int .u64 (tag : Int), .int .u64 (val : Int)]))
        have HR7 := Lib.hid (HR5.out.alloc (.cells #[.int .u64 (tag : Int), .int .u64 (val : Int)] 26))
        have HB7 := Lib.hid (HB5.out.alloc (.cells #[.int .u64 (tag : Int), .int .u64 (val : Int)] 26))
        have HO7 := Lib.hid (HO5.out.keep (Grow.of_alloc w5 (.cells #[.int .u64 (tag : Int), .int .u64 (val : Int)] 26)))
        have HG7 : Hid (Grow w (w5.alloc (.cells #[.int .u64 (tag : Int), .int .u64 (val : Int)] 26))) := HG5.out.trans (Grow.of_alloc _ _)
        generalize w5.alloc _ = w7 at HR7 HN7 HB7 HO7 HG7 ⊢
        generalize w5.heap.size = g4 at HN7 ⊢
        clear HB5 HO5 HG5 HR5
      all_goals
        refine chain_only rfl (by rfl) (fun K hK => ?_)
        go_simp
        refine (row_any sq HRy.out _ 2 2 _ 2 2 big _ HN7.out HR7.out).mono ?_
        rintro e w8 ⟨A3, c3, rfl, ho8, hg8⟩
        refine hK _ _ hg8 ?_
        clear hK K
        have HB8 := Lib.hid (HB7.out.grow hg8)
        have HO8 := Lib.hid (HO7.out.keep hg8)
        have HP8 := Lib.hid ho8
        have HG8 : Hid (Grow w w8) := HG7.out.trans hg8
        clear ho8 hg8 HB7 HO7 HN7 HR7 HG7
        repeat (refine chain_take rfl (by rfl) ?_ (fun W hG => ?_) ?_; rotate_left; (go_simp; rfl); simp only [Act.put, List.setIfInBounds_toArray, List.set_cons_zero, List.set_cons_succ])
        refine chain_done (tr_done ?_)
        cases hf : rowF sq
        · have HZ := Lib.hid (HNo.out hf)
          clear hf
          go_wp2
          go_ret2
          exact .inr ⟨HZ.out, rfl, HG8.out⟩
        · have HF : Hid (m (k + 1) = true) := by rw [HMk.out, hf]; exact Lib.hid rfl
          clear hf
          go_wp2_with (refine wpList_appendB w8 rfl (.tmp 41) (.tmp 42) 25 rfl (w.heap.size + 1) 5 Try.underlying25 (by kernel_rfl) A2 _ c2 _ rfl HO8.out w8.heap.size A3 _ c3 _ rfl HP8.out.rb (by have := HLe.out; omega) HB8.out.lt ?_; intro A5 c5 w9 ho9 hb9; refine Hid.out ?_)
          have HB9 := Lib.hid (HB8.out.below hb9 (Nat.lt_succ_self _))
          have HG9 : Hid (Grow w w9) := HG8.out.trans' (hb9.mono (Nat.le_succ _))
          have hm : (P k).length + (rowB big sq).length = (P (k + 1)).length := by rw [HPk.out, List.length_append]
          rw [← HPk.out, hm] at ho9
          rw [hm]
          have HO9 := Lib.hid ho9
          clear ho9 hb9 hm HB8 HO8 HP8 HG8
          refine Lib.hid ?_
          go_wp2
          go_roundw
          case rel => exact ⟨k + 1, A5, c5, by omega, by go_num, rfl, HO9.out, HB9.out, HF.out, HG9.out⟩
          case measure => simp [intOf]; omega
    · have e : k = n := by omega
      rw [e, HPn.out] at HO
      rw [e, HMn.out] at HRF
      rw [e, HPn.out]
      have HO' := Lib.hid (HO.out.mono (Nat.le_succ w.heap.size))
      go_wp2
      go_ret2
      exact .inl ⟨HRF.out, A2, c2, rfl, HO'.out, HG.out⟩
end Go.Proofs.Ytlnadlhajjcaoaa
