/-
  The contract of dyn.Put: the bytes of any entries, in new memory; or ErrArg.
-/
import Derived.Test.YtlnadlhajjcaoaaDyA
import Derived.Test.YtlnadlhajjcaoaaRefRow
import Derived.Test.YtlnadlhajjcaoaaRoom
namespace Go.Proofs.Ytlnadlhajjcaoaa
open Go.RowKit

theorem makeE (N : Nat) (h : N ≤ 100000) (w : World) : (Instr.makeSlice 25 (.int .i64 0) (.int .i64 (N : Int))).run Try.prog w = .ok (.slice (some ⟨w.heap.size, 0, none⟩) 0 N)
    (w.alloc (.cells (madeCells #[.int .u8 0] N) 5)) := by
  have hinfo : (Try.prog.info? 5).map (fun i => (i.zero, i.size, i.bytes)) = some (some (.int .u8 0), 1, 1) := by kernel_rfl
  obtain ⟨i, hi, hz, hs, hby⟩ := info_parts hinfo
  have := run_make (P := Try.prog) w 25 5 i (.int .u8 0) Try.underlying25 hi hz .i64 .i64 0 (N : Int) (Int.le_refl _) (by omega) (by rw [hby]; omega) (by omega)
  rw [hs, show (Value.int IntKind.u8 0).cells = #[.int .u8 0] from rfl] at this
  simpa using this

/-- What Put answers. -/
def DPut (L : List Dy) (wide big : Bool) (w : World) (e : Ending) (w' : World) : Prop :=
  (rowF (dynQ wide L) = true ∧ ∃ A c, e = .returned (.tuple #[.slice A (rowB big (dynQ wide L)).length c, .nilIface]) ∧ OB w' w.heap.size 5 A (rowB big (dynQ wide L)).length c (rowB big (dynQ wide L)) ∧ Grow w w') ∨
  (rowF (dynQ wide L) = false ∧ e = .returned (.tuple #[.slice none 0 0, .iface 50 (.int .i64 1)]) ∧ Grow w w')

theorem dFits_any (wide : Bool) (v : Nat) (hv : v < 18446744073709551616) (w : World) : Calls Try.prog 17 #[.int .u64 v, .int .i64 (dyW wide : Nat)] w fun e w' => e = .returned (.bool (decide (v < dyM wide))) ∧ w = w' := by
  have := fits_any v (dyW wide : Nat) w (by omega) (by omega)
  rw [fits_row v (dyW wide) (dyW_wid wide), dyM_pow] at this
  exact this

set_option maxHeartbeats 1000000 in
theorem dPut_any (A : Option Addr) (n c : Nat) (L : List Dy) (hok : ∀ s ∈ L, s.Ok) (h400 : L.length ≤ 1000) (wide big : Bool) (w : World) (h : ZS w w.heap.size 2 A n c (L.map Dy.C)) :
    Calls Try.prog 6 #[.slice A n c, .agg #[.bool wide, .bool big]] w (DPut L wide big w) := by
  have hn : n = L.length := by have := h.len; simpa using this
  have HS := Lib.hid h
  have hcp := h.cap
  have hmx := h.max
  unfold maxLen at hmx
  have hn4 : n ≤ 1000 := by omega
  clear h h400
  have HK : Hid (∀ k, k < n → ∃ p : Dy, p.Ok ∧ (∀ hk : k < (L.map Dy.C).length, (L.map Dy.C)[k] = p.C) ∧ dyP L wide big (k + 1) = dyP L wide big k ++ rowB big (p.Q wide) ∧
      rowF (dynQ wide (L.take (k + 1))) = (rowF (dynQ wide (L.take k)) && rowF (p.Q wide)) ∧ (rowF (p.Q wide) = false → rowF (dynQ wide L) = false)) := Lib.hid (fun k hk => by
    have hkl : k < L.length := by omega
    exact ⟨L[k], hok _ (List.getElem_mem hkl), fun _ => List.getElem_map _, dyP_succ L wide big k hkl, dyF_succ L wide k hkl, fun h => dyn_fit_not hkl h⟩)
  have HPl : Hid (∀ k, k ≤ n → (dyP L wide big k).length ≤ 16000) := Lib.hid (fun k hk => by
    rw [dyP_len L wide big k (by omega)]
    exact Nat.mul_le_mul (show k ≤ 1000 by omega) (dySize_le wide))
  have HP0 : Hid (dyP L wide big 0 = []) := Lib.hid rfl
  have HPn : Hid (dyP L wide big n = rowB big (dynQ wide L)) := Lib.hid (by rw [dyP, hn, List.take_length])
  have HMn : Hid (rowF (dynQ wide (L.take n)) = rowF (dynQ wide L)) := Lib.hid (by rw [hn, List.take_length])
  have HML : Hid ((L.map Dy.C).length = n) := Lib.hid (by simp [hn])
  have HM0 : Hid (rowF (dynQ wide (L.take 0)) = true) := Lib.hid rfl
  unfold DPut
  generalize dyP L wide big = P at HK HPl HP0 HPn
  obtain ⟨m, hm⟩ : ∃ m : Nat → Bool, m = fun k => rowF (dynQ wide (L.take k)) := ⟨_, rfl⟩
  have em : ∀ k, rowF (dynQ wide (L.take k)) = m k := fun k => by rw [hm]
  simp only [em] at HK HMn HM0
  generalize rowF (dynQ wide L) = ms at HK HMn ⊢
  generalize rowB big (dynQ wide L) = PL at HPn ⊢
  generalize L.map Dy.C = M at HS HK HML
  clear hn hok em hm
  have HW := Lib.hid (fun w => dyW_any wide big w)
  have HSz := Lib.hid (fun w => dySize_any wide big w)
  have HFi := Lib.hid (fun v hv w => dFits_any wide v hv w)
  have HRB := Lib.hid (fun p : Dy => p.rowBQ wide big)
  have HRF := Lib.hid (fun p : Dy => p.rowFQ wide)
  have HWd := Lib.hid (dyW_wid wide)
  have hw8 := dyW_le wide
  have hs24 := dySize_le wide
  generalize dyW wide = wd at HW HRB HWd hw8 HFi
  generalize dyM wide = mx at HRF HFi
  generalize dySize wide = sz at HSz hs24
  go_enter Try.func6, Try.ntmps6
  go_wp2_with fail
  generalize hW : World.alloc _ _ = W0
  obtain ⟨bf, hg0⟩ := blk1 hW
  clear hW
  refine (HW.out W0).mono ?_
  rintro e w0 ⟨rfl, hg1⟩
  have HBF0 := Lib.hid (bf.grow hg1)
  have HG0 : Hid (Grow w w0) := hg0.trans hg1
  clear bf hg0 hg1
  obtain ⟨f0, f1⟩ := HBF0.out.c2
  go_wp2_with fail
  clear f0 f1
  refine (HSz.out w0).mono ?_
  rintro e w1 ⟨rfl, hg1⟩
  have HBF1 := Lib.hid (HBF0.out.grow hg1)
  have HG1 : Hid (Grow w w1) := HG0.out.trans hg1
  clear HBF0 HG0 hg1
  obtain ⟨N, hN⟩ : ∃ N, N = n * sz := ⟨_, rfl⟩
  have hN4 : N ≤ 16000 := by rw [hN]; exact Nat.mul_le_mul hn4 hs24
  have z1 : IntKind.i64.wrap ((n : Int) * (sz : Int)) = (N : Int) := by
    rw [hN, Int.natCast_mul, IntKind.wrap_i64]
    have : (n : Int) * (sz : Int) = ((n * sz : Nat) : Int) := by simp
    omega
  have hmk := makeE N (by omega) w1
  clear hN
  go_wp2_with fail
  have HO2 := Lib.hid (OB.roomyR w1 (w.heap.size + 1) 5 N (madeCells #[.int .u8 0] N) (by simp [size_madeCells]) (by unfold maxLen; omega) (show w.heap.size + 1 ≤ w1.heap.size from HBF1.out.lt))
  have HBF2 := Lib.hid (HBF1.out.alloc (.cells (madeCells #[.int .u8 0] N) 5))
  have HG2 : Hid (Grow w (w1.alloc (.cells (madeCells #[.int .u8 0] N) 5))) := HG1.out.trans (Grow.of_alloc _ _)
  generalize w1.alloc _ = w2 at HO2 HBF2 HG2 ⊢
  generalize w1.heap.size = g7 at HO2 ⊢
  clear hmk z1 HG1 HBF1 HSz hs24
  go_loopw [7, 20] (fun x i wr => ∃ (k : Nat) (A2 : Option Addr) (c2 : Nat), k ≤ n ∧ i = .int .i64 k ∧ x = .slice A2 (P k).length c2 ∧ OB wr (w.heap.size + 1) 5 A2 (P k).length c2 (P k) ∧
    Blk wr w.heap.size 24 #[.bool wide, .bool big] ∧ m k = true ∧ Grow w wr) (fun _ i _ => n - (intOf i).toNat)
  case atStart => exact ⟨0, some ⟨g7, 0, none⟩, N, Nat.zero_le _, rfl, by rw [HP0.out]; rfl, by rw [HP0.out]; exact HO2.out, HBF2.out, HM0.out, HG2.out⟩
  case round =>
    obtain ⟨k, A2, c2, hk, rfl, rfl, ho, hbf, hrf, hg⟩ := hrel
    have HO := Lib.hid ho
    have HBF := Lib.hid hbf
    have HRF1 := Lib.hid hrf
    have HG := Lib.hid hg
    clear ho hbf hrf hg HO2 HBF2 HG2
    by_cases hlt : k < n
    · obtain ⟨b, off', rfl, -, -⟩ := HS.out.pos (by omega)
      have HSw := Lib.hid (HS.out.belowAt HG.out (Nat.le_refl _))
      obtain ⟨p, ok, hCk, hPk, hMk, hNo⟩ := HK.out k hlt
      have HkM : Hid (k < M.length) := Lib.hid (by rw [HML.out]; exact hlt)
      have HCk := Lib.hid hCk
      rw [HRF1.out, Bool.true_and, HRF.out] at hMk
      rw [HRF.out] at hNo
      have HMk := Lib.hid hMk
      have HNo := Lib.hid hNo
      rw [HRB.out] at hPk
      have HPk := Lib.hid hPk
      have HLe := Lib.hid (HPl.out (k + 1) hlt)
      rw [HPk.out] at HLe
      have HF1 := Lib.hid (fun w => HFi.out p.tag ok.tag w)
      have HF2 := Lib.hid (fun w => HFi.out p.val ok.val w)
      obtain ⟨tag, val⟩ := p
      unfold Dy.C at HCk
      have HC1 : Hid ((#[.int .u64 (tag : Int), .int .u64 (val : Int)] : Array Value).all (·.oneCell') = true) := Dy.one ⟨tag, val⟩
      simp only [] at *
      generalize decide (tag < mx) = b1 at HF1 HMk HNo
      generalize decide (val < mx) = b2 at HF2 HMk HNo
      have z0 : (0 : Int) ≤ (k : Int) := by omega
      have z1 : (k : Int) < (n : Int) := by omega
      clear hCk hPk hMk hNo ok
      go_wp2_with (first | (refine wpList_load_zs HSw.out HkM.out rfl 46 (.tmp 22) rfl rfl _ Try.underlying46 rfl (by kernel_rfl) _ (HCk.out _) ?_) | (refine wpList_store_row rfl 46 (.tmp 9) (.tmp 23) rfl wr.heap.size _ rfl rfl _ _ (Blk.new _ _ _) (by kernel_rfl) rfl HC1.out ?_; rw [World.setRow_alloc_new]; refine Hid.out ?_))
      generalize hW : World.alloc _ _ = w3
      obtain ⟨br, hg3⟩ := blk1 hW
      have HNe : Hid (own A2 ≠ some wr.heap.size) := Lib.hid (HO.out.ne (.inr (Nat.le_refl _)))
      have HNw : Hid (own A2 ≠ some w.heap.size) := Lib.hid (HO.out.ne (.inl (Nat.lt_succ_self _)))
      have HO3 := Lib.hid (HO.out.keep hg3)
      have HBF3 := Lib.hid (HBF.out.grow hg3)
      have HBR3 := Lib.hid br
      have HG3 : Hid (Grow w w3) := HG.out.trans hg3
      generalize wr.heap.size = g8 at HNe HBR3 ⊢
      clear hW hg3 br HO HBF HG HSw HkM HCk HC1 z0 z1
      refine Lib.hid (wpList_nil ?_)
      unfold Exit.then
      apply_assumption
      have y0 := HBR3.out.at 0
      simp at y0
      go_wp2_with fail
      clear y0
      refine (HF1.out _).mono ?_
      rintro e w4 ⟨rfl, rfl⟩
      clear HF1
      cases b1
      · have HN2 := Lib.hid (HNo.out rfl)
        clear HNo HF2 HMk
        go_wp2
        go_ret2
        exact .inr ⟨HN2.out, rfl, HG3.out⟩
      · have y1 := HBR3.out.at 1
        simp at y1
        go_wp2_with fail
        clear y1
        refine (HF2.out _).mono ?_
        rintro e w4 ⟨rfl, rfl⟩
        clear HF2
        cases b2
        · have HN2 := Lib.hid (HNo.out rfl)
          clear HNo HMk
          go_wp2
          go_ret2
          exact .inr ⟨HN2.out, rfl, HG3.out⟩
        · clear HNo
          have y0 := HBR3.out.at 0
          obtain ⟨f0, f1⟩ := HBF3.out.c2
          simp at y0
          go_wp2_with fail
          clear y0 f0 f1
          refine (put_wide tag wd big _ HWd.out (by omega)).mono ?_
          rintro e w5 ⟨A3, c3, rfl, ho3, hb3⟩
          rw [Int.toNat_natCast] at ho3
          have HP5 := Lib.hid ho3
          have HO5 := Lib.hid (HO3.out.keep hb3)
          have HBF5 := Lib.hid (HBF3.out.grow hb3)
          have HBR5 := Lib.hid (HBR3.out.grow hb3)
          have HG5 : Hid (Grow w w5) := HG3.out.trans hb3
          clear ho3 hb3 HO3 HBF3 HBR3 HG3
          have HLe2 := Lib.hid (show (P k).length + wd + wd ≤ 48000 by have := HLe.out; simp only [List.length_append, length_putB] at this; omega)
          go_wp2_with (refine wpList_appendS w5 rfl (.tmp 37) (.tmp 43) 25 rfl (w.heap.size + 1) 5 Try.underlying25 (by kernel_rfl) A2 _ c2 _ rfl HO5.out w5.heap.size A3 wd c3 _ rfl HP5.out.rb (by have := HLe2.out; omega) HBF5.out.lt ?_; intro A5 c5 w6 ho6 hb6 hk6 hn6; refine Hid.out ?_)
          obtain ⟨hbf6, hnw6⟩ := blk_left hk6 hn6 HNw.out HBF5.out
          obtain ⟨hbr6, -⟩ := blk_left hk6 hn6 HNe.out HBR5.out
          have HO6 := Lib.hid ho6
          have HBF6 := Lib.hid hbf6
          have HBR6 := Lib.hid hbr6
          have HNw6 := Lib.hid hnw6
          have HG6 : Hid (Grow w w6) := HG5.out.trans' (hb6.mono (Nat.le_succ _))
          clear ho6 hb6 hk6 hn6 hbf6 hbr6 hnw6 HO5 HP5 HBF5 HBR5 HG5 HNw HNe
          refine Lib.hid ?_
          have y1 := HBR6.out.at 1
          obtain ⟨f0, f1⟩ := HBF6.out.c2
          simp at y1
          go_wp2_with fail
          clear y1 f0 f1
          refine (put_wide val wd big _ HWd.out (by omega)).mono ?_
          rintro e w11 ⟨A3, c3, rfl, ho3, hb3⟩
          rw [Int.toNat_natCast] at ho3
          have HP11 := Lib.hid ho3
          have HO11 := Lib.hid (HO6.out.keep hb3)
          have HBF11 := Lib.hid (HBF6.out.grow hb3)
          have HG11 : Hid (Grow w w11) := HG6.out.trans hb3
          clear ho3 hb3 HO6 HBF6 HBR6 HG6
          go_wp2_with (refine wpList_appendS w11 rfl (.tmp 45) (.tmp 51) 25 rfl (w.heap.size + 1) 5 Try.underlying25 (by kernel_rfl) A5 _ c5 _ rfl HO11.out w11.heap.size A3 wd c3 _ rfl HP11.out.rb (by have := HLe2.out; omega) HBF11.out.lt ?_; intro A9 c9 w12 ho12 hb12 hk12 hn12; refine Hid.out ?_)
          obtain ⟨hbf12, -⟩ := blk_left hk12 hn12 HNw6.out HBF11.out
          have hm2 : (P k).length + wd + wd = (P (k + 1)).length := by rw [HPk.out]; simp only [List.length_append, length_putB]; omega
          have hl2 : P k ++ putB tag wd big ++ putB val wd big = P (k + 1) := by rw [HPk.out]; simp only [List.append_assoc]
          rw [hm2, hl2] at ho12
          rw [hm2]
          have HO12 := Lib.hid ho12
          have HBF12 := Lib.hid hbf12
          have HG12 : Hid (Grow w w12) := HG11.out.trans' (hb12.mono (Nat.le_succ _))
          clear ho12 hbf12 hm2 hl2 hb12 hk12 hn12 HO11 HP11 HBF11 HG11
          refine Lib.hid ?_
          go_wp2
          go_roundw
          case rel => exact ⟨k + 1, A9, c9, by omega, by go_num, rfl, HO12.out, HBF12.out, HMk.out, HG12.out⟩
          case measure => simp [intOf]; omega
    · have e : k = n := by omega
      rw [e, HPn.out] at HO
      rw [e, HMn.out] at HRF1
      rw [e, HPn.out]
      have HO' := Lib.hid (HO.out.mono (Nat.le_succ w.heap.size))
      go_wp2
      go_ret2
      exact .inl ⟨HRF1.out, A2, c2, rfl, HO'.out, HG.out⟩
end Go.Proofs.Ytlnadlhajjcaoaa
