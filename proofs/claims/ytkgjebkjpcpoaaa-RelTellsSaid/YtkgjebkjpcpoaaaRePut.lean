/-
  The contract of rel.Put: the bytes of any relocations, in new memory; or ErrArg.
-/
import Derived.Test.YtkgjebkjpcpoaaaReMay
import Derived.Test.YtkgjebkjpcpoaaaRoom
namespace Go.Proofs.Ytkgjebkjpcpoaaa
open Go.RowKit

theorem makeE (N : Nat) (h : N ≤ 100000) (w : World) : (Instr.makeSlice 25 (.int .i64 0) (.int .i64 (N : Int))).run Try.prog w = .ok (.slice (some ⟨w.heap.size, 0, none⟩) 0 N)
    (w.alloc (.cells (madeCells #[.int .u8 0] N) 5)) := by
  have hinfo : (Try.prog.info? 5).map (fun i => (i.zero, i.size, i.bytes)) = some (some (.int .u8 0), 1, 1) := by kernel_rfl
  obtain ⟨i, hi, hz, hs, hby⟩ := info_parts hinfo
  have := run_make (P := Try.prog) w 25 5 i (.int .u8 0) Try.underlying25 hi hz .i64 .i64 0 (N : Int) (Int.le_refl _) (by omega) (by rw [hby]; omega) (by omega)
  rw [hs, show (Value.int IntKind.u8 0).cells = #[.int .u8 0] from rfl] at this
  simpa using this

theorem Re.mayT {p : Re} (ok : p.Ok) {wide adds : Bool} (h : p.May wide adds = true) : p.ty < reK wide := by
  cases wide
  · exact (Re.mayN h).2.2.1
  · exact ok.ty

/-- The bytes of the first k. -/
def reP (L : List Re) (wide adds big : Bool) (k : Nat) : List UInt8 := rowB big (relQ wide adds (L.take k))
theorem reP_len (L : List Re) (wide adds big : Bool) (k : Nat) (h : k ≤ L.length) : (reP L wide adds big k).length = k * reSize wide adds := by
  rw [reP, relL_len, List.length_take, Nat.min_eq_left h]
theorem reP_succ (L : List Re) (wide adds big : Bool) (k : Nat) (h : k < L.length) :
    reP L wide adds big (k + 1) = reP L wide adds big k ++ rowB big (L[k].Q wide adds) := by rw [reP, relQ_snoc _ _ _ _ h, rowB_append]; rfl
theorem rowB_Q (p : Re) (wide adds big : Bool) : rowB big (p.Q wide adds) = putB p.off (reW wide) big ++ putB (p.both wide) (reW wide) big ++ (if adds then putB (p.ad wide) (reW wide) big else []) := by
  cases adds <;> simp [Re.Q, rowB]

/-- What Put answers. -/
def EPut (L : List Re) (wide adds big : Bool) (w : World) (e : Ending) (w' : World) : Prop :=
  (mays wide adds L = true ∧ ∃ A c, e = .returned (.tuple #[.slice A (rowB big (relQ wide adds L)).length c, .nilIface]) ∧ OB w' w.heap.size 5 A (rowB big (relQ wide adds L)).length c (rowB big (relQ wide adds L)) ∧ Grow w w') ∨
  (mays wide adds L = false ∧ e = .returned (.tuple #[.slice none 0 0, .iface 49 (.int .i64 1)]) ∧ Grow w w')

set_option maxHeartbeats 1000000 in
theorem ePut_any (A : Option Addr) (n c : Nat) (L : List Re) (hok : ∀ s ∈ L, s.Ok) (h400 : L.length ≤ 1000) (wide adds big : Bool) (w : World) (h : ZS w w.heap.size 4 A n c (L.map Re.C)) :
    Calls Try.prog 6 #[.slice A n c, .agg #[.bool wide, .bool big], .bool adds] w (EPut L wide adds big w) := by
  have hn : n = L.length := by have := h.len; simpa using this
  have HS := Lib.hid h
  have hcp := h.cap
  have hmx := h.max
  unfold maxLen at hmx
  have hn4 : n ≤ 1000 := by omega
  clear h h400
  have HK : Hid (∀ k, k < n → ∃ p : Re, p.Ok ∧ (∀ hk : k < (L.map Re.C).length, (L.map Re.C)[k] = p.C) ∧ reP L wide adds big (k + 1) = reP L wide adds big k ++ rowB big (p.Q wide adds) ∧
      mays wide adds (L.take (k + 1)) = (mays wide adds (L.take k) && p.May wide adds) ∧ (p.May wide adds = false → mays wide adds L = false)) := Lib.hid (fun k hk => by
    have hkl : k < L.length := by omega
    exact ⟨L[k], hok _ (List.getElem_mem hkl), fun _ => List.getElem_map _, reP_succ L wide adds big k hkl, mays_snoc wide adds L k hkl, fun h => mays_not hkl h⟩)
  have HPl : Hid (∀ k, k ≤ n → (reP L wide adds big k).length ≤ 24000) := Lib.hid (fun k hk => by
    rw [reP_len L wide adds big k (by omega)]
    exact Nat.mul_le_mul (show k ≤ 1000 by omega) (reSize_le wide adds))
  have HP0 : Hid (reP L wide adds big 0 = []) := Lib.hid rfl
  have HPn : Hid (reP L wide adds big n = rowB big (relQ wide adds L)) := Lib.hid (by rw [reP, hn, List.take_length])
  have HMn : Hid (mays wide adds (L.take n) = mays wide adds L) := Lib.hid (by rw [hn, List.take_length])
  have HML : Hid ((L.map Re.C).length = n) := Lib.hid (by simp [hn])
  have HM0 : Hid (mays wide adds (L.take 0) = true) := Lib.hid rfl
  unfold EPut
  generalize reP L wide adds big = P at HK HPl HP0 HPn
  obtain ⟨m, hm⟩ : ∃ m : Nat → Bool, m = fun k => mays wide adds (L.take k) := ⟨_, rfl⟩
  have em : ∀ k, mays wide adds (L.take k) = m k := fun k => by rw [hm]
  simp only [em] at HK HMn HM0
  generalize mays wide adds L = ms at HK HMn ⊢
  generalize rowB big (relQ wide adds L) = PL at HPn ⊢
  generalize L.map Re.C = M at HS HK HML
  clear hn hok em hm
  have HW := Lib.hid (fun w => reW_any wide big w)
  have HSz := Lib.hid (fun w => reSize_any wide big adds w)
  have HMy := Lib.hid (fun (p : Re) (ok : p.Ok) w => reMay_any p ok wide big adds w)
  have HBo := Lib.hid (fun (p : Re) (ok : p.Ok) (h : p.May wide adds = true) w => reBoth_any p ok wide big (Re.mayT ok h) w)
  have HRB := Lib.hid (fun p : Re => rowB_Q p wide adds big)
  have HAd := Lib.hid (fun p : Re => p.putAdd wide big)
  have HWd := Lib.hid (reW_wid wide)
  have hw8 : reW wide ≤ 8 := by cases wide <;> decide
  have hs24 := reSize_le wide adds
  generalize reW wide = wd at HW HRB HAd HWd hw8
  generalize reSize wide adds = sz at HSz hs24
  go_enter Try.func6, Try.ntmps6
  go_wp2_with fail
  generalize hW : World.alloc _ _ = W0
  obtain ⟨bf, hg0⟩ := blk1 hW
  clear hW
  refine (HW.out W0).mono ?_
  rintro e w0 ⟨rfl, hg1⟩
  have HBF0 := Lib.hid (bf.grow hg1)
  have HG0 : Hid (Grow w w0) := hg0.trans hg1
  clear bf hg0 hg1
  obtain ⟨f0, f1⟩ := HBF0.out.c2
  go_wp2_with fail
  clear f0 f1
  refine (HSz.out w0).mono ?_
  rintro e w1 ⟨rfl, hg1⟩
  have HBF1 := Lib.hid (HBF0.out.grow hg1)
  have HG1 : Hid (Grow w w1) := HG0.out.trans hg1
  clear HBF0 HG0 hg1
  obtain ⟨N, hN⟩ : ∃ N, N = n * sz := ⟨_, rfl⟩
  have hN4 : N ≤ 24000 := by rw [hN]; exact Nat.mul_le_mul hn4 hs24
  have z1 : IntKind.i64.wrap ((n : Int) * (sz : Int)) = (N : Int) := by
    rw [hN, Int.natCast_mul, IntKind.wrap_i64]
    have : (n : Int) * (sz : Int) = ((n * sz : Nat) : Int) := by simp
    omega
  have hmk := makeE N (by omega) w1
  clear hN
  go_wp2_with fail
  have HO2 := Lib.hid (OB.roomyR w1 (w.heap.size + 1) 5 N (madeCells #[.int .u8 0] N) (by simp [size_madeCells]) (by unfold maxLen; omega) (show w.heap.size + 1 ≤ w1.heap.size from HBF1.out.lt))
  have HBF2 := Lib.hid (HBF1.out.alloc (.cells (madeCells #[.int .u8 0] N) 5))
  have HG2 : Hid (Grow w (w1.alloc (.cells (madeCells #[.int .u8 0] N) 5))) := HG1.out.trans (Grow.of_alloc _ _)
  generalize w1.alloc _ = w2 at HO2 HBF2 HG2 ⊢
  generalize w1.heap.size = g7 at HO2 ⊢
  clear hmk z1 HG1 HBF1 HSz hs24
  go_loopw [9, 23] (fun x i wr => ∃ (k : Nat) (A2 : Option Addr) (c2 : Nat), k ≤ n ∧ i = .int .i64 k ∧ x = .slice A2 (P k).length c2 ∧ OB wr (w.heap.size + 1) 5 A2 (P k).length c2 (P k) ∧
    Blk wr w.heap.size 24 #[.bool wide, .bool big] ∧ m k = true ∧ Grow w wr) (fun _ i _ => n - (intOf i).toNat)
  case atStart => exact ⟨0, some ⟨g7, 0, none⟩, N, Nat.zero_le _, rfl, by rw [HP0.out]; rfl, by rw [HP0.out]; exact HO2.out, HBF2.out, HM0.out, HG2.out⟩
  case round =>
    obtain ⟨k, A2, c2, hk, rfl, rfl, ho, hbf, hrf, hg⟩ := hrel
    have HO := Lib.hid ho
    have HBF := Lib.hid hbf
    have HRF := Lib.hid hrf
    have HG := Lib.hid hg
    clear ho hbf hrf hg HO2 HBF2 HG2
    by_cases hlt : k < n
    · obtain ⟨b, off', rfl, -, -⟩ := HS.out.pos (by omega)
      have HSw := Lib.hid (HS.out.belowAt HG.out (Nat.le_refl _))
      obtain ⟨p, ok, hCk, hPk, hMk, hNo⟩ := HK.out k hlt
      have HkM : Hid (k < M.length) := Lib.hid (by rw [HML.out]; exact hlt)
      have HCk := Lib.hid hCk
      have HMy2 := Lib.hid (HMy.out p ok)
      have HBo2 := Lib.hid (HBo.out p ok)
      have hAd2 := HAd.out p
      rw [HRF.out, Bool.true_and] at hMk
      have HMk := Lib.hid hMk
      have HNo := Lib.hid hNo
      rw [HRB.out] at hPk
      have HPk := Lib.hid hPk
      have HLe := Lib.hid (HPl.out (k + 1) hlt)
      rw [HPk.out] at HLe
      obtain ⟨off, sym, ty, add⟩ := p
      unfold Re.V Re.C at HMy2 HBo2
      unfold Re.C at HCk
      have HC1 : Hid ((#[.int .u64 (off : Int), .int .u32 (sym : Int), .int .u32 (ty : Int), .int .i64 add] : Array Value).all (·.oneCell') = true) := Re.one ⟨off, sym, ty, add⟩
      generalize Re.May ⟨off, sym, ty, add⟩ wide adds = my at HMy2 HBo2 HMk HNo
      generalize Re.both ⟨off, sym, ty, add⟩ wide = bo at HBo2 HPk HLe
      generalize Re.ad ⟨off, sym, ty, add⟩ wide = ad at hAd2 HPk HLe
      simp only [] at *
      have zA : IntKind.u64.wrap add = ((add % (18446744073709551616 : Nat)).toNat : Int) := by rw [IntKind.wrap_u64]; omega
      generalize (add % (18446744073709551616 : Nat)).toNat = ua at hAd2 zA
      have HAd2 := Lib.hid hAd2
      have ZA := Lib.hid zA
      have z0 : (0 : Int) ≤ (k : Int) := by omega
      have z1 : (k : Int) < (n : Int) := by omega
      clear hCk hPk hMk hNo ok hAd2 zA
      obtain ⟨f0, f1⟩ := (HBF.out.alloc (.cells #[.int .u64 (off : Int), .int .u32 (sym : Int), .int .u32 (ty : Int), .int .i64 add] 47)).c2
      go_wp2_with (first | (refine wpList_load_zs HSw.out HkM.out rfl 47 (.tmp 25) rfl rfl _ Try.underlying47 rfl (by kernel_rfl) _ (HCk.out _) ?_) | (refine wpList_store_row rfl 47 (.tmp 11) (.tmp 26) rfl wr.heap.size _ rfl rfl _ _ (Blk.new _ _ _) (by kernel_rfl) rfl HC1.out ?_; rw [World.setRow_alloc_new]) | (refine wpList_load_row rfl 47 (.tmp 11) rfl wr.heap.size rfl _ _ (0, 0) _ (Blk.new _ _ _) Try.underlying47 rfl (by kernel_rfl) ?_))
      clear f0 f1
      generalize hW : World.alloc _ _ = w3
      obtain ⟨br, hg3⟩ := blk1 hW
      have HNe : Hid (own A2 ≠ some wr.heap.size) := Lib.hid (HO.out.ne (.inr (Nat.le_refl _)))
      have HNw : Hid (own A2 ≠ some w.heap.size) := Lib.hid (HO.out.ne (.inl (Nat.lt_succ_self _)))
      have HO3 := Lib.hid (HO.out.keep hg3)
      have HBF3 := Lib.hid (HBF.out.grow hg3)
      have HBR3 := Lib.hid br
      have HG3 : Hid (Grow w w3) := HG.out.trans hg3
      have HRW : Hid (w.heap.size < wr.heap.size) := HBF.out.lt
      generalize wr.heap.size = g8 at HNe HBR3 HRW ⊢
      clear hW hg3 br HO HBF HG HSw HkM HCk HC1
      refine (HMy2.out w3).mono ?_
      rintro e w4 ⟨rfl, hg4⟩
      have HO4 := Lib.hid (HO3.out.keep hg4)
      have HBF4 := Lib.hid (HBF3.out.grow hg4)
      have HBR4 := Lib.hid (HBR3.out.grow hg4)
      have HG4 : Hid (Grow w w4) := HG3.out.trans hg4
      clear hg4 HO3 HBF3 HBR3 HG3 HMy2
      cases my
      · have HN2 := Lib.hid (HNo.out rfl)
        clear HNo
        go_wp2
        go_ret2
        exact .inr ⟨HN2.out, rfl, HG4.out⟩
      · have y0 := HBR4.out.at 0
        obtain ⟨f0, f1⟩ := HBF4.out.c2
        simp at y0
        go_wp2_with fail
        clear y0 f0 f1
        refine (put_wide off wd big _ HWd.out (by omega)).mono ?_
        rintro e w5 ⟨A3, c3, rfl, ho3, hb3⟩
        rw [Int.toNat_natCast] at ho3
        have HP5 := Lib.hid ho3
        have HO5 := Lib.hid (HO4.out.keep hb3)
        have HBF5 := Lib.hid (HBF4.out.grow hb3)
        have HBR5 := Lib.hid (HBR4.out.grow hb3)
        have HG5 : Hid (Grow w w5) := HG4.out.trans hb3
        clear ho3 hb3 HO4 HBF4 HBR4 HG4
        have HLe2 := Lib.hid (show (P k).length + wd + wd + wd ≤ 48000 by have := HLe.out; simp only [List.length_append, length_putB] at this; omega)
        go_wp2_with (refine wpList_appendS w5 rfl (.tmp 33) (.tmp 39) 25 rfl (w.heap.size + 1) 5 Try.underlying25 (by kernel_rfl) A2 _ c2 _ rfl HO5.out w5.heap.size A3 wd c3 _ rfl HP5.out.rb (by have := HLe2.out; omega) HBF5.out.lt ?_; intro A5 c5 w6 ho6 hb6 hk6 hn6)
        obtain ⟨hbf6, hnw6⟩ := blk_left hk6 hn6 HNw.out HBF5.out
        obtain ⟨hbr6, hne6⟩ := blk_left hk6 hn6 HNe.out HBR5.out
        have HO6 := Lib.hid ho6
        have HBF6 := Lib.hid hbf6
        have HBR6 := Lib.hid hbr6
        have HNw6 := Lib.hid hnw6
        have HNe6 := Lib.hid hne6
        have HG6 : Hid (Grow w w6) := HG5.out.trans' (hb6.mono (Nat.le_succ _))
        clear ho6 hb6 hk6 hn6 hbf6 hbr6 hnw6 hne6 HO5 HP5 HBF5 HBR5 HG5 HNw HNe
        refine wp_region_leap (leap_kept (fun j => j = w.heap.size ∨ j = g8)) [(0, true), (1, true), (2, true), (4, true), (5, true), (6, true), (3, false), (7, false), (8, false), (9, true)] (by kernel_rfl) (by kernel_rfl) (by kernel_rfl) ?_
        have HX : Hid (∀ W, Kept (fun j => j = w.heap.size ∨ j = g8) w6.drew W → (_ ∧ _) ∧ _) := fun W hW => ⟨(HBF6.out.drew.kept hW (.inl rfl)).c2, (HBR6.out.drew.kept hW (.inr rfl)).c4⟩
        have HO1 : Hid (OB w6.drew _ _ _ _ _ _) := HO6.out
        have HBF1 := Lib.hid HBF6.out.drew
        have HBR1 := Lib.hid HBR6.out.drew
        have HG1 : Hid (Grow w w6.drew) := HG6.out.trans (Grow.of_drew _)
        generalize w6.drew = w7 at HX HO1 HBF1 HBR1 HG1 ⊢
        clear HO6 HBF6 HBR6 HG6
        repeat (refine chain_take rfl (by rfl) ?_ (fun W hG => ?_) ?_; rotate_left; (obtain ⟨⟨q1, q2⟩, q3, q4, q5, q6⟩ := HX.out W hG; go_simp; rfl); simp only [Act.put, List.setIfInBounds_toArray, List.set_cons_zero, List.set_cons_succ])
        clear HX
        refine chain_only rfl (by rfl) (fun K hK => ?_)
        go_simp
        refine (HBo2.out (by first | rfl | trivial) _).mono ?_
        rintro e w8 ⟨rfl, hg8⟩
        refine hK _ _ (Kept.of_grow hg8) ?_
        clear hK K
        have HO8 := Lib.hid (HO1.out.keep hg8)
        have HBF8 := Lib.hid (HBF1.out.grow hg8)
        have HBR8 := Lib.hid (HBR1.out.grow hg8)
        have HG8 : Hid (Grow w w8) := HG1.out.trans hg8
        clear hg8 HO1 HBF1 HBR1 HG1 HBo2
        refine chain_only rfl (by rfl) (fun K hK => ?_)
        go_simp
        refine (put_wide bo wd big _ HWd.out (by omega)).mono ?_
        rintro e w9 ⟨A3, c3, rfl, ho3, hb3⟩
        rw [Int.toNat_natCast] at ho3
        refine hK _ _ (Kept.of_grow hb3) ?_
        clear hK K
        have HP9 := Lib.hid ho3
        have HO9 := Lib.hid (HO8.out.keep hb3)
        have HBF9 := Lib.hid (HBF8.out.grow hb3)
        have HBR9 := Lib.hid (HBR8.out.grow hb3)
        have HG9 : Hid (Grow w w9) := HG8.out.trans hb3
        clear ho3 hb3 HO8 HBF8 HBR8 HG8
        refine chain_only rfl (by rfl) (fun K hK => ?_)
        refine wp_appendS w9 (.tmp 41) (.tmp 48) 25 rfl (w.heap.size + 1) 5 Try.underlying25 (by kernel_rfl) A5 _ c5 _ rfl HO9.out w9.heap.size A3 wd c3 _ rfl HP9.out.rb (by have := HLe2.out; omega) HBF9.out.lt ?_
        intro A7 c7 w10 ho10 hb10 hk10 hn10
        obtain ⟨hbf10, hnw10⟩ := blk_left hk10 hn10 HNw6.out HBF9.out
        obtain ⟨hbr10, hne10⟩ := blk_left hk10 hn10 HNe6.out HBR9.out
        refine hK _ _ ⟨hb10.size, fun j hj hj2 => by
          rcases hj2 with rfl | rfl
          · exact hk10 _ hj HNw6.out
          · exact hk10 _ hj HNe6.out⟩ ?_
        clear hK K
        have HO10 := Lib.hid ho10
        have HBF10 := Lib.hid hbf10
        have HBR10 := Lib.hid hbr10
        have HNw10 := Lib.hid hnw10
        have HNe10 := Lib.hid hne10
        have HG10 : Hid (Grow w w10) := HG9.out.trans' (hb10.mono (Nat.le_succ _))
        clear ho10 hb10 hk10 hn10 hbf10 hbr10 hnw10 hne10 HO9 HP9 HBF9 HBR9 HG9 HNw6 HNe6
        repeat (refine chain_take rfl (by rfl) ?_ (fun W hG => ?_) ?_; rotate_left; (go_simp; rfl); simp only [Act.put, List.setIfInBounds_toArray, List.set_cons_zero, List.set_cons_succ])
        refine chain_done ?_
        cases adds
        · simp only [Bool.false_eq_true, if_false, List.append_nil] at HPk
          have hm2 : (P k).length + wd + wd = (P (k + 1)).length := by rw [HPk.out]; simp only [List.length_append, length_putB]; omega
          have hl2 : P k ++ putB off wd big ++ putB bo wd big = P (k + 1) := by rw [HPk.out, List.append_assoc]
          have hO := HO10.out
          rw [hm2, hl2] at hO
          rw [hm2]
          have HO11 := Lib.hid hO
          clear hm2 hl2 hO HO10
          go_wp2
          go_roundw
          case rel => exact ⟨k + 1, A7, c7, by omega, by go_num, rfl, HO11.out, HBF10.out, HMk.out, HG10.out⟩
          case measure => simp [intOf]; omega
        · simp only [if_true] at HPk
          have y3 := HBR10.out.at 3
          obtain ⟨f0, f1⟩ := HBF10.out.c2
          have zA := ZA.out
          simp at y3
          go_wp2_with fail
          clear y3 f0 f1 zA
          refine (put_wide ua wd big _ HWd.out (by omega)).mono ?_
          rintro e w11 ⟨A3, c3, rfl, ho3, hb3⟩
          rw [Int.toNat_natCast, HAd2.out] at ho3
          have HP11 := Lib.hid ho3
          have HO11 := Lib.hid (HO10.out.keep hb3)
          have HBF11 := Lib.hid (HBF10.out.grow hb3)
          have HG11 : Hid (Grow w w11) := HG10.out.trans hb3
          clear ho3 hb3 HO10 HBF10 HBR10 HG10
          go_wp2_with (refine wpList_appendS w11 rfl (.tmp 51) (.tmp 58) 25 rfl (w.heap.size + 1) 5 Try.underlying25 (by kernel_rfl) A7 _ c7 _ rfl HO11.out w11.heap.size A3 wd c3 _ rfl HP11.out.rb (by have := HLe2.out; omega) HBF11.out.lt ?_; intro A9 c9 w12 ho12 hb12 hk12 hn12)
          obtain ⟨hbf12, -⟩ := blk_left hk12 hn12 HNw10.out HBF11.out
          have hm2 : (P k).length + wd + wd + wd = (P (k + 1)).length := by rw [HPk.out]; simp only [List.length_append, length_putB]; omega
          have hl2 : P k ++ putB off wd big ++ putB bo wd big ++ putB ad wd big = P (k + 1) := by rw [HPk.out]; simp only [List.append_assoc]
          rw [hm2, hl2] at ho12
          rw [hm2]
          have HO12 := Lib.hid ho12
          have HBF12 := Lib.hid hbf12
          have HG12 : Hid (Grow w w12) := HG11.out.trans' (hb12.mono (Nat.le_succ _))
          clear ho12 hbf12 hm2 hl2 hb12 hk12 hn12 HO11 HP11 HBF11 HG11
          go_roundw
          case rel => exact ⟨k + 1, A9, c9, by omega, by go_num, rfl, HO12.out, HBF12.out, HMk.out, HG12.out⟩
          case measure => simp [intOf]; omega
    · have e : k = n := by omega
      rw [e, HPn.out] at HO
      rw [e, HMn.out] at HRF
      rw [e, HPn.out]
      have HO' := Lib.hid (HO.out.mono (Nat.le_succ w.heap.size))
      go_wp2
      go_ret2
      exact .inl ⟨HRF.out, A2, c2, rfl, HO'.out, HG.out⟩
end Go.Proofs.Ytkgjebkjpcpoaaa
