/-
  The contract of sym.Put: the bytes of any symbols, in new memory; or ErrArg.
-/
import Derived.Test.YtodcnlihhilfkaaSyA
import Derived.Test.YtodcnlihhilfkaaZs
import Derived.Test.YtodcnlihhilfkaaRefRow
namespace Go.Proofs.Ytodcnlihhilfkaa
open Go.RowKit

theorem OB.roomy (w : World) (base : Nat) (t : TypeId) (c : Nat) (cs : Array Value) (hs : cs.size = c) (h : c ≤ maxLen) (hb : base ≤ w.heap.size) : OB (w.alloc (.cells cs t)) base t (some ⟨w.heap.size, 0, none⟩) 0 c [] :=
  ⟨by simp, .inr ⟨w.heap.size, c, cs, rfl, hb, heap_alloc_new w _, Nat.zero_le _, h, by simp [hs], by simp⟩⟩
theorem OB.lt {w : World} {base : Nat} {e : TypeId} {A : Option Addr} {n c : Nat} {l : List UInt8} (h : OB w base e A n c l) {g : Nat} (hg : own A = some g) : g < w.heap.size := by
  rcases h.2 with ⟨hv, _⟩ | ⟨g', cap, cur, hv, _, hh, _⟩
  · injection hv with e1 _ _
    subst e1
    cases hg
  · injection hv with e1 _ _
    subst e1
    have e3 : g' = g := Option.some.inj hg
    subst e3
    rcases Nat.lt_or_ge g' w.heap.size with h1 | h1
    · exact h1
    · rw [Array.getElem?_eq_none h1] at hh; cases hh

theorem OB.from {w : World} {base : Nat} {e : TypeId} {A : Option Addr} {n c : Nat} {l : List UInt8} (h : OB w base e A n c l) {g : Nat} (hg : own A = some g) : base ≤ g := by
  rcases h.2 with ⟨hv, _⟩ | ⟨g', cap, cur, hv, hb, _⟩
  · injection hv with e1 _ _
    subst e1
    cases hg
  · injection hv with e1 _ _
    subst e1
    have e3 : g' = g := Option.some.inj hg
    omega

theorem makeY (N : Nat) (h : N ≤ 100000) (w : World) : (Instr.makeSlice 25 (.int .i64 0) (.int .i64 (N : Int))).run Try.prog w = .ok (.slice (some ⟨w.heap.size, 0, none⟩) 0 N)
    (w.alloc (.cells (madeCells #[.int .u8 0] N) 5)) := by
  have hinfo : (Try.prog.info? 5).map (fun i => (i.zero, i.size, i.bytes)) = some (some (.int .u8 0), 1, 1) := by kernel_rfl
  obtain ⟨i, hi, hz, hs, hby⟩ := info_parts hinfo
  have := run_make (P := Try.prog) w 25 5 i (.int .u8 0) Try.underlying25 hi hz .i64 .i64 0 (N : Int) (Int.le_refl _) (by omega) (by rw [hby]; omega) (by omega)
  rw [hs, show (Value.int IntKind.u8 0).cells = #[.int .u8 0] from rfl] at this
  simpa using this

/-- What Put answers. -/
def YPut (L : List Sy) (wide big : Bool) (w : World) (e : Ending) (w' : World) : Prop :=
  (rowF (symQ wide L) = true ∧ ∃ A c, e = .returned (.tuple #[.slice A (rowB big (symQ wide L)).length c, .nilIface]) ∧ OB w' w.heap.size 5 A (rowB big (symQ wide L)).length c (rowB big (symQ wide L)) ∧ Grow w w') ∨
  (rowF (symQ wide L) = false ∧ e = .returned (.tuple #[.slice none 0 0, .iface 57 (.int .i64 1)]) ∧ Grow w w')

set_option maxHeartbeats 1000000 in
theorem yPut_any (A : Option Addr) (n c : Nat) (L : List Sy) (hok : ∀ s ∈ L, s.Ok) (h400 : L.length ≤ 400) (wide big : Bool) (w : World) (h : ZS w w.heap.size 6 A n c (L.map Sy.C)) :
    Calls Try.prog 6 #[.slice A n c, .agg #[.bool wide, .bool big]] w (YPut L wide big w) := by
  have hn : n = L.length := by have := h.len; simpa using this
  have HS := Lib.hid h
  have hcp := h.cap
  have hmx := h.max
  unfold maxLen at hmx
  have hn4 : n ≤ 400 := by omega
  clear h h400
  have HK : Hid (∀ k, k < n → ∃ (C RN : Array Value) (N : List Nat), C.size = 6 ∧ C.all (·.oneCell') = true ∧ (∀ hk : k < (L.map Sy.C).length, (L.map Sy.C)[k] = C) ∧ RN.size = 6 ∧ RN.all (·.oneCell') = true ∧ (∀ i, i < 6 → RN[i]? = some (.int .u64 (N.getD i 0 : Nat))) ∧
      (∀ i, N.getD i 0 < 18446744073709551616) ∧ (∀ w, Calls Try.prog 16 #[.agg C] w fun e w' => e = .returned (.agg RN) ∧ Grow w w') ∧
      (∀ j (_ : j < 6) (hq : 6 * k + j < (symQ wide L).length), (symQ wide L)[6 * k + j].1 = N.getD ((yOrd wide).getD j 0) 0 ∧ (symQ wide L)[6 * k + j].2 = yWid wide ((yOrd wide).getD j 0))) := Lib.hid (fun k hk => by
    have hkl : k < L.length := by omega
    have ok := hok _ (List.getElem_mem hkl)
    exact ⟨L[k].C, u64s L[k].N, L[k].N, rfl, Sy.one _, fun _ => List.getElem_map _, rfl, one_u64s _, fun i hi => idx_u64s _ _ hi, Sy.atN _ ok, fun w => yNum_any _ ok w, fun j hj hq => symQ_get wide L k j hkl hj hq⟩)
  have HLQ : Hid ((symQ wide L).length = 6 * n) := Lib.hid (by rw [symQ_len, hn])
  have HBd : Hid (∀ k, k ≤ (symQ wide L).length → (rowB big ((symQ wide L).take k)).length ≤ 8 * k) := Lib.hid (rowB_bound (symQ_8 wide L) big)
  have HML : Hid ((L.map Sy.C).length = n) := Lib.hid (by simp [hn])
  unfold YPut
  generalize symQ wide L = q at HK HLQ HBd ⊢
  generalize L.map Sy.C = M at HS HK HML
  clear hn hok
  have HSz := Lib.hid (fun w => ySize_any wide big w)
  have HOr := Lib.hid (fun w => yOrd_any wide big w)
  have HWi := Lib.hid (fun i w => yWid_any wide big i w)
  have HWw := Lib.hid (yWid_wid wide)
  have HAO : Hid (∀ k, k < 6 → (i64s (yOrd wide))[k]? = some (.int .i64 ((yOrd wide).getD k 0 : Nat))) := Lib.hid (fun k hk => idx_i64s _ _ (by rw [len_yOrd]; exact hk))
  have HOl := Lib.hid (yOrd_lt wide)
  have HSp : Hid (ySize wide ≤ 24) := Lib.hid (ySize_le wide)
  generalize i64s (yOrd wide) = RO at HOr HAO
  generalize yOrd wide = os at HAO HOl HK
  generalize ySize wide = sz at HSz HSp
  go_enter Try.func6, Try.ntmps6
  go_wp2_with fail
  generalize hW : World.alloc _ _ = W0
  obtain ⟨bf, hg0⟩ := blk1 hW
  clear hW
  refine (HSz.out W0).mono ?_
  rintro e w1 ⟨rfl, hg1⟩
  have HBF1 := Lib.hid (bf.grow hg1)
  have HG1 : Hid (Grow w w1) := hg0.trans hg1
  clear bf hg0 hg1
  obtain ⟨N, hN⟩ : ∃ N, N = n * sz := ⟨_, rfl⟩
  have hN4 : N ≤ 9600 := by rw [hN]; exact Nat.mul_le_mul hn4 HSp.out
  have z1 : IntKind.i64.wrap ((n : Int) * (sz : Int)) = (N : Int) := by
    rw [hN, Int.natCast_mul, IntKind.wrap_i64]
    have : (n : Int) * (sz : Int) = ((n * sz : Nat) : Int) := by simp
    omega
  have hmk := makeY N (by omega) w1
  clear hN
  go_wp2_with fail
  have HO2 := Lib.hid (OB.roomy w1 (w.heap.size + 1) 5 N (madeCells #[.int .u8 0] N) (by simp [size_madeCells]) (by unfold maxLen; omega) (show w.heap.size + 1 ≤ w1.heap.size from HBF1.out.lt))
  have HBF2 := Lib.hid (HBF1.out.alloc (.cells (madeCells #[.int .u8 0] N) 5))
  have HG2 : Hid (Grow w (w1.alloc (.cells (madeCells #[.int .u8 0] N) 5))) := HG1.out.trans (Grow.of_alloc _ _)
  generalize w1.alloc _ = w2 at HO2 HBF2 HG2 ⊢
  generalize w1.heap.size = g7 at HO2 ⊢
  clear hmk z1 HG1 HBF1 HSz
  go_loopw [6, 21] (fun x i wr => ∃ (k : Nat) (A2 : Option Addr) (c2 : Nat), k ≤ n ∧ i = .int .i64 k ∧ x = .slice A2 (rowB big (q.take (6 * k))).length c2 ∧ OB wr (w.heap.size + 1) 5 A2 (rowB big (q.take (6 * k))).length c2 (rowB big (q.take (6 * k))) ∧
    Blk wr w.heap.size 24 #[.bool wide, .bool big] ∧ rowF (q.take (6 * k)) = true ∧ Grow w wr) (fun _ i _ => n - (intOf i).toNat)
  case atStart => exact ⟨0, some ⟨g7, 0, none⟩, N, Nat.zero_le _, rfl, rfl, HO2.out, HBF2.out, rfl, HG2.out⟩
  case round =>
    obtain ⟨k, A2, c2, hk, rfl, rfl, ho, hbf, hrf, hg⟩ := hrel
    have HO := Lib.hid ho
    have HBF := Lib.hid hbf
    have HRF := Lib.hid hrf
    have HG := Lib.hid hg
    clear ho hbf hrf hg HO2 HBF2 HG2
    by_cases hlt : k < n
    · obtain ⟨b, off, rfl, -, -⟩ := HS.out.pos (by omega)
      have HSw := Lib.hid (HS.out.belowAt HG.out (Nat.le_refl _))
      obtain ⟨C, RN, pn, hC6, hC1, hCk, hR6, hR1, hAN, hA64, hNu, hQ⟩ := HK.out k hlt
      have HC6 := Lib.hid hC6
      have HC1 := Lib.hid hC1
      have HCk := Lib.hid hCk
      have HR6 := Lib.hid hR6
      have HR1 := Lib.hid hR1
      have HAN := Lib.hid hAN
      have HA64 := Lib.hid hA64
      have HNu := Lib.hid hNu
      have HQ := Lib.hid hQ
      clear hC6 hC1 hCk hR6 hR1 hAN hA64 hNu hQ
      have hkM : k < M.length := by rw [HML.out]; exact hlt
      have HkM := Lib.hid hkM
      have z0 : (0 : Int) ≤ (k : Int) := by omega
      have z1 : (k : Int) < (n : Int) := by omega
      clear hkM
      go_wp2_with (first | (refine wpList_load_zs HSw.out HkM.out rfl 49 (.tmp 23) rfl rfl _ Try.underlying49 rfl (by kernel_rfl) C (HCk.out _) ?_) | (refine wpList_store_row rfl 49 (.tmp 8) (.tmp 24) rfl wr.heap.size C rfl rfl _ _ (Blk.new _ _ _) (by rw [HC6.out]; kernel_rfl) (by rw [HC6.out]; rfl) HC1.out ?_; rw [World.setRow_alloc_new]) | (refine wpList_load_row rfl 49 (.tmp 8) rfl wr.heap.size rfl _ C (0, 0) _ (Blk.new _ _ _) Try.underlying49 rfl (by rw [HC6.out]; kernel_rfl) ?_))
      generalize hW : World.alloc _ _ = w3
      obtain ⟨-, hg3⟩ := blk1 hW
      have hsz3 := hg3.size
      have HO3 := Lib.hid (HO.out.keep hg3)
      have HBF3 := Lib.hid (HBF.out.grow hg3)
      have HG3 : Hid (Grow w w3) := HG.out.trans hg3
      clear hW hg3 hsz3 HO HBF HG
      refine (HNu.out w3).mono ?_
      rintro e w4 ⟨rfl, hg4⟩
      have HO4 := Lib.hid (HO3.out.keep hg4)
      have HBF4 := Lib.hid (HBF3.out.grow hg4)
      have HG4 : Hid (Grow w w4) := HG3.out.trans hg4
      clear hg4 HO3 HBF3 HG3 HNu HC6 HC1 HCk HkM HSw
      obtain ⟨y0, y1⟩ := (HBF4.out.alloc (.cells RN 51)).c2
      go_wp2_with (refine wpList_store_row rfl 51 (.tmp 9) (.tmp 26) rfl w4.heap.size RN rfl rfl _ _ (Blk.new _ _ _) (by rw [HR6.out]; kernel_rfl) (by rw [HR6.out]; rfl) HR1.out ?_; rw [World.setRow_alloc_new])
      clear y0 y1
      refine (HOr.out _).mono ?_
      rintro e w5 ⟨rfl, hg5⟩
      have hA9 : own A2 ≠ some w4.heap.size := fun h => Nat.lt_irrefl _ (HO4.out.lt h)
      have HA9 := Lib.hid hA9
      have HO5 := Lib.hid ((HO4.out.alloc _).keep hg5)
      have HBF5 := Lib.hid ((HBF4.out.alloc _).grow hg5)
      have HBN5 := Lib.hid ((Blk.new w4 51 RN).grow hg5)
      have HG5 : Hid (Grow w w5) := (HG4.out.trans (Grow.of_alloc _ _)).trans hg5
      have HD9 : Hid (w.heap.size < w4.heap.size) := HBF4.out.lt
      generalize w4.heap.size = g9 at HA9 HBN5 HD9 ⊢
      clear hA9 hg5 HO4 HBF4 HG4 HR6 HR1
      go_wp2_with fail
      go_loopw [6, 29] (fun x i wr => ∃ (j : Nat) (A2 : Option Addr) (c2 : Nat), j ≤ 6 ∧ i = .int .i64 j ∧ x = .slice A2 (rowB big (q.take (6 * k + j))).length c2 ∧ OB wr (w.heap.size + 1) 5 A2 (rowB big (q.take (6 * k + j))).length c2 (rowB big (q.take (6 * k + j))) ∧
        own A2 ≠ some g9 ∧ Blk wr w.heap.size 24 #[.bool wide, .bool big] ∧ Blk wr g9 51 RN ∧ rowF (q.take (6 * k + j)) = true ∧ Grow w wr) (fun _ i _ => 6 - (intOf i).toNat)
      case atStart => exact ⟨0, A2, c2, by omega, rfl, rfl, HO5.out, HA9.out, HBF5.out, HBN5.out, HRF.out, HG5.out⟩
      case round =>
        obtain ⟨j, A2, c2, hj, rfl, rfl, ho, ha9, hbf, hbn, hrf, hg⟩ := hrel
        have HO := Lib.hid ho
        have HA := Lib.hid ha9
        have HBF := Lib.hid hbf
        have HBN := Lib.hid hbn
        have HRFj := Lib.hid hrf
        have HG := Lib.hid hg
        clear ho ha9 hbf hbn hrf hg HO5 HA9 HBF5 HBN5 HRF HG5
        by_cases hlj : j < 6
        · have hkq : 6 * k + j < q.length := by rw [HLQ.out]; omega
          have HB := Lib.hid (rowB_succ big q (6 * k + j) hkq)
          have HF := Lib.hid (rowF_succ q (6 * k + j) hkq)
          have HZ := Lib.hid (fun h => rowF_false hkq h)
          have HLE := Lib.hid (HBd.out (6 * k + j) (by omega))
          have HK1 := Lib.hid (HAN.out (os.getD j 0) (HOl.out j hlj))
          have HK2 := Lib.hid (HAO.out j hlj)
          have ho6 := HOl.out j hlj
          obtain ⟨e1, e2⟩ := HQ.out j hlj hkq
          have hv := HA64.out (os.getD j 0)
          have HWv := Lib.hid (HWw.out (os.getD j 0))
          rw [HRFj.out, Bool.true_and] at HF
          rw [← e1] at HK1 hv
          have HW2 := Lib.hid (fun w => HWi.out (os.getD j 0) w)
          rw [← e2] at HW2 HWv
          have hw8 : q[6 * k + j].2 ≤ 8 := by have := wid_cases HWv.out; omega
          clear e1 e2
          generalize q[6 * k + j].1 = v at HB HF HZ hv HK1
          generalize q[6 * k + j].2 = m at HB HF HZ HWv hw8 HW2
          generalize os.getD j 0 = i at HK1 HK2 HW2 ho6
          have z1 : (0 : Int) ≤ (i : Int) := by omega
          have z2 : (i : Int) < 6 := by omega
          obtain ⟨y0, y1⟩ := HBF.out.c2
          clear hkq
          go_wp2_with (refine wpList_index rfl 53 3 (.tmp 28) (.tmp 29) rfl 6 _ Try.underlying53 Try.underlying3 rfl (by kernel_rfl) RO j (.int .i64 (i : Int)) rfl rfl hlj HK2.out ?_)
          clear y0 y1
          refine (HW2.out _).mono ?_
          rintro e w6 ⟨rfl, hg6⟩
          have HO6 := Lib.hid (HO.out.keep hg6)
          have HBF6 := Lib.hid (HBF.out.grow hg6)
          have HBN6 := Lib.hid (HBN.out.grow hg6)
          have HG6 : Hid (Grow w w6) := HG.out.trans hg6
          clear hg6 HO HBF HBN HG
          have y1 : w6.cell? ⟨g9, i, none⟩ = some (.int .u64 (v : Int)) := (HBN6.out.at i).trans HK1.out
          go_wp2_with fail
          refine (fits_any v m _ (by omega) (by omega)).mono ?_
          rintro e w7 ⟨rfl, rfl⟩
          rw [fits_row v m HWv.out]
          cases hfit : decide (v < 256 ^ m)
          · have HZ2 := Lib.hid (HZ.out hfit)
            clear hfit
            go_wp2
            go_ret2
            exact .inr ⟨HZ2.out, rfl, HG6.out⟩
          · rw [hfit] at HF
            clear hfit HZ
            go_wp2_with fail
            clear y1
            refine wp_region_leap (leap_kept (fun j => j = w.heap.size ∨ j = g9)) [(0, true), (1, true), (2, true), (3, true), (4, true), (5, true), (6, true), (7, false), (8, false), (9, true)] (by kernel_rfl) (by kernel_rfl) (by kernel_rfl) ?_
            have HX : Hid (∀ W, Kept (fun j => j = w.heap.size ∨ j = g9) w6.drew W → (_ ∧ _) ∧ W.cell? ⟨g9, i, none⟩ = some (.int .u64 (v : Int))) := fun W hW =>
              ⟨(HBF6.out.drew.kept hW (.inl rfl)).c2, ((HBN6.out.drew.kept hW (.inr rfl)).at i).trans HK1.out⟩
            have HO1 : Hid (OB w6.drew _ _ _ _ _ _) := HO6.out
            have HBF1 := Lib.hid HBF6.out.drew
            have HBN1 := Lib.hid HBN6.out.drew
            have HG1 : Hid (Grow w w6.drew) := HG6.out.trans (Grow.of_drew _)
            generalize w6.drew = w8 at HX HO1 HBF1 HBN1 HG1 ⊢
            clear HO6 HBF6 HBN6 HG6
            repeat (refine chain_take rfl (by rfl) ?_ (fun W hG => ?_) ?_; rotate_left; (obtain ⟨⟨q1, q2⟩, q3⟩ := HX.out W hG; go_simp; rfl); simp only [Act.put, List.setIfInBounds_toArray, List.set_cons_zero, List.set_cons_succ])
            clear HX
            refine chain_only rfl (by rfl) (fun K hK => ?_)
            go_simp
            refine (put_wide v m big _ HWv.out (by omega)).mono ?_
            rintro e w9 ⟨A3, c3, rfl, ho3, hb3⟩
            refine hK _ _ (Kept.of_grow hb3) ?_
            clear hK K
            have HO3 := Lib.hid ho3
            have HO4 := Lib.hid (HO1.out.keep hb3)
            have HBF7 := Lib.hid (HBF1.out.grow hb3)
            have HBN7 := Lib.hid (HBN1.out.grow hb3)
            have HG7 : Hid (Grow w w9) := HG1.out.trans hb3
            clear ho3 hb3 HO1 HBF1 HBN1 HG1
            rw [Int.toNat_natCast] at HO3
            refine chain_only rfl (by rfl) (fun K hK => ?_)
            refine wp_appendS w9 (.tmp 42) (.tmp 49) 25 rfl (w.heap.size + 1) 5 Try.underlying25 (by kernel_rfl) A2 _ c2 _ rfl HO4.out w9.heap.size A3 m c3 _ rfl HO3.out.rb (by have := HLE.out; omega) HBF7.out.lt ?_
            intro A5 c5 w10 ho5 hb5 hk5 hn5
            have hAw : own A2 ≠ some w.heap.size := fun h => by have := HO4.out.from h; omega
            have HBF8 : Hid (Blk w10 w.heap.size 24 #[.bool wide, .bool big]) := (hk5 _ HBF7.out.lt hAw).trans HBF7.out
            have HBN8 : Hid (Blk w10 g9 51 RN) := (hk5 _ HBN7.out.lt HA.out).trans HBN7.out
            refine hK _ _ ⟨hb5.size, fun j hj hj2 => by
              rcases hj2 with rfl | rfl
              · exact hk5 _ hj hAw
              · exact hk5 _ hj HA.out⟩ ?_
            clear hK K
            have HA' : Hid (own A5 ≠ some g9) := by
              rcases hn5 with e | e
              · rw [e]; exact HA
              · rw [e]; have := HBN7.out.lt; exact fun h => by injection h; omega
            have HG8 : Hid (Grow w w10) := HG7.out.trans' (hb5.mono (Nat.le_succ _))
            rw [← HB.out] at ho5
            have hm : (rowB big (q.take (6 * k + j))).length + m = (rowB big (q.take (6 * k + j + 1))).length := by rw [HB.out, List.length_append, length_putB]
            rw [hm] at ho5 ⊢
            have HO5 := Lib.hid ho5
            clear ho5 hb5 hk5 hn5 hm hAw HO3 HO4 HG7 HBF7 HBN7
            repeat (refine chain_take rfl (by rfl) ?_ (fun W hG => ?_) ?_; rotate_left; (go_simp; rfl); simp only [Act.put, List.setIfInBounds_toArray, List.set_cons_zero, List.set_cons_succ])
            refine chain_done ?_
            go_wp2
            go_roundw
            case rel => exact ⟨j + 1, A5, c5, by omega, by go_num, rfl, HO5.out, HA'.out, HBF8.out, HBN8.out, HF.out, HG8.out⟩
            case measure => simp [intOf]; omega
        · obtain rfl : j = 6 := by omega
          go_wp2
          go_roundw
          case rel => exact ⟨k + 1, A2, c2, by omega, by go_num, rfl, HO.out, HBF.out, HRFj.out, HG.out⟩
          case measure => simp [intOf]; omega
    · have HKq : Hid (q.take (6 * k) = q) := by
        have e : 6 * k = q.length := by rw [HLQ.out]; omega
        rw [e]
        exact List.take_length
      rw [HKq.out] at HO HRF ⊢
      have HO' := Lib.hid (HO.out.mono (Nat.le_succ w.heap.size))
      go_wp2
      go_ret2
      exact .inl ⟨HRF.out, A2, c2, rfl, HO'.out, HG.out⟩
end Go.Proofs.Ytodcnlihhilfkaa
