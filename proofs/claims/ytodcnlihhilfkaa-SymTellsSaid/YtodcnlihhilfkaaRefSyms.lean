/-
  The contract of the document's own Syms: all symbols of any bytes, or the place of what isn't whole.
-/
import Derived.Test.YtodcnlihhilfkaaSyA
import Derived.Test.YtodcnlihhilfkaaZs
import Derived.Test.YtodcnlihhilfkaaRefNums
import Derived.Test.YtodcnlihhilfkaaRefSum
namespace Go.Proofs.Ytodcnlihhilfkaa
open Go.RowKit

/-- What Syms answers. -/
def RAllY (l : List UInt8) (wide big : Bool) (w : World) (e : Ending) (w' : World) : Prop :=
  (l.length % ySize wide = 0 ∧ ∃ A c, e = .returned (.tuple #[.slice A (l.length / ySize wide) c, .int .i64 (-1)]) ∧ ZS w' w'.heap.size 6 A (l.length / ySize wide) c ((syms l wide big).map Sy.C) ∧ Grow w w') ∨
  (l.length % ySize wide ≠ 0 ∧ e = .returned (.tuple #[.slice none 0 0, .int .i64 ((l.length - l.length % ySize wide : Nat) : Int)]) ∧ Grow w w')

theorem ZO.lt {w : World} {base : Nat} {e : TypeId} {z : Nat} {A : Option Addr} {n c : Nat} {l : List (Array Value)} (h : ZO w base e z A n c l) {g : Nat} (hg : own A = some g) : g < w.heap.size := by
  rcases h.1.2 with ⟨hv, _⟩ | ⟨g', cap, cur, hv, _, hh, _⟩
  · injection hv with e1 _ _
    subst e1
    cases hg
  · injection hv with e1 _ _
    subst e1
    have e3 : g' = g := Option.some.inj hg
    subst e3
    rcases Nat.lt_or_ge g' w.heap.size with h1 | h1
    · exact h1
    · rw [Array.getElem?_eq_none h1] at hh; cases hh

/-- The cells of six numbers of the call's own. -/
theorem ON.at6 {w : World} {base : Nat} {e : TypeId} {k : IntKind} {A : Option Addr} {c x0 x1 x2 x3 x4 x5 : Nat} (h : ON w base e k A 6 c [x0, x1, x2, x3, x4, x5]) :
    ∃ g cs, A = some ⟨g, 0, none⟩ ∧ base ≤ g ∧ Blk w g e cs ∧ 6 ≤ c ∧ ∀ W, Blk W g e cs → W.cell? ⟨g, 0, none⟩ = some (.int k x0) ∧ W.cell? ⟨g, 1, none⟩ = some (.int k x1) ∧ W.cell? ⟨g, 2, none⟩ = some (.int k x2) ∧ W.cell? ⟨g, 3, none⟩ = some (.int k x3) ∧
      W.cell? ⟨g, 4, none⟩ = some (.int k x4) ∧ W.cell? ⟨g, 5, none⟩ = some (.int k x5) := by
  obtain ⟨g, cs, hA, hb, hB, hc, key⟩ := h.cells (by omega)
  exact ⟨g, cs, hA, hb, hB, hc, fun W hW => ⟨key W hW 0 _ (by omega) rfl, key W hW 1 _ (by omega) rfl, key W hW 2 _ (by omega) rfl, key W hW 3 _ (by omega) rfl, key W hW 4 _ (by omega) rfl, key W hW 5 _ (by omega) rfl⟩⟩

theorem yRow_fine (wide : Bool) (k : Nat) (hk : k < (yRow wide).length) : wid ((yRow wide)[k] : Nat) = true := by
  simp only [yRow, List.getElem_map]
  exact yWid_wid _ _
theorem yRow_8 (wide : Bool) (k : Nat) (hk : k < (yRow wide).length) : (yRow wide)[k] ≤ 8 := by
  simp only [yRow, List.getElem_map]
  exact yWid_8 _ _

set_option maxRecDepth 100000 in
set_option maxHeartbeats 1000000 in
theorem rAllY_any (A : Option Addr) (n c : Nat) (l : List UInt8) (wide big : Bool) (w : World) (h : RB w w.heap.size A n c l) (h10 : l.length ≤ 10000) :
    Calls Try.prog 10 #[.slice A n c, .agg #[.bool wide, .bool big]] w (RAllY l wide big w) := by
  have HR := Lib.hid h
  obtain rfl := h.len
  have hcp := h.cap
  have hmx := h.max
  unfold maxLen at hmx
  clear h
  have HRo := Lib.hid (fun w => symRow_any wide big w)
  have hs24 := ySize_le wide
  have hs0 := ySize_pos wide
  have HTo : Hid (∀ k, symsTo l wide big (k + 1) = symsTo l wide big k ++ [syOf l (k * ySize wide) wide big]) := Lib.hid (symsTo_succ l wide big)
  have HSy : Hid (syms l wide big = symsTo l wide big (l.length / ySize wide)) := Lib.hid rfl
  have HRl : Hid ((yRow wide).length = 6) := Lib.hid (len_yRow wide)
  have HFi := Lib.hid (yRow_fine wide)
  have HF8 := Lib.hid (yRow_8 wide)
  have HSu : Hid (sumN (yRow wide) = ySize wide) := Lib.hid (sum_yRow wide)
  have HX6 : Hid (∀ q, ∃ x0 x1 x2 x3 x4 x5 : Nat, nums l big q (yRow wide) = [x0, x1, x2, x3, x4, x5] ∧ (syOf l q wide big).Ok ∧ syOf l q wide big = if wide then ⟨x0, x1, x2, x3, x4, x5⟩ else ⟨x0, x3, x4, x5, x1, x2⟩) := Lib.hid (fun q => by
    obtain ⟨x0, x1, x2, x3, x4, x5, hx⟩ := list6 (yX_len l q wide big)
    refine ⟨x0, x1, x2, x3, x4, x5, hx, syOf_ok l q wide big, ?_⟩
    unfold syOf
    rw [hx]
    cases wide <;> rfl)
  unfold RAllY
  generalize syms l wide big = S at HSy ⊢
  generalize yRow wide = row at HRo HRl HFi HF8 HSu HX6
  generalize ySize wide = sz at hs24 hs0 HTo HSy HSu ⊢
  obtain ⟨r, hr⟩ : ∃ r, r = l.length % sz := ⟨_, rfl⟩
  obtain ⟨m, hm⟩ : ∃ m, m = l.length / sz := ⟨_, rfl⟩
  have hdm : sz * m + r = l.length := by rw [hr, hm]; exact Nat.div_add_mod _ _
  have hrs : r < sz := by rw [hr]; exact Nat.mod_lt _ hs0
  rw [← hr]
  rw [← hm] at HSy ⊢
  have HDM := Lib.hid hdm
  have HRs := Lib.hid hrs
  have hr1 : r ≤ l.length := by omega
  have hm1 : m ≤ l.length := by
    have : 1 * m ≤ sz * m := Nat.mul_le_mul_right m hs0
    omega
  clear hr hm hdm hrs
  go_enter Try.func10, Try.ntmps10
  go_wp2_with fail
  generalize hW : World.alloc _ _ = W0
  obtain ⟨bf, hg0⟩ := blk1 hW
  clear hW
  refine (HRo.out W0).mono ?_
  rintro e w1 ⟨gr, rfl, hbr, -, hg1⟩
  have HBF1 := Lib.hid (bf.grow hg1)
  have HN1 : Hid (NS w1 w1.heap.size .i64 (some ⟨gr, 0, none⟩) 6 6 row) := NS.of_blkN hbr HRl.out (by decide) hbr.lt rfl
  have HG1 : Hid (Grow w w1) := hg0.trans hg1
  clear bf hg0 hg1 hbr
  go_wp2_with fail
  refine (sumRef_any _ 6 6 row w1 HN1.out (by rw [HRl.out]; omega) HF8.out).mono ?_
  rintro e w2 ⟨rfl, rfl⟩
  rw [HSu.out]
  clear HN1
  go_wp2_with fail
  go_loopw [7, 8] (fun x i wr => ∃ (k q : Nat) (A2 : Option Addr) (c2 : Nat), k ≤ m ∧ q = k * sz ∧ i = .int .i64 q ∧ x = .slice A2 k c2 ∧ ZO wr (w.heap.size + 1) 49 6 A2 k c2 ((symsTo l wide big k).map Sy.C) ∧
    Blk wr w.heap.size 24 #[.bool wide, .bool big] ∧ Grow w wr) (fun _ i _ => l.length - (intOf i).toNat)
  case atStart => exact ⟨0, 0, none, 0, Nat.zero_le _, by omega, rfl, rfl, ZO.nil, HBF1.out, HG1.out⟩
  case round =>
    obtain ⟨k, q, A2, c2, hk, hq, rfl, rfl, ho, hbf, hg⟩ := hrel
    have HO := Lib.hid ho
    have HBF := Lib.hid hbf
    have HG := Lib.hid hg
    have HQ := Lib.hid hq
    clear ho hbf hg HBF1 HG1
    have HKm : Hid (k < m → q + sz ≤ l.length) := Lib.hid (fun hlt => by
      have e1 := HDM.out
      have : (k + 1) * sz ≤ m * sz := Nat.mul_le_mul_right sz hlt
      rw [Nat.succ_mul, Nat.mul_comm m sz, ← hq] at this
      omega)
    have HKe : Hid (k = m → q + r = l.length) := Lib.hid (fun e => by rw [hq, e, Nat.mul_comm]; exact HDM.out)
    clear hq
    by_cases hlt : q < l.length
    · obtain ⟨b, off, rfl, -, -⟩ := HR.out.pos (by omega)
      have z1 : (q : Int) < (l.length : Int) := by omega
      have z2 : IntKind.u64.wrap (q : Int) = (q : Int) := by rw [IntKind.wrap_u64]; omega
      go_wp2_with fail
      refine wp_region_chain [(0, true), (1, true), (2, true), (3, true), (5, true), (6, true), (4, false), (7, false), (8, true), (9, true), (10, true), (11, true), (12, true)] (by kernel_rfl) (by kernel_rfl) (by kernel_rfl) ?_
      have HX : Hid (∀ W, Grow wr.drew W → _ ∧ _) := fun W hW => ((HBF.out.drew).grow hW).c2
      have HB1 := Lib.hid HBF.out.drew
      have HO1 : Hid (ZO wr.drew _ _ _ _ _ _ _) := HO.out
      have HG1 : Hid (Grow w wr.drew) := HG.out.trans (Grow.of_drew _)
      generalize wr.drew = w3 at HX HB1 HO1 HG1 ⊢
      clear HO HBF HG
      repeat (refine chain_take rfl (by rfl) ?_ (fun W hG => ?_) ?_; rotate_left; (obtain ⟨q1, q2⟩ := HX.out W hG; go_simp; rfl); simp only [Act.put, List.setIfInBounds_toArray, List.set_cons_zero, List.set_cons_succ])
      clear HX z1 z2
      refine chain_only rfl (by rfl) (fun K hK => ?_)
      go_simp
      refine (HRo.out _).mono ?_
      rintro e w4 ⟨gr, rfl, hbr, -, hg4⟩
      refine hK _ _ hg4 ?_
      clear hK K
      have HB2 := Lib.hid (HB1.out.grow hg4)
      have HO2 := Lib.hid (HO1.out.keep hg4)
      have HN2 : Hid (NS w4 w4.heap.size .i64 (some ⟨gr, 0, none⟩) 6 6 row) := NS.of_blkN hbr HRl.out (by decide) hbr.lt rfl
      have HG2 : Hid (Grow w w4) := HG1.out.trans hg4
      clear hbr hg4 HB1 HO1 HG1
      refine chain_only rfl (by rfl) (fun K hK => ?_)
      go_simp
      refine (numbersRef_any _ l.length c l q _ 6 6 row big _ ((HR.out.belowAt HG2.out (Nat.le_refl _)).more HG2.out.size) HN2.out (by omega) HFi.out (by rw [HRl.out]; omega) (by rw [HRl.out]; omega)).mono ?_
      rintro e w5 hnb
      rw [Numbed, HSu.out, HRl.out] at hnb
      rcases hnb with ⟨hin, A4, c4, rfl, ho5, hg5⟩ | ⟨hbad, rfl, hg5⟩
      · refine hK _ _ hg5 ?_
        clear hK K
        obtain ⟨x0, x1, x2, x3, x4, x5, hx, ok, hsy⟩ := HX6.out q
        rw [hx] at ho5
        obtain ⟨gn, cs, rfl, hle4, hbn, hc4, hcells⟩ := ho5.at6
        have HCells := Lib.hid hcells
        have HBN := Lib.hid hbn
        have HB5 := Lib.hid (HB2.out.grow hg5)
        have HNe : Hid (own A2 ≠ some gn) := Lib.hid (fun h => by have := HO2.out.lt h; omega)
        have HNw : Hid (own A2 ≠ some w.heap.size) := Lib.hid (fun h => by have := HO2.out.ge h; omega)
        have HO5 := Lib.hid (HO2.out.keep hg5)
        have HG5 : Hid (Grow w w5) := HG2.out.trans hg5
        have hkm : k < m := by
          rcases Nat.lt_or_ge k m with h1 | h1
          · exact h1
          · have e1 := HKe.out (by omega)
            have := HRs.out
            omega
        have HT1 := Lib.hid (HTo.out k)
        rw [← HQ.out, hsy] at HT1
        rw [hsy] at ok
        have HIn := Lib.hid hin
        clear hin hle4 hbn hcells hx hsy ho5 hg5 HB2 HO2 HN2 HG2 HKe HKm
        repeat (refine chain_take rfl (by rfl) ?_ (fun W hG => ?_) ?_; rotate_left; (go_simp; rfl); simp only [Act.put, List.setIfInBounds_toArray, List.set_cons_zero, List.set_cons_succ])
        refine chain_done ?_
        cases wide
        case' false =>
          simp only [Bool.false_eq_true, if_false] at ok HT1
          have HSz6 : Hid ((Sy.C ⟨x0, x3, x4, x5, x1, x2⟩).all (·.oneCell') = true) := Sy.one _
          obtain ⟨k0, k1, k2, k3, -, -⟩ := ok
          simp only [] at k0 k1 k2 k3
          have w0 : IntKind.u32.wrap (x0 : Int) = (x0 : Int) := by rw [IntKind.wrap_u32]; omega
          have w1 : IntKind.u8.wrap (x3 : Int) = (x3 : Int) := by rw [IntKind.wrap_u8]; omega
          have w2 : IntKind.u8.wrap (x4 : Int) = (x4 : Int) := by rw [IntKind.wrap_u8]; omega
          have w3 : IntKind.u16.wrap (x5 : Int) = (x5 : Int) := by rw [IntKind.wrap_u16]; omega
        case' true =>
          simp only [if_true] at ok HT1
          have HSz6 : Hid ((Sy.C ⟨x0, x1, x2, x3, x4, x5⟩).all (·.oneCell') = true) := Sy.one _
          obtain ⟨k0, k1, k2, k3, -, -⟩ := ok
          simp only [] at k0 k1 k2 k3
          have w0 : IntKind.u32.wrap (x0 : Int) = (x0 : Int) := by rw [IntKind.wrap_u32]; omega
          have w1 : IntKind.u8.wrap (x1 : Int) = (x1 : Int) := by rw [IntKind.wrap_u8]; omega
          have w2 : IntKind.u8.wrap (x2 : Int) = (x2 : Int) := by rw [IntKind.wrap_u8]; omega
          have w3 : IntKind.u16.wrap (x3 : Int) = (x3 : Int) := by rw [IntKind.wrap_u16]; omega
        all_goals
          clear k0 k1 k2 k3
          obtain ⟨y0, y1⟩ := HB5.out.c2
          go_wp2_with fail
          clear y0 y1
          refine wp_region_leap (leap_kept (fun j => j = w.heap.size ∨ j = gn)) [(0, true), (1, true), (2, true), (3, true), (4, true), (5, true), (6, true), (7, true), (8, true), (9, true), (10, true), (11, true), (12, true), (13, true), (14, true), (15, true), (16, true), (17, true), (18, true), (19, true), (20, true), (21, true), (22, true), (23, true), (24, false), (25, false), (26, true)] (by kernel_rfl) (by kernel_rfl) (by kernel_rfl) ?_
          have HX : Hid (∀ W, Kept (fun j => j = w.heap.size ∨ j = gn) w5.drew W → _) := fun W hW => HCells.out W (HBN.out.drew.kept hW (.inr rfl))
          have HB6 := Lib.hid HB5.out.drew
          have HO6 : Hid (ZO w5.drew _ _ _ _ _ _ _) := HO5.out
          have HG6 : Hid (Grow w w5.drew) := HG5.out.trans (Grow.of_drew _)
          generalize w5.drew = w6 at HX HB6 HO6 HG6 ⊢
          clear HB5 HO5 HG5 HCells HBN
          repeat (refine chain_take rfl (by rfl) ?_ (fun W hG => ?_) ?_; rotate_left; (obtain ⟨y0, y1, y2, y3, y4, y5⟩ := HX.out W hG; go_simp; rfl); simp only [Act.put, List.setIfInBounds_toArray, List.set_cons_zero, List.set_cons_succ])
          clear HX w0 w1 w2 w3
          refine chain_only rfl (by rfl) (fun K hK => ?_)
          go_simp
          refine hK _ _ (Kept.of_grow (Grow.of_alloc _ _)) ?_
          clear hK K
          generalize hW : World.alloc w6 _ = w7
          obtain ⟨hbr, hg7⟩ := blk1 hW
          have HBR := Lib.hid hbr
          have HB7 := Lib.hid (HB6.out.grow hg7)
          have HO7 := Lib.hid (HO6.out.keep hg7)
          have HG7 : Hid (Grow w w7) := HG6.out.trans hg7
          generalize w6.heap.size = g at HBR ⊢
          clear hW hbr hg7 HB6 HO6 HG6
          refine chain_only rfl (by rfl) (fun K hK => ?_)
          first
          | (refine wp_appendZ w7 (.tmp 63) (.tmp 87) 22 rfl (w.heap.size + 1) 49 sy0.V 6 24 Try.underlying22 (by kernel_rfl) rfl (by omega) A2 k c2 _ rfl HO7.out g _ _ rfl HBR.out rfl HSz6.out (by unfold maxLen; omega) (by omega) HB7.out.lt ?_)
          | (refine wp_appendZ w7 (.tmp 37) (.tmp 61) 22 rfl (w.heap.size + 1) 49 sy0.V 6 24 Try.underlying22 (by kernel_rfl) rfl (by omega) A2 k c2 _ rfl HO7.out g _ _ rfl HBR.out rfl HSz6.out (by unfold maxLen; omega) (by omega) HB7.out.lt ?_)
          intro A5 c5 w8 ho8 hg8 _
          have hb8 : Below (w.heap.size + 1) w7 w8 := (Below.refl _ _).grown hg8 HB7.out.lt (fun j hj => HO7.out.ge hj)
          refine hK _ _ ⟨hg8.size, fun j hj hj2 => by
            rcases hj2 with rfl | rfl
            · exact hg8.block _ hj (Ne.symm HNw.out)
            · exact hg8.block _ hj (Ne.symm HNe.out)⟩ ?_
          clear hK K
          have HB8 := Lib.hid (HB7.out.below hb8 (Nat.lt_succ_self _))
          have HG8 : Hid (Grow w w8) := HG7.out.trans' (hb8.mono (Nat.le_succ _))
          have HO8 := Lib.hid ho8
          clear ho8 hg8 hb8 HBR HB7 HO7 HG7 HSz6
          repeat (refine chain_take rfl (by rfl) ?_ (fun W hG => ?_) ?_; rotate_left; (go_simp; rfl); simp only [Act.put, List.setIfInBounds_toArray, List.set_cons_zero, List.set_cons_succ])
          refine chain_done ?_
          have z4 : IntKind.i64.wrap ((q : Int) + (sz : Int)) = ((q + sz : Nat) : Int) := by rw [IntKind.wrap_i64]; omega
          go_wp2
          go_roundw
          case rel => exact ⟨k + 1, q + sz, A5, c5, by omega, by rw [HQ.out, Nat.succ_mul], rfl, rfl, by rw [HT1.out, List.map_append, List.map_cons, List.map_nil]; exact HO8.out, HB8.out, HG8.out⟩
          case measure => simp [intOf]; omega
      · refine hK _ _ hg5 ?_
        clear hK K
        have HG5 : Hid (Grow w w5) := HG2.out.trans hg5
        have hkm : k = m := by
          rcases Nat.lt_or_ge k m with h1 | h1
          · have e1 := HKm.out h1
            omega
          · omega
        have he : q = l.length - r := by have := HKe.out hkm; omega
        have HE := Lib.hid he
        have HR0 : Hid (r ≠ 0) := Lib.hid (by omega)
        clear hbad hg5 he
        repeat (refine chain_take rfl (by rfl) ?_ (fun W hG => ?_) ?_; rotate_left; (go_simp; rfl); simp only [Act.put, List.setIfInBounds_toArray, List.set_cons_zero, List.set_cons_succ])
        refine chain_done ?_
        go_wp2
        go_ret2
        exact .inr ⟨HR0.out, by rw [HE.out]; rfl, HG5.out⟩
    · have z1 : ¬ (q : Int) < (l.length : Int) := by omega
      have hkm : k = m := by
        rcases Nat.lt_or_ge k m with h1 | h1
        · have e1 := HKm.out h1
          omega
        · omega
      have hr0 : r = 0 := by have := HKe.out hkm; omega
      have HR0 := Lib.hid hr0
      subst hkm
      clear hr0
      go_wp2
      go_ret2
      exact .inl ⟨HR0.out, A2, c2, rfl, by rw [HSy.out]; exact HO.out.zs, HG.out⟩
end Go.Proofs.Ytodcnlihhilfkaa
