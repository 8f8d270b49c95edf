/-
  The contract of the document's own GetSect: the answers of sect.Get.
-/
import Derived.Test.YtfahaefpglnlbaaRefSect
import Derived.Test.YtfahaefpglnlbaaRefNums
import Derived.Test.YtfahaefpglnlbaaSecGet
namespace Go.Proofs.Ytfahaefpglnlbaa
open Go.RowKit

/-- What GetSect answers. -/
def RGotS (l : List UInt8) (p : Nat) (wide big : Bool) (w : World) (e : Ending) (w' : World) : Prop :=
  (p + sSize wide ≤ l.length ∧ e = .returned (.tuple #[(scOf l p wide big).V, .bool true]) ∧ Grow w w') ∨
  (l.length < p + sSize wide ∧ e = .returned (.tuple #[sc0.V, .bool false]) ∧ Grow w w')

theorem rgots_ret {K : Ending → World → Prop} {W : World} {tmps : Array Value} {g : Nat} {err : Value} {t : TypeId} {h : Sc} (ht : tmps.getD 6 undef = .pointer (some ⟨g, 0, none⟩)) (he : tmps.getD 7 undef = err)
    (hx : Blk W g t h.C) (hk : K (.returned (.tuple #[h.V, err])) W) : bodyPost Try.prog Try.f10 K .ret ⟨tmps, []⟩ W := by
  refine bodyPost_ret (v := .tuple #[h.V, err]) ?_ rfl hk
  rw [results_cell_tmp rfl, ht, he]
  simp [asAddr, Result.andThen, hx.var _ _ Try.underlying25 rfl (by kernel_rfl)]
  rfl

/-- The cells of ten numbers of the call's own. -/
theorem ON.at10 {w : World} {base : Nat} {e : TypeId} {k : IntKind} {A : Option Addr} {c x0 x1 x2 x3 x4 x5 x6 x7 x8 x9 : Nat} (h : ON w base e k A 10 c [x0, x1, x2, x3, x4, x5, x6, x7, x8, x9]) :
    ∃ g cs, A = some ⟨g, 0, none⟩ ∧ base ≤ g ∧ Blk w g e cs ∧ 10 ≤ c ∧ ∀ W, Blk W g e cs → W.cell? ⟨g, 0, none⟩ = some (.int k x0) ∧ W.cell? ⟨g, 1, none⟩ = some (.int k x1) ∧ W.cell? ⟨g, 2, none⟩ = some (.int k x2) ∧ W.cell? ⟨g, 3, none⟩ = some (.int k x3) ∧
      W.cell? ⟨g, 4, none⟩ = some (.int k x4) ∧ W.cell? ⟨g, 5, none⟩ = some (.int k x5) ∧ W.cell? ⟨g, 6, none⟩ = some (.int k x6) ∧ W.cell? ⟨g, 7, none⟩ = some (.int k x7) ∧ W.cell? ⟨g, 8, none⟩ = some (.int k x8) ∧ W.cell? ⟨g, 9, none⟩ = some (.int k x9) := by
  obtain ⟨g, cs, hA, hb, hB, hc, key⟩ := h.cells (by omega)
  exact ⟨g, cs, hA, hb, hB, hc, fun W hW => ⟨key W hW 0 _ (by omega) rfl, key W hW 1 _ (by omega) rfl, key W hW 2 _ (by omega) rfl, key W hW 3 _ (by omega) rfl, key W hW 4 _ (by omega) rfl, key W hW 5 _ (by omega) rfl, key W hW 6 _ (by omega) rfl, key W hW 7 _ (by omega) rfl, key W hW 8 _ (by omega) rfl, key W hW 9 _ (by omega) rfl⟩⟩

theorem sRow_fine (wide : Bool) (k : Nat) (hk : k < (sRow wide).length) : wid ((sRow wide)[k] : Nat) = true := by
  rw [len_sRow] at hk
  have e := sRow_at wide k hk
  rw [List.getD_eq_getElem?_getD, List.getElem?_eq_getElem (by rw [len_sRow]; exact hk)] at e
  simp only [Option.getD_some] at e
  rw [e]
  exact sWid_wid wide k

set_option maxRecDepth 100000 in
set_option maxHeartbeats 1000000 in
theorem rGetSect_any (A : Option Addr) (n c : Nat) (l : List UInt8) (p : Nat) (wide big : Bool) (w : World) (h : RB w w.heap.size A n c l) (hp : p < 18446744073709551616) :
    Calls Try.prog 10 #[.slice A n c, .int .u64 p, .agg #[.bool wide, .bool big]] w (RGotS l p wide big w) := by
  have HR := Lib.hid h
  have HLen := Lib.hid h.len
  have hcp := h.cap
  have hmx := h.max
  unfold maxLen at hmx
  clear h
  unfold RGotS
  have HRo := Lib.hid (fun w => sectRow_any wide big w)
  have HSR : Hid ((sRow wide).length = 10) := Lib.hid (len_sRow wide)
  have HSW := Lib.hid (sRow_fine wide)
  have HS : Hid (sumN (sRow wide) = sSize wide) := Lib.hid (sum_sRow wide)
  obtain ⟨x0, x1, x2, x3, x4, x5, x6, x7, x8, x9, hx⟩ := list10 (sX_len l p wide big)
  have ok := scOf_ok l p wide big
  have HNu : Hid (nums l big p (sRow wide) = [x0, x1, x2, x3, x4, x5, x6, x7, x8, x9]) := hx
  have hof : scOf l p wide big = ⟨x0, x1, x2, x3, x4, x5, x6, x7, x8, x9⟩ := by unfold scOf; rw [hx]; rfl
  rw [hof] at ok ⊢
  obtain ⟨k0, k1, -, -, -, -, k6, k7, -, -⟩ := ok
  simp only [] at k0 k1 k6 k7
  clear hx hof
  generalize sRow wide = row at HRo HSR HSW HS HNu
  generalize sSize wide = S at HS ⊢
  obtain ⟨R, hR⟩ : ∃ R, R = Sc.C ⟨x0, x1, x2, x3, x4, x5, x6, x7, x8, x9⟩ := ⟨_, rfl⟩
  have HR1 := Lib.hid hR
  have HRo1 : Hid (R.all (·.oneCell') = true) := by rw [hR]; exact Sc.one _
  have HRs : Hid (R.size = 10) := by rw [hR]; exact Lib.hid rfl
  unfold Sc.C at hR
  simp only [] at hR
  have HR2 := Lib.hid hR
  clear hR
  go_enter Try.func10, Try.ntmps10
  go_wp2_with fail
  generalize hW : World.alloc _ _ = W0
  obtain ⟨bf, b6, hg0⟩ := blk2 hW
  clear hW
  refine wp_region_chain [(0, true), (1, true), (2, true), (4, true), (5, true), (3, false), (6, false), (7, true), (8, true), (9, true), (10, true), (11, true)] (by kernel_rfl) (by kernel_rfl) (by kernel_rfl) ?_
  have HX : Hid (∀ W, Grow W0.drew W → _ ∧ _) := fun W hW => ((bf.drew).grow hW).c2
  have HG0 : Hid (Grow w W0.drew) := hg0.trans (Grow.of_drew _)
  have HB6 : Hid (Blk W0.drew (w.heap.size + 1) 25 sc0.C) := b6
  generalize W0.drew = W1 at HX HG0 HB6 ⊢
  clear bf b6 hg0
  repeat (refine chain_take rfl (by rfl) ?_ (fun W hG => ?_) ?_; rotate_left; (obtain ⟨f0, f1⟩ := HX.out W hG; go_simp; rfl); simp only [Act.put, List.setIfInBounds_toArray, List.set_cons_zero, List.set_cons_succ])
  clear HX
  refine chain_only rfl (by rfl) (fun K hK => ?_)
  go_simp
  refine (HRo.out _).mono ?_
  rintro e W3 ⟨gr, rfl, hbr, hle3, hg3⟩
  refine hK _ _ hg3 ?_
  clear hK K
  have HN7 : Hid (NS W3 W3.heap.size .i64 (some ⟨gr, 0, none⟩) 10 10 row) := NS.of_blkN hbr HSR.out (by decide) hbr.lt rfl
  have HB63 := Lib.hid (HB6.out.grow hg3)
  have HG3 : Hid (Grow w W3) := HG0.out.trans hg3
  have HRr : Hid (RB W3 W3.heap.size A n c l) := (HR.out.belowAt HG3.out (Nat.le_refl _)).more HG3.out.size
  clear hbr hle3 hg3 HG0 HB6
  refine chain_only rfl (by rfl) (fun K hK => ?_)
  go_simp
  refine (numbersRef_any A n c l p _ 10 10 row big _ HRr.out HN7.out hp HSW.out (by rw [HSR.out]; decide) (by rw [HSR.out]; decide)).mono ?_
  rintro e w4 (⟨hin, A4, c4, rfl, ho4, hg4⟩ | ⟨hbad, rfl, hg4⟩)
  · refine hK _ _ hg4 ?_
    clear hK K
    rw [HS.out] at hin
    have HIn := Lib.hid hin
    rw [HNu.out, HSR.out] at ho4
    obtain ⟨gn, cs, rfl, hle4, hbn, hc4, hcells⟩ := ho4.at10
    have HCells := Lib.hid hcells
    have HBN := Lib.hid hbn
    have HB64 := Lib.hid (HB63.out.grow hg4)
    have HG4 : Hid (Grow w w4) := HG3.out.trans hg4
    have HNe : Hid (gn ≠ w.heap.size + 1) := by have := HB63.out.lt; exact Lib.hid (by omega)
    clear hin ho4 hle4 hbn hcells hg4 HB63 HG3 HRr HN7
    rw [HSR.out]
    repeat (refine chain_take rfl (by rfl) ?_ (fun W hG => ?_) ?_; rotate_left; (go_simp; rfl); simp only [Act.put, List.setIfInBounds_toArray, List.set_cons_zero, List.set_cons_succ])
    refine chain_done ?_
    go_wp2_with fail
    refine wp_region_leap (leap_bar (w.heap.size + 1)) [(0, true), (1, true), (2, true), (3, true), (4, true), (5, true), (6, true), (7, true), (8, true), (9, true), (10, true), (11, true), (12, true), (13, true), (14, true), (15, true), (16, true), (17, true), (18, true), (19, true), (20, true), (21, true), (22, true), (23, true), (24, true), (25, true), (26, true), (27, true), (28, true), (29, true), (30, true), (31, true), (32, true), (33, true), (34, true), (35, false), (36, true)] (by kernel_rfl) (by kernel_rfl) (by kernel_rfl) ?_
    have HX : Hid (∀ W, Bar (w.heap.size + 1) w4.drew W → _) := fun W hW => HCells.out W (HBN.out.drew.bar hW HNe.out)
    have HB65 := Lib.hid HB64.out.drew
    have HG5 : Hid (Grow w w4.drew) := HG4.out.trans (Grow.of_drew _)
    generalize w4.drew = w5 at HX HB65 HG5 ⊢
    clear HB64 HBN HG4 HCells
    have z0 : IntKind.u32.wrap (x0 : Int) = (x0 : Int) := by rw [IntKind.wrap_u32]; omega
    have z1 : IntKind.u32.wrap (x1 : Int) = (x1 : Int) := by rw [IntKind.wrap_u32]; omega
    have z6 : IntKind.u32.wrap (x6 : Int) = (x6 : Int) := by rw [IntKind.wrap_u32]; omega
    have z7 : IntKind.u32.wrap (x7 : Int) = (x7 : Int) := by rw [IntKind.wrap_u32]; omega
    repeat (refine chain_take rfl (by rfl) ?_ (fun W hG => ?_) ?_; rotate_left; (obtain ⟨y0, y1, y2, y3, y4, y5, y6, y7, y8, y9⟩ := HX.out W hG; go_simp; rfl); simp only [Act.put, List.setIfInBounds_toArray, List.set_cons_zero, List.set_cons_succ])
    clear HX z0 z1 z6 z7
    refine chain_only rfl (by rfl) (fun K hK => ?_)
    refine wp_store_row 25 (.tmp 6) (.tmp 57) rfl (w.heap.size + 1) R rfl (by rw [HR2.out]; rfl) _ _ HB65.out (by rw [HRs.out]; kernel_rfl) (by rw [HRs.out]; rfl) HRo1.out ?_
    refine hK _ _ (Bar.set _ _ _) ?_
    clear hK K
    repeat (refine chain_take rfl (by rfl) ?_ (fun W hG => ?_) ?_; rotate_left; (go_simp; rfl); simp only [Act.put, List.setIfInBounds_toArray, List.set_cons_zero, List.set_cons_succ])
    refine chain_done ?_
    have HB66 := Lib.hid (HB65.out.set R)
    have HG6 : Hid (Grow w (w5.setRow (w.heap.size + 1) R)) := Grow.set HG5.out (Nat.le_succ _) _
    generalize w5.setRow (w.heap.size + 1) R = w6 at HB66 HG6 ⊢
    rw [HR1.out] at HB66
    go_wp2
    exact rgots_ret (err := .bool true) rfl rfl HB66.out (.inl ⟨HIn.out, rfl, HG6.out⟩)
  · refine hK _ _ hg4 ?_
    clear hK K
    rw [HS.out] at hbad
    have HIn := Lib.hid hbad
    have HB64 := Lib.hid (HB63.out.grow hg4)
    have HG4 : Hid (Grow w w4) := HG3.out.trans hg4
    clear hbad hg4
    repeat (refine chain_take rfl (by rfl) ?_ (fun W hG => ?_) ?_; rotate_left; (go_simp; rfl); simp only [Act.put, List.setIfInBounds_toArray, List.set_cons_zero, List.set_cons_succ])
    refine chain_done ?_
    go_wp2_with (refine wpList_store_row rfl 25 (.tmp 6) (.tmp 22) rfl (w.heap.size + 1) sc0.C rfl rfl _ _ HB64.out (sz_sc sc0) rfl sc0.one ?_; rw [HB64.out.same])
    exact rgots_ret (err := .bool false) rfl rfl HB64.out (.inr ⟨HIn.out, rfl, HG4.out⟩)
end Go.Proofs.Ytfahaefpglnlbaa
