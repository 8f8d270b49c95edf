/-
  The contract of the document's own GetProg: the answers of prog.Get.
-/
import Derived.Test.YtpjkicmkioimjaaRefPutProg
import Derived.Test.YtpjkicmkioimjaaRefNums
import Derived.Test.YtpjkicmkioimjaaPhGet
namespace Go.Proofs.Ytpjkicmkioimjaa
open Go.RowKit

/-- What GetProg answers. -/
def RGotP (l : List UInt8) (p : Nat) (wide big : Bool) (w : World) (e : Ending) (w' : World) : Prop :=
  (p + pSize wide ≤ l.length ∧ e = .returned (.tuple #[(pgOf l p wide big).V, .bool true]) ∧ Grow w w') ∨
  (l.length < p + pSize wide ∧ e = .returned (.tuple #[pg0.V, .bool false]) ∧ Grow w w')

theorem rgotp_ret {K : Ending → World → Prop} {W : World} {tmps : Array Value} {g : Nat} {err : Value} {t : TypeId} {h : Pg} (ht : tmps.getD 6 undef = .pointer (some ⟨g, 0, none⟩)) (he : tmps.getD 7 undef = err)
    (hx : Blk W g t h.C) (hk : K (.returned (.tuple #[h.V, err])) W) : bodyPost Try.prog Try.f10 K .ret ⟨tmps, []⟩ W := by
  refine bodyPost_ret (v := .tuple #[h.V, err]) ?_ rfl hk
  rw [results_cell_tmp rfl, ht, he]
  simp [asAddr, Result.andThen, hx.var _ _ Try.underlying25 rfl (by kernel_rfl)]
  rfl

/-- The cells of eight numbers of the call's own. -/
theorem ON.at8 {w : World} {base : Nat} {e : TypeId} {k : IntKind} {A : Option Addr} {c x0 x1 x2 x3 x4 x5 x6 x7 : Nat} (h : ON w base e k A 8 c [x0, x1, x2, x3, x4, x5, x6, x7]) :
    ∃ g cs, A = some ⟨g, 0, none⟩ ∧ base ≤ g ∧ Blk w g e cs ∧ 8 ≤ c ∧ ∀ W, Blk W g e cs → W.cell? ⟨g, 0, none⟩ = some (.int k x0) ∧ W.cell? ⟨g, 1, none⟩ = some (.int k x1) ∧ W.cell? ⟨g, 2, none⟩ = some (.int k x2) ∧ W.cell? ⟨g, 3, none⟩ = some (.int k x3) ∧
      W.cell? ⟨g, 4, none⟩ = some (.int k x4) ∧ W.cell? ⟨g, 5, none⟩ = some (.int k x5) ∧ W.cell? ⟨g, 6, none⟩ = some (.int k x6) ∧ W.cell? ⟨g, 7, none⟩ = some (.int k x7) := by
  obtain ⟨g, cs, hA, hb, hB, hc, key⟩ := h.cells (by omega)
  exact ⟨g, cs, hA, hb, hB, hc, fun W hW => ⟨key W hW 0 _ (by omega) rfl, key W hW 1 _ (by omega) rfl, key W hW 2 _ (by omega) rfl, key W hW 3 _ (by omega) rfl, key W hW 4 _ (by omega) rfl, key W hW 5 _ (by omega) rfl, key W hW 6 _ (by omega) rfl, key W hW 7 _ (by omega) rfl⟩⟩

set_option maxRecDepth 100000 in
set_option maxHeartbeats 1000000 in
theorem rGetProg_any (A : Option Addr) (n c : Nat) (l : List UInt8) (p : Nat) (wide big : Bool) (w : World) (h : RB w w.heap.size A n c l) (hp : p < 18446744073709551616) :
    Calls Try.prog 10 #[.slice A n c, .int .u64 p, .agg #[.bool wide, .bool big]] w (RGotP l p wide big w) := by
  have HR := Lib.hid h
  have HLen := Lib.hid h.len
  have hcp := h.cap
  have hmx := h.max
  unfold maxLen at hmx
  clear h
  unfold RGotP
  cases wide
  · obtain ⟨x0, x1, x2, x3, x4, x5, x6, x7, hx⟩ := list8 (pX_len l p false big)
    have ok := pgOf_ok l p false big
    have HNu : Hid (nums l big p [4, 4, 4, 4, 4, 4, 4, 4] = [x0, x1, x2, x3, x4, x5, x6, x7]) := hx
    have hof : pgOf l p false big = ⟨x0, x6, x1, x2, x3, x4, x5, x7⟩ := by unfold pgOf; rw [hx]; rfl
    rw [hof] at ok ⊢
    obtain ⟨k0, k1, -, -, -, -, -, -⟩ := ok
    simp only [] at k0 k1
    have HS : Hid (sumN [4, 4, 4, 4, 4, 4, 4, 4] = pSize false) := Lib.hid rfl
    clear hx hof
    obtain ⟨R, hR⟩ : ∃ R, R = Pg.C ⟨x0, x6, x1, x2, x3, x4, x5, x7⟩ := ⟨_, rfl⟩
    have HR1 := Lib.hid hR
    have HRo1 : Hid (R.all (·.oneCell') = true) := by rw [hR]; exact Pg.one _
    have HRs : Hid (R.size = 8) := by rw [hR]; exact Lib.hid rfl
    unfold Pg.C at hR
    simp only [] at hR
    have HR2 := Lib.hid hR
    clear hR
    go_enter Try.func10, Try.ntmps10
    go_wp2_with fail
    generalize hW : World.alloc _ _ = W0
    obtain ⟨bf, b6, b7, hg0⟩ := blk3 hW
    clear hW
    have HN7 : Hid (NS W0 W0.heap.size .i64 (some ⟨w.heap.size + 1 + 1, 0, none⟩) 8 8 [4, 4, 4, 4, 4, 4, 4, 4]) := NS.of_blkN b7 rfl (by decide) b7.lt rfl
    have HRr : Hid (RB W0 W0.heap.size A n c l) := (HR.out.belowAt hg0 (Nat.le_refl _)).more hg0.size
    have HB6 : Hid (Blk W0 (w.heap.size + 1) 25 pg0.C) := b6
    have HG0 := Lib.hid hg0
    clear bf b6 b7 hg0
    refine (numbersRef_any A n c l p _ 8 8 [4, 4, 4, 4, 4, 4, 4, 4] big _ HRr.out HN7.out hp (fun k hk => by
      match k, hk with
      | 0, _ => rfl
      | 1, _ => rfl
      | 2, _ => rfl
      | 3, _ => rfl
      | 4, _ => rfl
      | 5, _ => rfl
      | 6, _ => rfl
      | 7, _ => rfl) (by decide) (by decide)).mono ?_
    rintro e w4 (⟨hin, A4, c4, rfl, ho4, hg4⟩ | ⟨hbad, rfl, hg4⟩)
    · rw [HS.out] at hin
      have HIn := Lib.hid hin
      rw [HNu.out] at ho4
      obtain ⟨gn, cs, rfl, hle4, hbn, hc4, hcells⟩ := ho4.at8
      have HCells := Lib.hid hcells
      have HBN := Lib.hid hbn
      have HB64 := Lib.hid (HB6.out.grow hg4)
      have HG4 : Hid (Grow w w4) := HG0.out.trans hg4
      have HNe : Hid (gn ≠ w.heap.size + 1) := by have := HB6.out.lt; exact Lib.hid (by omega)
      clear hin ho4 hle4 hbn hcells hg4 HB6 HG0 HRr HN7
      rw [show ([4, 4, 4, 4, 4, 4, 4, 4] : List Nat).length = 8 from rfl]
      go_wp2_with fail
      refine wp_region_leap (leap_bar (w.heap.size + 1)) [(0, true), (1, true), (2, true), (3, true), (4, true), (5, true), (6, true), (7, true), (8, true), (9, true), (10, true), (11, true), (12, true), (13, true), (14, true), (15, true), (16, true), (17, true), (18, true), (19, true), (20, true), (21, true), (22, true), (23, true), (24, true), (25, true), (26, true), (27, false), (28, true)] (by kernel_rfl) (by kernel_rfl) (by kernel_rfl) ?_
      have HX : Hid (∀ W, Bar (w.heap.size + 1) w4.drew W → _) := fun W hW => HCells.out W (HBN.out.drew.bar hW HNe.out)
      have HB65 := Lib.hid HB64.out.drew
      have HG5 : Hid (Grow w w4.drew) := HG4.out.trans (Grow.of_drew _)
      generalize w4.drew = w5 at HX HB65 HG5 ⊢
      clear HB64 HBN HG4 HCells
      have z0 : IntKind.u32.wrap (x0 : Int) = (x0 : Int) := by rw [IntKind.wrap_u32]; omega
      have z1 : IntKind.u32.wrap (x6 : Int) = (x6 : Int) := by rw [IntKind.wrap_u32]; omega
      repeat (refine chain_take rfl (by rfl) ?_ (fun W hG => ?_) ?_; rotate_left; (obtain ⟨y0, y1, y2, y3, y4, y5, y6, y7⟩ := HX.out W hG; go_simp; rfl); simp only [Act.put, List.setIfInBounds_toArray, List.set_cons_zero, List.set_cons_succ])
      clear HX z0 z1
      refine chain_only rfl (by rfl) (fun K hK => ?_)
      refine wp_store_row 25 (.tmp 6) (.tmp 91) rfl (w.heap.size + 1) R rfl (by rw [HR2.out]; rfl) _ _ HB65.out (by rw [HRs.out]; kernel_rfl) (by rw [HRs.out]; rfl) HRo1.out ?_
      refine hK _ _ (Bar.set _ _ _) ?_
      clear hK K
      repeat (refine chain_take rfl (by rfl) ?_ (fun W hG => ?_) ?_; rotate_left; (go_simp; rfl); simp only [Act.put, List.setIfInBounds_toArray, List.set_cons_zero, List.set_cons_succ])
      refine chain_done ?_
      have HB66 := Lib.hid (HB65.out.set R)
      have HG6 : Hid (Grow w (w5.setRow (w.heap.size + 1) R)) := Grow.set HG5.out (Nat.le_succ _) _
      generalize w5.setRow (w.heap.size + 1) R = w6 at HB66 HG6 ⊢
      rw [HR1.out] at HB66
      go_wp2
      exact rgotp_ret (err := .bool true) rfl rfl HB66.out (.inl ⟨HIn.out, rfl, HG6.out⟩)
    · rw [HS.out] at hbad
      have HIn := Lib.hid hbad
      have HB64 := Lib.hid (HB6.out.grow hg4)
      have HG4 : Hid (Grow w w4) := HG0.out.trans hg4
      clear hbad hg4
      go_wp2_with (refine wpList_store_row rfl 25 (.tmp 6) (.tmp 64) rfl (w.heap.size + 1) pg0.C rfl rfl _ _ HB64.out (sz_pg pg0) rfl pg0.one ?_; rw [HB64.out.same])
      exact rgotp_ret (err := .bool false) rfl rfl HB64.out (.inr ⟨HIn.out, rfl, HG4.out⟩)
  · obtain ⟨x0, x1, x2, x3, x4, x5, x6, x7, hx⟩ := list8 (pX_len l p true big)
    have ok := pgOf_ok l p true big
    have HNu : Hid (nums l big p [4, 4, 8, 8, 8, 8, 8, 8] = [x0, x1, x2, x3, x4, x5, x6, x7]) := hx
    have hof : pgOf l p true big = ⟨x0, x1, x2, x3, x4, x5, x6, x7⟩ := by unfold pgOf; rw [hx]; rfl
    rw [hof] at ok ⊢
    obtain ⟨k0, k1, -, -, -, -, -, -⟩ := ok
    simp only [] at k0 k1
    have HS : Hid (sumN [4, 4, 8, 8, 8, 8, 8, 8] = pSize true) := Lib.hid rfl
    clear hx hof
    obtain ⟨R, hR⟩ : ∃ R, R = Pg.C ⟨x0, x1, x2, x3, x4, x5, x6, x7⟩ := ⟨_, rfl⟩
    have HR1 := Lib.hid hR
    have HRo1 : Hid (R.all (·.oneCell') = true) := by rw [hR]; exact Pg.one _
    have HRs : Hid (R.size = 8) := by rw [hR]; exact Lib.hid rfl
    unfold Pg.C at hR
    simp only [] at hR
    have HR2 := Lib.hid hR
    clear hR
    go_enter Try.func10, Try.ntmps10
    go_wp2_with fail
    generalize hW : World.alloc _ _ = W0
    obtain ⟨bf, b6, b7, hg0⟩ := blk3 hW
    clear hW
    have HN7 : Hid (NS W0 W0.heap.size .i64 (some ⟨w.heap.size + 1 + 1, 0, none⟩) 8 8 [4, 4, 8, 8, 8, 8, 8, 8]) := NS.of_blkN b7 rfl (by decide) b7.lt rfl
    have HRr : Hid (RB W0 W0.heap.size A n c l) := (HR.out.belowAt hg0 (Nat.le_refl _)).more hg0.size
    have HB6 : Hid (Blk W0 (w.heap.size + 1) 25 pg0.C) := b6
    have HG0 := Lib.hid hg0
    clear bf b6 b7 hg0
    refine (numbersRef_any A n c l p _ 8 8 [4, 4, 8, 8, 8, 8, 8, 8] big _ HRr.out HN7.out hp (fun k hk => by
      match k, hk with
      | 0, _ => rfl
      | 1, _ => rfl
      | 2, _ => rfl
      | 3, _ => rfl
      | 4, _ => rfl
      | 5, _ => rfl
      | 6, _ => rfl
      | 7, _ => rfl) (by decide) (by decide)).mono ?_
    rintro e w4 (⟨hin, A4, c4, rfl, ho4, hg4⟩ | ⟨hbad, rfl, hg4⟩)
    · rw [HS.out] at hin
      have HIn := Lib.hid hin
      rw [HNu.out] at ho4
      obtain ⟨gn, cs, rfl, hle4, hbn, hc4, hcells⟩ := ho4.at8
      have HCells := Lib.hid hcells
      have HBN := Lib.hid hbn
      have HB64 := Lib.hid (HB6.out.grow hg4)
      have HG4 : Hid (Grow w w4) := HG0.out.trans hg4
      have HNe : Hid (gn ≠ w.heap.size + 1) := by have := HB6.out.lt; exact Lib.hid (by omega)
      clear hin ho4 hle4 hbn hcells hg4 HB6 HG0 HRr HN7
      rw [show ([4, 4, 8, 8, 8, 8, 8, 8] : List Nat).length = 8 from rfl]
      go_wp2_with fail
      refine wp_region_leap (leap_bar (w.heap.size + 1)) [(0, true), (1, true), (2, true), (3, true), (4, true), (5, true), (6, true), (7, true), (8, true), (9, true), (10, true), (11, true), (12, true), (13, true), (14, true), (15, true), (16, true), (17, true), (18, true), (19, true), (20, true), (21, true), (22, true), (23, true), (24, true), (25, true), (26, true), (27, false), (28, true)] (by kernel_rfl) (by kernel_rfl) (by kernel_rfl) ?_
      have HX : Hid (∀ W, Bar (w.heap.size + 1) w4.drew W → _) := fun W hW => HCells.out W (HBN.out.drew.bar hW HNe.out)
      have HB65 := Lib.hid HB64.out.drew
      have HG5 : Hid (Grow w w4.drew) := HG4.out.trans (Grow.of_drew _)
      generalize w4.drew = w5 at HX HB65 HG5 ⊢
      clear HB64 HBN HG4 HCells
      have z0 : IntKind.u32.wrap (x0 : Int) = (x0 : Int) := by rw [IntKind.wrap_u32]; omega
      have z1 : IntKind.u32.wrap (x1 : Int) = (x1 : Int) := by rw [IntKind.wrap_u32]; omega
      repeat (refine chain_take rfl (by rfl) ?_ (fun W hG => ?_) ?_; rotate_left; (obtain ⟨y0, y1, y2, y3, y4, y5, y6, y7⟩ := HX.out W hG; go_simp; rfl); simp only [Act.put, List.setIfInBounds_toArray, List.set_cons_zero, List.set_cons_succ])
      clear HX z0 z1
      refine chain_only rfl (by rfl) (fun K hK => ?_)
      refine wp_store_row 25 (.tmp 6) (.tmp 52) rfl (w.heap.size + 1) R rfl (by rw [HR2.out]; rfl) _ _ HB65.out (by rw [HRs.out]; kernel_rfl) (by rw [HRs.out]; rfl) HRo1.out ?_
      refine hK _ _ (Bar.set _ _ _) ?_
      clear hK K
      repeat (refine chain_take rfl (by rfl) ?_ (fun W hG => ?_) ?_; rotate_left; (go_simp; rfl); simp only [Act.put, List.setIfInBounds_toArray, List.set_cons_zero, List.set_cons_succ])
      refine chain_done ?_
      have HB66 := Lib.hid (HB65.out.set R)
      have HG6 : Hid (Grow w (w5.setRow (w.heap.size + 1) R)) := Grow.set HG5.out (Nat.le_succ _) _
      generalize w5.setRow (w.heap.size + 1) R = w6 at HB66 HG6 ⊢
      rw [HR1.out] at HB66
      go_wp2
      exact rgotp_ret (err := .bool true) rfl rfl HB66.out (.inl ⟨HIn.out, rfl, HG6.out⟩)
    · rw [HS.out] at hbad
      have HIn := Lib.hid hbad
      have HB64 := Lib.hid (HB6.out.grow hg4)
      have HG4 : Hid (Grow w w4) := HG0.out.trans hg4
      clear hbad hg4
      go_wp2_with (refine wpList_store_row rfl 25 (.tmp 6) (.tmp 25) rfl (w.heap.size + 1) pg0.C rfl rfl _ _ HB64.out (sz_pg pg0) rfl pg0.one ?_; rw [HB64.out.same])
      exact rgotp_ret (err := .bool false) rfl rfl HB64.out (.inr ⟨HIn.out, rfl, HG4.out⟩)
end Go.Proofs.Ytpjkicmkioimjaa
