/-
  Several texts in one: The contract of the document's own GetProg; The contracts of the document's own sectRow and PutSect; The contract of the document's own GetSect; The contract of the document's own Place.
-/
import Derived.Test.YtlccbekalccahaaGreatDoorFqH28
import Derived.Test.YtlccbekalccahaaGreatDoorFqH27
import Derived.Test.YtlccbekalccahaaGreatDoorFqH21
import Derived.Test.YtlccbekalccahaaGreatDoorFqH16
import Derived.Test.YtlccbekalccahaaGreatDoorFqH26
import Derived.Test.YtlccbekalccahaaGreatDoorFqH18
import Derived.Test.YtlccbekalccahaaGreatDoorFqH9
import Derived.Test.YtlccbekalccahaaGreatDoorFqH23
namespace Go.Proofs.YtlccbekalccahaaGreatDoor
open Go.Lib (hid)
open Go.RowKit
def RGotP (l : List UInt8) (p : Nat) (wide big : Bool) (w : World) (e : Ending) (w' : World) : Prop :=
 (p + pSize wide ≤ l.length ∧ e = .returned (.tuple #[(pgOf l p wide big).V, .bool true]) ∧ Grow w w') ∨
 (l.length < p + pSize wide ∧ e = .returned (.tuple #[pg0.V, .bool false]) ∧ Grow w w')
theorem rgotp_ret {K : Ending → World → Prop} {W : World} {tmps : Array Value} {g : Nat} {err : Value} {t : TypeId} {h : Pg} (ht : tmps.getD 6 undef = .pointer (some ⟨g, 0, none⟩)) (he : tmps.getD 7 undef = err)
  (hx : Blk W g t h.C) (hk : K (.returned (.tuple #[h.V, err])) W) : bodyPost Tryz.prog Tryz.f34 K .ret ⟨tmps, []⟩ W := by
 refine bodyPost_ret (v := .tuple #[h.V, err]) ?_ rfl hk
 rw [results_cell_tmp rfl, ht, he]
 simp [asAddr, Result.andThen, hx.var _ _ Tryz.underlying76 rfl (by kernel_rfl)]
 rfl
theorem ON.at8 {w : World} {base : Nat} {e : TypeId} {k : IntKind} {A : Option Addr} {c x0 x1 x2 x3 x4 x5 x6 x7 : Nat} (h : ON w base e k A 8 c [x0, x1, x2, x3, x4, x5, x6, x7]) :
  ∃ g cs, A = some ⟨g, 0, none⟩ ∧ base ≤ g ∧ Blk w g e cs ∧ 8 ≤ c ∧ ∀ W, Blk W g e cs → W.cell? ⟨g, 0, none⟩ = some (.int k x0) ∧ W.cell? ⟨g, 1, none⟩ = some (.int k x1) ∧ W.cell? ⟨g, 2, none⟩ = some (.int k x2) ∧ W.cell? ⟨g, 3, none⟩ = some (.int k x3) ∧
   W.cell? ⟨g, 4, none⟩ = some (.int k x4) ∧ W.cell? ⟨g, 5, none⟩ = some (.int k x5) ∧ W.cell? ⟨g, 6, none⟩ = some (.int k x6) ∧ W.cell? ⟨g, 7, none⟩ = some (.int k x7) := by
 obtain ⟨g, cs, hA, hb, hB, hc, key⟩ := h.cells (by omega)
 exact ⟨g, cs, hA, hb, hB, hc, fun W hW => ⟨key W hW 0 _ (by omega) rfl, key W hW 1 _ (by omega) rfl, key W hW 2 _ (by omega) rfl, key W hW 3 _ (by omega) rfl, key W hW 4 _ (by omega) rfl, key W hW 5 _ (by omega) rfl, key W hW 6 _ (by omega) rfl, key W hW 7 _ (by omega) rfl⟩⟩
set_option maxRecDepth 100000 in
set_option maxHeartbeats 1000000 in
theorem rGetProg_any (A : Option Addr) (n c : Nat) (l : List UInt8) (p : Nat) (wide big : Bool) (w : World) (h : RB w w.heap.size A n c l) (hp : p < 18446744073709551616) :
  Calls Tryz.prog 34 #[.slice A n c, .int .u64 p, .agg #[.bool wide, .bool big]] w (RGotP l p wide big w) := by
 have HR := hid h
 have HLen := hid h.len
 have hcp := h.cap
 have hmx := h.max
 unfold maxLen at hmx
 clear h
 unfold RGotP
 cases wide
 ·obtain ⟨x0, x1, x2, x3, x4, x5, x6, x7, hx⟩ := list8 (pX_len l p false big)
  have ok := pgOf_ok l p false big
  have HNu : Hid (nums l big p [4, 4, 4, 4, 4, 4, 4, 4] = [x0, x1, x2, x3, x4, x5, x6, x7]) := hx
  have hof : pgOf l p false big = ⟨x0, x6, x1, x2, x3, x4, x5, x7⟩ := by unfold pgOf; rw [hx]; rfl
  rw [hof] at ok ⊢
  obtain ⟨k0, k1, -, -, -, -, -, -⟩ := ok
  simp only [] at k0 k1
  have HS : Hid (sumN [4, 4, 4, 4, 4, 4, 4, 4] = pSize false) := hid rfl
  clear hx hof
  obtain ⟨R, hR⟩ : ∃ R, R = Pg.C ⟨x0, x6, x1, x2, x3, x4, x5, x7⟩ := ⟨_, rfl⟩
  have HR1 := hid hR
  have HRo1 : Hid (R.all (·.oneCell') = true) := by rw [hR]; exact Pg.one _
  have HRs : Hid (R.size = 8) := by rw [hR]; exact hid rfl
  unfold Pg.C at hR
  simp only [] at hR
  have HR2 := hid hR
  clear hR
  go_enter Tryz.func34, Tryz.ntmps34
  go_wp2_with fail
  generalize hW : World.alloc _ _ = W0
  obtain ⟨bf, b6, b7, hg0⟩ := blk3 hW
  clear hW
  have HN7 : Hid (NS W0 W0.heap.size .i64 (some ⟨w.heap.size + 1 + 1, 0, none⟩) 8 8 [4, 4, 4, 4, 4, 4, 4, 4]) := NS.of_blkN b7 rfl (by decide) b7.lt rfl
  have HRr : Hid (RB W0 W0.heap.size A n c l) := (HR.out.belowAt hg0 (Nat.le_refl _)).more hg0.size
  have HB6 : Hid (Blk W0 (w.heap.size + 1) 76 pg0.C) := b6
  have HG0 := hid hg0
  clear bf b6 b7 hg0
  refine (numbersRef_any A n c l p _ 8 8 [4, 4, 4, 4, 4, 4, 4, 4] big _ HRr.out HN7.out hp (fun k hk => by
   match k, hk with
   | 0, _ => rfl
   | 1, _ => rfl
   | 2, _ => rfl
   | 3, _ => rfl
   | 4, _ => rfl
   | 5, _ => rfl
   | 6, _ => rfl
   | 7, _ => rfl) (by decide) (by decide)).mono ?_
  rintro e w4 (⟨hin, A4, c4, rfl, ho4, hg4⟩ | ⟨hbad, rfl, hg4⟩)
  ·rw [HS.out] at hin
   have HIn := hid hin
   rw [HNu.out] at ho4
   obtain ⟨gn, cs, rfl, hle4, hbn, hc4, hcells⟩ := ho4.at8
   have HCells := hid hcells
   have HBN := hid hbn
   have HB64 := hid (HB6.out.grow hg4)
   have HG4 : Hid (Grow w w4) := HG0.out.trans hg4
   have HNe : Hid (gn ≠ w.heap.size + 1) := by have := HB6.out.lt; exact hid (by omega)
   clear hin ho4 hle4 hbn hcells hg4 HB6 HG0 HRr HN7
   rw [show ([4, 4, 4, 4, 4, 4, 4, 4] : List Nat).length = 8 from rfl]
   go_wp2_with fail
   refine wp_region_leap (leap_bar (w.heap.size + 1)) [(0, true), (1, true), (2, true), (3, true), (4, true), (5, true), (6, true), (7, true), (8, true), (9, true), (10, true), (11, true), (12, true), (13, true), (14, true), (15, true), (16, true), (17, true), (18, true), (19, true), (20, true), (21, true), (22, true), (23, true), (24, true), (25, true), (26, true), (27, false), (28, true)] (by kernel_rfl) (by kernel_rfl) (by kernel_rfl) ?_
   have HX : Hid (∀ W, Bar (w.heap.size + 1) w4.drew W → _) := fun W hW => HCells.out W (HBN.out.drew.bar hW HNe.out)
   have HB65 := hid HB64.out.drew
   have HG5 : Hid (Grow w w4.drew) := HG4.out.trans (Grow.of_drew _)
   generalize w4.drew = w5 at HX HB65 HG5 ⊢
   clear HB64 HBN HG4 HCells
   have z0 : IntKind.u32.wrap (x0 : Int) = (x0 : Int) := by rw [IntKind.wrap_u32]; omega
   have z1 : IntKind.u32.wrap (x6 : Int) = (x6 : Int) := by rw [IntKind.wrap_u32]; omega
   repeat (refine chain_take rfl (by rfl) ?_ (fun W hG => ?_) ?_; rotate_left; (obtain ⟨y0, y1, y2, y3, y4, y5, y6, y7⟩ := HX.out W hG; go_simp; rfl); simp only [Act.put, List.setIfInBounds_toArray, List.set_cons_zero, List.set_cons_succ])
   clear HX z0 z1
   refine chain_only rfl (by rfl) (fun K hK => ?_)
   refine wp_store_row 76 (.tmp 6) (.tmp 91) rfl (w.heap.size + 1) R rfl (by rw [HR2.out]; rfl) _ _ HB65.out (by rw [HRs.out]; kernel_rfl) (by rw [HRs.out]; rfl) HRo1.out ?_
   refine hK _ _ (Bar.set _ _ _) ?_
   clear hK K
   repeat (refine chain_take rfl (by rfl) ?_ (fun W hG => ?_) ?_; rotate_left; (go_simp; rfl); simp only [Act.put, List.setIfInBounds_toArray, List.set_cons_zero, List.set_cons_succ])
   refine chain_done ?_
   have HB66 := hid (HB65.out.set R)
   have HG6 : Hid (Grow w (w5.setRow (w.heap.size + 1) R)) := Grow.set HG5.out (Nat.le_succ _) _
   generalize w5.setRow (w.heap.size + 1) R = w6 at HB66 HG6 ⊢
   rw [HR1.out] at HB66
   go_wp2
   exact rgotp_ret (err := .bool true) rfl rfl HB66.out (.inl ⟨HIn.out, rfl, HG6.out⟩)
  ·rw [HS.out] at hbad
   have HIn := hid hbad
   have HB64 := hid (HB6.out.grow hg4)
   have HG4 : Hid (Grow w w4) := HG0.out.trans hg4
   clear hbad hg4
   go_wp2_with (refine wpList_store_row rfl 76 (.tmp 6) (.tmp 64) rfl (w.heap.size + 1) pg0.C rfl rfl _ _ HB64.out (sz_pg pg0) rfl pg0.one ?_; rw [HB64.out.same])
   exact rgotp_ret (err := .bool false) rfl rfl HB64.out (.inr ⟨HIn.out, rfl, HG4.out⟩)
 ·obtain ⟨x0, x1, x2, x3, x4, x5, x6, x7, hx⟩ := list8 (pX_len l p true big)
  have ok := pgOf_ok l p true big
  have HNu : Hid (nums l big p [4, 4, 8, 8, 8, 8, 8, 8] = [x0, x1, x2, x3, x4, x5, x6, x7]) := hx
  have hof : pgOf l p true big = ⟨x0, x1, x2, x3, x4, x5, x6, x7⟩ := by unfold pgOf; rw [hx]; rfl
  rw [hof] at ok ⊢
  obtain ⟨k0, k1, -, -, -, -, -, -⟩ := ok
  simp only [] at k0 k1
  have HS : Hid (sumN [4, 4, 8, 8, 8, 8, 8, 8] = pSize true) := hid rfl
  clear hx hof
  obtain ⟨R, hR⟩ : ∃ R, R = Pg.C ⟨x0, x1, x2, x3, x4, x5, x6, x7⟩ := ⟨_, rfl⟩
  have HR1 := hid hR
  have HRo1 : Hid (R.all (·.oneCell') = true) := by rw [hR]; exact Pg.one _
  have HRs : Hid (R.size = 8) := by rw [hR]; exact hid rfl
  unfold Pg.C at hR
  simp only [] at hR
  have HR2 := hid hR
  clear hR
  go_enter Tryz.func34, Tryz.ntmps34
  go_wp2_with fail
  generalize hW : World.alloc _ _ = W0
  obtain ⟨bf, b6, b7, hg0⟩ := blk3 hW
  clear hW
  have HN7 : Hid (NS W0 W0.heap.size .i64 (some ⟨w.heap.size + 1 + 1, 0, none⟩) 8 8 [4, 4, 8, 8, 8, 8, 8, 8]) := NS.of_blkN b7 rfl (by decide) b7.lt rfl
  have HRr : Hid (RB W0 W0.heap.size A n c l) := (HR.out.belowAt hg0 (Nat.le_refl _)).more hg0.size
  have HB6 : Hid (Blk W0 (w.heap.size + 1) 76 pg0.C) := b6
  have HG0 := hid hg0
  clear bf b6 b7 hg0
  refine (numbersRef_any A n c l p _ 8 8 [4, 4, 8, 8, 8, 8, 8, 8] big _ HRr.out HN7.out hp (fun k hk => by
   match k, hk with
   | 0, _ => rfl
   | 1, _ => rfl
   | 2, _ => rfl
   | 3, _ => rfl
   | 4, _ => rfl
   | 5, _ => rfl
   | 6, _ => rfl
   | 7, _ => rfl) (by decide) (by decide)).mono ?_
  rintro e w4 (⟨hin, A4, c4, rfl, ho4, hg4⟩ | ⟨hbad, rfl, hg4⟩)
  ·rw [HS.out] at hin
   have HIn := hid hin
   rw [HNu.out] at ho4
   obtain ⟨gn, cs, rfl, hle4, hbn, hc4, hcells⟩ := ho4.at8
   have HCells := hid hcells
   have HBN := hid hbn
   have HB64 := hid (HB6.out.grow hg4)
   have HG4 : Hid (Grow w w4) := HG0.out.trans hg4
   have HNe : Hid (gn ≠ w.heap.size + 1) := by have := HB6.out.lt; exact hid (by omega)
   clear hin ho4 hle4 hbn hcells hg4 HB6 HG0 HRr HN7
   rw [show ([4, 4, 8, 8, 8, 8, 8, 8] : List Nat).length = 8 from rfl]
   go_wp2_with fail
   refine wp_region_leap (leap_bar (w.heap.size + 1)) [(0, true), (1, true), (2, true), (3, true), (4, true), (5, true), (6, true), (7, true), (8, true), (9, true), (10, true), (11, true), (12, true), (13, true), (14, true), (15, true), (16, true), (17, true), (18, true), (19, true), (20, true), (21, true), (22, true), (23, true), (24, true), (25, true), (26, true), (27, false), (28, true)] (by kernel_rfl) (by kernel_rfl) (by kernel_rfl) ?_
   have HX : Hid (∀ W, Bar (w.heap.size + 1) w4.drew W → _) := fun W hW => HCells.out W (HBN.out.drew.bar hW HNe.out)
   have HB65 := hid HB64.out.drew
   have HG5 : Hid (Grow w w4.drew) := HG4.out.trans (Grow.of_drew _)
   generalize w4.drew = w5 at HX HB65 HG5 ⊢
   clear HB64 HBN HG4 HCells
   have z0 : IntKind.u32.wrap (x0 : Int) = (x0 : Int) := by rw [IntKind.wrap_u32]; omega
   have z1 : IntKind.u32.wrap (x1 : Int) = (x1 : Int) := by rw [IntKind.wrap_u32]; omega
   repeat (refine chain_take rfl (by rfl) ?_ (fun W hG => ?_) ?_; rotate_left; (obtain ⟨y0, y1, y2, y3, y4, y5, y6, y7⟩ := HX.out W hG; go_simp; rfl); simp only [Act.put, List.setIfInBounds_toArray, List.set_cons_zero, List.set_cons_succ])
   clear HX z0 z1
   refine chain_only rfl (by rfl) (fun K hK => ?_)
   refine wp_store_row 76 (.tmp 6) (.tmp 52) rfl (w.heap.size + 1) R rfl (by rw [HR2.out]; rfl) _ _ HB65.out (by rw [HRs.out]; kernel_rfl) (by rw [HRs.out]; rfl) HRo1.out ?_
   refine hK _ _ (Bar.set _ _ _) ?_
   clear hK K
   repeat (refine chain_take rfl (by rfl) ?_ (fun W hG => ?_) ?_; rotate_left; (go_simp; rfl); simp only [Act.put, List.setIfInBounds_toArray, List.set_cons_zero, List.set_cons_succ])
   refine chain_done ?_
   have HB66 := hid (HB65.out.set R)
   have HG6 : Hid (Grow w (w5.setRow (w.heap.size + 1) R)) := Grow.set HG5.out (Nat.le_succ _) _
   generalize w5.setRow (w.heap.size + 1) R = w6 at HB66 HG6 ⊢
   rw [HR1.out] at HB66
   go_wp2
   exact rgotp_ret (err := .bool true) rfl rfl HB66.out (.inl ⟨HIn.out, rfl, HG6.out⟩)
  ·rw [HS.out] at hbad
   have HIn := hid hbad
   have HB64 := hid (HB6.out.grow hg4)
   have HG4 : Hid (Grow w w4) := HG0.out.trans hg4
   clear hbad hg4
   go_wp2_with (refine wpList_store_row rfl 76 (.tmp 6) (.tmp 25) rfl (w.heap.size + 1) pg0.C rfl rfl _ _ HB64.out (sz_pg pg0) rfl pg0.one ?_; rw [HB64.out.same])
   exact rgotp_ret (err := .bool false) rfl rfl HB64.out (.inr ⟨HIn.out, rfl, HG4.out⟩)
theorem sectRow_any (wide big : Bool) (w : World) : Calls Tryz.prog 57 #[.agg #[.bool wide, .bool big]] w fun e w' =>
  ∃ g, e = .returned (.slice (some ⟨g, 0, none⟩) 10 10) ∧ Blk w' g 3 (i64s (sRow wide)) ∧ w.heap.size ≤ g ∧ Grow w w' := by
 go_enter Tryz.func57, Tryz.ntmps57
 go_wp2_with fail
 refine (word_any wide big _).mono ?_
 rintro e w1 ⟨rfl, hg⟩
 have HG := hid ((Grow.of_alloc _ _).trans hg)
 clear hg
 go_wp2
 go_ret
 exact ⟨w1.heap.size, rfl, Blk.new _ _ _, HG.out.size, HG.out.trans (Grow.of_alloc _ _)⟩
def RPutS (p : Sc) (wide big : Bool) (w : World) (e : Ending) (w' : World) : Prop :=
 ∃ A c, e = .returned (.tuple #[.slice A (p.L wide big).length c, .bool (rowF (p.Q wide))]) ∧ OB w' w.heap.size 5 A (p.L wide big).length c (p.L wide big) ∧ Grow w w'
set_option maxRecDepth 100000 in
set_option maxHeartbeats 1000000 in
theorem rPutSect_any (p : Sc) (ok : p.Ok) (wide big : Bool) (w : World) : Calls Tryz.prog 23 #[p.V, .agg #[.bool wide, .bool big]] w (RPutS p wide big w) := by
 have HRw := hid (p.rowed ok wide)
 have HRo := hid (fun w => sectRow_any wide big w)
 unfold RPutS Sc.L
 have HQ1 : Hid ((p.Q wide).map (·.1) = [p.na, p.ty, p.fl, p.ad, p.off, p.sz, p.li, p.inf, p.al, p.en]) := hid (p.fstQ wide)
 have HQ2 : Hid ((p.Q wide).map (·.2) = sRow wide) := hid (p.sndQ wide)
 have HSR : Hid ((sRow wide).length = 10) := hid (len_sRow wide)
 generalize p.Q wide = q at *
 generalize sRow wide = row at HQ2 HRo HSR
 obtain ⟨na, ty, fl, ad, off, sz, li, inf, al, en⟩ := p
 obtain ⟨k1, k2, k3, k4, k5, k6, k7, k8, k9, k10⟩ := ok
 unfold Sc.V Sc.C
 simp only [] at *
 have z1 : IntKind.u64.wrap (na : Int) = (na : Int) := by rw [IntKind.wrap_u64]; omega
 have z2 : IntKind.u64.wrap (ty : Int) = (ty : Int) := by rw [IntKind.wrap_u64]; omega
 have z3 : IntKind.u64.wrap (li : Int) = (li : Int) := by rw [IntKind.wrap_u64]; omega
 have z4 : IntKind.u64.wrap (inf : Int) = (inf : Int) := by rw [IntKind.wrap_u64]; omega
 clear k1 k2 k3 k4 k5 k6 k7 k8 k9 k10
 go_enter Tryz.func23, Tryz.ntmps23
 go_wp2_with fail
 generalize hW : World.alloc _ _ = W0
 obtain ⟨b1, bf, hg0⟩ := blk2 hW
 clear hW
 refine wp_region_fork [(0, true), (1, true), (2, true), (3, true), (4, true), (5, true), (6, true), (7, true), (8, true), (9, true), (10, true), (11, true), (12, true), (13, true), (14, true), (15, true), (16, true), (17, true), (18, true), (19, true), (20, true), (21, true), (22, true), (23, true), (25, true), (27, true), (28, true)] 24 [(26, false), (29, false), (30, true), (31, true), (32, true), (33, true)] 26 [(24, false), (29, false), (30, true), (31, true), (32, true), (33, true)] (by kernel_rfl) (by kernel_rfl) (by kernel_rfl) ?_
 have HX : Hid (∀ W, Grow W0.drew W → _ ∧ (_ ∧ _)) := fun W hW => ⟨((b1.drew).grow hW).c10, ((bf.drew).grow hW).c2⟩
 have HG0 : Hid (Grow w W0.drew) := hg0.trans (Grow.of_drew _)
 generalize W0.drew = W1 at HX HG0 ⊢
 clear b1 bf hg0
 repeat (refine chain_take rfl (by rfl) ?_ (fun W hG => ?_) ?_; rotate_left; (obtain ⟨⟨x0, x1, x2, x3, x4, x5, x6, x7, x8, x9⟩, f0, f1⟩ := HX.out W hG; go_simp; rfl); simp only [Act.put, List.setIfInBounds_toArray, List.set_cons_zero, List.set_cons_succ])
 clear HX z1 z2 z3 z4
 refine chain_done ⟨step_op rfl (by rfl) (fun K hK => ?_), step_op rfl (by rfl) (fun K hK => ?_)⟩
 ·go_simp
  refine hK _ _ (Grow.of_alloc _ _) ?_
  clear hK K
  generalize hW : World.alloc _ _ = W2
  obtain ⟨bl, hg2⟩ := blk1 hW
  clear hW
  have HNS : Hid (NS W2 W2.heap.size .u64 (some ⟨W1.heap.size, 0, none⟩) 10 10 (q.map (·.1))) := by
   rw [HQ1.out]; exact NS.of_blkN bl rfl (by decide) bl.lt rfl
  have HG2 : Hid (Grow w W2) := HG0.out.trans hg2
  generalize W1.heap.size = gl at HNS ⊢
  clear bl hg2 HG0
  refine chain_only rfl (by rfl) (fun K hK => ?_)
  go_simp
  refine (HRo.out _).mono ?_
  rintro e W4 ⟨gr, rfl, hbr, hle4, hg4⟩
  refine hK _ _ hg4 ?_
  clear hK K
  have HNS4 : Hid (NS W4 W4.heap.size .u64 (some ⟨gl, 0, none⟩) 10 10 (q.map (·.1))) := (HNS.out.belowAt hg4 (Nat.le_refl _)).more hg4.size
  have HNR4 : Hid (NS W4 W4.heap.size .i64 (some ⟨gr, 0, none⟩) 10 10 (q.map (·.2))) := by
   rw [HQ2.out]; exact NS.of_blkN hbr HSR.out (by decide) hbr.lt rfl
  have HG4 : Hid (Grow w W4) := HG2.out.trans hg4
  clear hg4 hbr hle4 HNS HG2
  refine chain_only rfl (by rfl) (fun K hK => ?_)
  go_simp
  refine (row_any q HRw.out _ 10 10 _ 10 10 big _ HNS4.out HNR4.out).mono ?_
  rintro e W5 ⟨A2, c2, rfl, ho5, hg5⟩
  refine hK _ _ hg5 ?_
  clear hK K
  have HO5 := hid (ho5.mono HG4.out.size)
  have HG5 : Hid (Grow w W5) := HG4.out.trans hg5
  clear ho5 hg5 HNS4 HNR4 HG4
  repeat (refine chain_take rfl (by rfl) ?_ (fun W hG => ?_) ?_; rotate_left; (go_simp; rfl); simp only [Act.put, List.setIfInBounds_toArray, List.set_cons_zero, List.set_cons_succ])
  refine chain_done ?_
  go_wp2
  go_ret2
  exact ⟨A2, c2, rfl, HO5.out, HG5.out⟩
 ·go_simp
  refine (HRo.out _).mono ?_
  rintro e W2 ⟨gr, rfl, hbr, hle2, hg2⟩
  refine hK _ _ hg2 ?_
  clear hK K
  have HNR : Hid (NS W2 W2.heap.size .i64 (some ⟨gr, 0, none⟩) 10 10 (q.map (·.2))) := by
   rw [HQ2.out]; exact NS.of_blkN hbr HSR.out (by decide) hbr.lt rfl
  have HG2 : Hid (Grow w W2) := HG0.out.trans hg2
  clear hbr hle2 hg2 HG0
  refine chain_only rfl (by rfl) (fun K hK => ?_)
  go_simp
  refine hK _ _ (Grow.of_alloc _ _) ?_
  clear hK K
  generalize hW : World.alloc _ _ = W4
  obtain ⟨bl, hg4⟩ := blk1 hW
  clear hW
  have HNS4 : Hid (NS W4 W4.heap.size .u64 (some ⟨W2.heap.size, 0, none⟩) 10 10 (q.map (·.1))) := by
   rw [HQ1.out]; exact NS.of_blkN bl rfl (by decide) bl.lt rfl
  have HNR4 : Hid (NS W4 W4.heap.size .i64 (some ⟨gr, 0, none⟩) 10 10 (q.map (·.2))) := (HNR.out.belowAt hg4 (Nat.le_refl _)).more hg4.size
  have HG4 : Hid (Grow w W4) := HG2.out.trans hg4
  generalize W2.heap.size = gl at HNS4 ⊢
  clear bl hg4 HNR HG2
  refine chain_only rfl (by rfl) (fun K hK => ?_)
  go_simp
  refine (row_any q HRw.out _ 10 10 _ 10 10 big _ HNS4.out HNR4.out).mono ?_
  rintro e W5 ⟨A2, c2, rfl, ho5, hg5⟩
  refine hK _ _ hg5 ?_
  clear hK K
  have HO5 := hid (ho5.mono HG4.out.size)
  have HG5 : Hid (Grow w W5) := HG4.out.trans hg5
  clear ho5 hg5 HNS4 HNR4 HG4
  repeat (refine chain_take rfl (by rfl) ?_ (fun W hG => ?_) ?_; rotate_left; (go_simp; rfl); simp only [Act.put, List.setIfInBounds_toArray, List.set_cons_zero, List.set_cons_succ])
  refine chain_done ?_
  go_wp2
  go_ret2
  exact ⟨A2, c2, rfl, HO5.out, HG5.out⟩
def RGotS (l : List UInt8) (p : Nat) (wide big : Bool) (w : World) (e : Ending) (w' : World) : Prop :=
 (p + sSize wide ≤ l.length ∧ e = .returned (.tuple #[(scOf l p wide big).V, .bool true]) ∧ Grow w w') ∨
 (l.length < p + sSize wide ∧ e = .returned (.tuple #[sc0.V, .bool false]) ∧ Grow w w')
theorem rgots_ret {K : Ending → World → Prop} {W : World} {tmps : Array Value} {g : Nat} {err : Value} {t : TypeId} {h : Sc} (ht : tmps.getD 6 undef = .pointer (some ⟨g, 0, none⟩)) (he : tmps.getD 7 undef = err)
  (hx : Blk W g t h.C) (hk : K (.returned (.tuple #[h.V, err])) W) : bodyPost Tryz.prog Tryz.f31 K .ret ⟨tmps, []⟩ W := by
 refine bodyPost_ret (v := .tuple #[h.V, err]) ?_ rfl hk
 rw [results_cell_tmp rfl, ht, he]
 simp [asAddr, Result.andThen, hx.var _ _ Tryz.underlying80 rfl (by kernel_rfl)]
 rfl
theorem ON.at10 {w : World} {base : Nat} {e : TypeId} {k : IntKind} {A : Option Addr} {c x0 x1 x2 x3 x4 x5 x6 x7 x8 x9 : Nat} (h : ON w base e k A 10 c [x0, x1, x2, x3, x4, x5, x6, x7, x8, x9]) :
  ∃ g cs, A = some ⟨g, 0, none⟩ ∧ base ≤ g ∧ Blk w g e cs ∧ 10 ≤ c ∧ ∀ W, Blk W g e cs → W.cell? ⟨g, 0, none⟩ = some (.int k x0) ∧ W.cell? ⟨g, 1, none⟩ = some (.int k x1) ∧ W.cell? ⟨g, 2, none⟩ = some (.int k x2) ∧ W.cell? ⟨g, 3, none⟩ = some (.int k x3) ∧
   W.cell? ⟨g, 4, none⟩ = some (.int k x4) ∧ W.cell? ⟨g, 5, none⟩ = some (.int k x5) ∧ W.cell? ⟨g, 6, none⟩ = some (.int k x6) ∧ W.cell? ⟨g, 7, none⟩ = some (.int k x7) ∧ W.cell? ⟨g, 8, none⟩ = some (.int k x8) ∧ W.cell? ⟨g, 9, none⟩ = some (.int k x9) := by
 obtain ⟨g, cs, hA, hb, hB, hc, key⟩ := h.cells (by omega)
 exact ⟨g, cs, hA, hb, hB, hc, fun W hW => ⟨key W hW 0 _ (by omega) rfl, key W hW 1 _ (by omega) rfl, key W hW 2 _ (by omega) rfl, key W hW 3 _ (by omega) rfl, key W hW 4 _ (by omega) rfl, key W hW 5 _ (by omega) rfl, key W hW 6 _ (by omega) rfl, key W hW 7 _ (by omega) rfl, key W hW 8 _ (by omega) rfl, key W hW 9 _ (by omega) rfl⟩⟩
theorem sRow_fine (wide : Bool) (k : Nat) (hk : k < (sRow wide).length) : wid ((sRow wide)[k] : Nat) = true := by
 rw [len_sRow] at hk
 have e := sRow_at wide k hk
 rw [List.getD_eq_getElem?_getD, List.getElem?_eq_getElem (by rw [len_sRow]; exact hk)] at e
 simp only [Option.getD_some] at e
 rw [e]
 exact sWid_wid wide k
set_option maxRecDepth 100000 in
set_option maxHeartbeats 1000000 in
theorem rGetSect_any (A : Option Addr) (n c : Nat) (l : List UInt8) (p : Nat) (wide big : Bool) (w : World) (h : RB w w.heap.size A n c l) (hp : p < 18446744073709551616) :
  Calls Tryz.prog 31 #[.slice A n c, .int .u64 p, .agg #[.bool wide, .bool big]] w (RGotS l p wide big w) := by
 have HR := hid h
 have HLen := hid h.len
 have hcp := h.cap
 have hmx := h.max
 unfold maxLen at hmx
 clear h
 unfold RGotS
 have HRo := hid (fun w => sectRow_any wide big w)
 have HSR : Hid ((sRow wide).length = 10) := hid (len_sRow wide)
 have HSW := hid (sRow_fine wide)
 have HS : Hid (sumN (sRow wide) = sSize wide) := hid (sum_sRow wide)
 obtain ⟨x0, x1, x2, x3, x4, x5, x6, x7, x8, x9, hx⟩ := list10 (sX_len l p wide big)
 have ok := scOf_ok l p wide big
 have HNu : Hid (nums l big p (sRow wide) = [x0, x1, x2, x3, x4, x5, x6, x7, x8, x9]) := hx
 have hof : scOf l p wide big = ⟨x0, x1, x2, x3, x4, x5, x6, x7, x8, x9⟩ := by unfold scOf; rw [hx]; rfl
 rw [hof] at ok ⊢
 obtain ⟨k0, k1, -, -, -, -, k6, k7, -, -⟩ := ok
 simp only [] at k0 k1 k6 k7
 clear hx hof
 generalize sRow wide = row at HRo HSR HSW HS HNu
 generalize sSize wide = S at HS ⊢
 obtain ⟨R, hR⟩ : ∃ R, R = Sc.C ⟨x0, x1, x2, x3, x4, x5, x6, x7, x8, x9⟩ := ⟨_, rfl⟩
 have HR1 := hid hR
 have HRo1 : Hid (R.all (·.oneCell') = true) := by rw [hR]; exact Sc.one _
 have HRs : Hid (R.size = 10) := by rw [hR]; exact hid rfl
 unfold Sc.C at hR
 simp only [] at hR
 have HR2 := hid hR
 clear hR
 go_enter Tryz.func31, Tryz.ntmps31
 go_wp2_with fail
 generalize hW : World.alloc _ _ = W0
 obtain ⟨bf, b6, hg0⟩ := blk2 hW
 clear hW
 refine wp_region_chain [(0, true), (1, true), (2, true), (4, true), (5, true), (3, false), (6, false), (7, true), (8, true), (9, true), (10, true), (11, true)] (by kernel_rfl) (by kernel_rfl) (by kernel_rfl) ?_
 have HX : Hid (∀ W, Grow W0.drew W → _ ∧ _) := fun W hW => ((bf.drew).grow hW).c2
 have HG0 : Hid (Grow w W0.drew) := hg0.trans (Grow.of_drew _)
 have HB6 : Hid (Blk W0.drew (w.heap.size + 1) 80 sc0.C) := b6
 generalize W0.drew = W1 at HX HG0 HB6 ⊢
 clear bf b6 hg0
 repeat (refine chain_take rfl (by rfl) ?_ (fun W hG => ?_) ?_; rotate_left; (obtain ⟨f0, f1⟩ := HX.out W hG; go_simp; rfl); simp only [Act.put, List.setIfInBounds_toArray, List.set_cons_zero, List.set_cons_succ])
 clear HX
 refine chain_only rfl (by rfl) (fun K hK => ?_)
 go_simp
 refine (HRo.out _).mono ?_
 rintro e W3 ⟨gr, rfl, hbr, hle3, hg3⟩
 refine hK _ _ hg3 ?_
 clear hK K
 have HN7 : Hid (NS W3 W3.heap.size .i64 (some ⟨gr, 0, none⟩) 10 10 row) := NS.of_blkN hbr HSR.out (by decide) hbr.lt rfl
 have HB63 := hid (HB6.out.grow hg3)
 have HG3 : Hid (Grow w W3) := HG0.out.trans hg3
 have HRr : Hid (RB W3 W3.heap.size A n c l) := (HR.out.belowAt HG3.out (Nat.le_refl _)).more HG3.out.size
 clear hbr hle3 hg3 HG0 HB6
 refine chain_only rfl (by rfl) (fun K hK => ?_)
 go_simp
 refine (numbersRef_any A n c l p _ 10 10 row big _ HRr.out HN7.out hp HSW.out (by rw [HSR.out]; decide) (by rw [HSR.out]; decide)).mono ?_
 rintro e w4 (⟨hin, A4, c4, rfl, ho4, hg4⟩ | ⟨hbad, rfl, hg4⟩)
 ·refine hK _ _ hg4 ?_
  clear hK K
  rw [HS.out] at hin
  have HIn := hid hin
  rw [HNu.out, HSR.out] at ho4
  obtain ⟨gn, cs, rfl, hle4, hbn, hc4, hcells⟩ := ho4.at10
  have HCells := hid hcells
  have HBN := hid hbn
  have HB64 := hid (HB63.out.grow hg4)
  have HG4 : Hid (Grow w w4) := HG3.out.trans hg4
  have HNe : Hid (gn ≠ w.heap.size + 1) := by have := HB63.out.lt; exact hid (by omega)
  clear hin ho4 hle4 hbn hcells hg4 HB63 HG3 HRr HN7
  rw [HSR.out]
  repeat (refine chain_take rfl (by rfl) ?_ (fun W hG => ?_) ?_; rotate_left; (go_simp; rfl); simp only [Act.put, List.setIfInBounds_toArray, List.set_cons_zero, List.set_cons_succ])
  refine chain_done ?_
  go_wp2_with fail
  refine wp_region_leap (leap_bar (w.heap.size + 1)) [(0, true), (1, true), (2, true), (3, true), (4, true), (5, true), (6, true), (7, true), (8, true), (9, true), (10, true), (11, true), (12, true), (13, true), (14, true), (15, true), (16, true), (17, true), (18, true), (19, true), (20, true), (21, true), (22, true), (23, true), (24, true), (25, true), (26, true), (27, true), (28, true), (29, true), (30, true), (31, true), (32, true), (33, true), (34, true), (35, false), (36, true)] (by kernel_rfl) (by kernel_rfl) (by kernel_rfl) ?_
  have HX : Hid (∀ W, Bar (w.heap.size + 1) w4.drew W → _) := fun W hW => HCells.out W (HBN.out.drew.bar hW HNe.out)
  have HB65 := hid HB64.out.drew
  have HG5 : Hid (Grow w w4.drew) := HG4.out.trans (Grow.of_drew _)
  generalize w4.drew = w5 at HX HB65 HG5 ⊢
  clear HB64 HBN HG4 HCells
  have z0 : IntKind.u32.wrap (x0 : Int) = (x0 : Int) := by rw [IntKind.wrap_u32]; omega
  have z1 : IntKind.u32.wrap (x1 : Int) = (x1 : Int) := by rw [IntKind.wrap_u32]; omega
  have z6 : IntKind.u32.wrap (x6 : Int) = (x6 : Int) := by rw [IntKind.wrap_u32]; omega
  have z7 : IntKind.u32.wrap (x7 : Int) = (x7 : Int) := by rw [IntKind.wrap_u32]; omega
  repeat (refine chain_take rfl (by rfl) ?_ (fun W hG => ?_) ?_; rotate_left; (obtain ⟨y0, y1, y2, y3, y4, y5, y6, y7, y8, y9⟩ := HX.out W hG; go_simp; rfl); simp only [Act.put, List.setIfInBounds_toArray, List.set_cons_zero, List.set_cons_succ])
  clear HX z0 z1 z6 z7
  refine chain_only rfl (by rfl) (fun K hK => ?_)
  refine wp_store_row 80 (.tmp 6) (.tmp 57) rfl (w.heap.size + 1) R rfl (by rw [HR2.out]; rfl) _ _ HB65.out (by rw [HRs.out]; kernel_rfl) (by rw [HRs.out]; rfl) HRo1.out ?_
  refine hK _ _ (Bar.set _ _ _) ?_
  clear hK K
  repeat (refine chain_take rfl (by rfl) ?_ (fun W hG => ?_) ?_; rotate_left; (go_simp; rfl); simp only [Act.put, List.setIfInBounds_toArray, List.set_cons_zero, List.set_cons_succ])
  refine chain_done ?_
  have HB66 := hid (HB65.out.set R)
  have HG6 : Hid (Grow w (w5.setRow (w.heap.size + 1) R)) := Grow.set HG5.out (Nat.le_succ _) _
  generalize w5.setRow (w.heap.size + 1) R = w6 at HB66 HG6 ⊢
  rw [HR1.out] at HB66
  go_wp2
  exact rgots_ret (err := .bool true) rfl rfl HB66.out (.inl ⟨HIn.out, rfl, HG6.out⟩)
 ·refine hK _ _ hg4 ?_
  clear hK K
  rw [HS.out] at hbad
  have HIn := hid hbad
  have HB64 := hid (HB63.out.grow hg4)
  have HG4 : Hid (Grow w w4) := HG3.out.trans hg4
  clear hbad hg4
  repeat (refine chain_take rfl (by rfl) ?_ (fun W hG => ?_) ?_; rotate_left; (go_simp; rfl); simp only [Act.put, List.setIfInBounds_toArray, List.set_cons_zero, List.set_cons_succ])
  refine chain_done ?_
  go_wp2_with (refine wpList_store_row rfl 80 (.tmp 6) (.tmp 22) rfl (w.heap.size + 1) sc0.C rfl rfl _ _ HB64.out (sz_sc sc0) rfl sc0.one ?_; rw [HB64.out.same])
  exact rgots_ret (err := .bool false) rfl rfl HB64.out (.inr ⟨HIn.out, rfl, HG4.out⟩)
set_option maxHeartbeats 2000000 in
theorem rPlace_any (m : Md) (A1 A2 : Option Addr) (n1 c1 n2 c2 : Nat) (p : Pl) (A : Option Addr) (n c : Nat) (w : World) (g1 : ZR sgK w w.heap.size A1 n1 c1 m.segs) (g : RB w w.heap.size A n c p.own) :
  Calls Tryz.prog 104 #[.agg (mdC m (.slice A1 n1 c1) (.slice A2 n2 c2)), .agg (plC p (.slice A n c))] w fun e w' => e = .returned (.bool (m.may p)) ∧ Grow w w' := by
 have hn : n = p.own.length := g.len
 have hnm : n ≤ maxLen := Nat.le_trans g.cap g.max
 unfold maxLen at hnm
 have z : IntKind.u64.wrap (n : Int) = (n : Int) := by rw [IntKind.wrap_u64]; omega
 by_cases h0 : p.inn = -1
 ·rw [may_own h0]
  have E := hid (show p.ownMay = (decide (p.off = 0) && decide (p.size = n)) by rw [hn]; rfl)
  unfold plC mdC
  rw [h0]
  generalize p.ownMay = R at E ⊢
  generalize p.off = a at E ⊢
  generalize p.size = b at E ⊢
  clear hn hnm h0 g
  by_cases ha : a = 0
  ·subst ha
   go_enter Tryz.func104, Tryz.ntmps104
   go_wp2
   go_ret
   exact ⟨ret_bool (by rw [E.out, Bool.eq_iff_iff]; simp; try omega), (Grow.of_alloc _ _).trans (Grow.of_alloc _ _)⟩
  ·have e0 : ((a : Int) == 0) = false := by simp [ha]
   have E2 := hid (show (decide (a = 0) && decide (b = n)) = false by simp [ha])
   clear ha
   go_enter Tryz.func104, Tryz.ntmps104
   go_wp2
   go_ret
   exact ⟨ret_bool (by rw [E.out, E2.out]), (Grow.of_alloc _ _).trans (Grow.of_alloc _ _)⟩
 ·have hl := g1.len
  rw [may_in h0, ← hl]
  obtain ⟨x0, x1, x2, x3, x4, x5, x6, x7, x9, x10, hC⟩ := mdC_cells m (.slice A1 n1 c1) (.slice A2 n2 c2)
  rw [hC]
  clear hC
  have Hi : (p.inn == -1) = false := by simpa using h0
  cases hs : isSegN n1 p.inn with
  | false =>
   have HQ : Hid (p.inn < 0 ∨ (n1 : Int) ≤ p.inn) := by
    refine hid ?_
    unfold isSegN at hs
    simp at hs
    omega
   clear hs h0 hl hn hnm g g1
   simp only [Bool.false_and]
   unfold plC
   generalize p.inn = i at Hi HQ ⊢
   by_cases hneg : i < 0
   ·have d1 : decide (i < 0) = true := decide_eq_true hneg
    clear hneg
    go_enter Tryz.func104, Tryz.ntmps104
    go_wp2
    go_ret
    exact ⟨rfl, (Grow.of_alloc _ _).trans (Grow.of_alloc _ _)⟩
   ·have d1 : decide (i < 0) = false := decide_eq_false hneg
    have d2 : decide ((n1 : Int) ≤ i) = true := decide_eq_true (by have := HQ.out; omega)
    clear hneg
    go_enter Tryz.func104, Tryz.ntmps104
    go_wp2
    go_ret
    exact ⟨rfl, (Grow.of_alloc _ _).trans (Grow.of_alloc _ _)⟩
  | true =>
   obtain ⟨k, hk, hkl⟩ := isSegN_true hs
   rw [hl] at hkl
   rw [hk, m.seg_nat k hkl]
   obtain ⟨b, off, rfl, hb⟩ := g1.pos (by rw [g1.len]; omega)
   obtain ⟨Ak, nk, ck, -, hcell, gk⟩ := g1.at hkl
   have hcell' : ∀ i v, (sgC m.segs[k] (.slice Ak nk ck))[i]? = some v → w.cell? ⟨b, off + k * 10 + i, none⟩ = some v := hcell
   have hnk : m.segs[k].pl.own.length = nk := gk.len.symm
   have hnkm : nk ≤ maxLen := Nat.le_trans gk.cap gk.max
   unfold maxLen at hnkm
   have hkn : k < n1 := by rw [g1.len]; exact hkl
   have hn1m := g1.cap
   have hn1m' := g1.max
   unfold maxLen at hn1m'
   have HWi := hid (fun w => refWithin_any (p.off : Int) (p.size : Int) (nk : Int) w (by omega) (by omega) (by omega))
   have E := hid (show p.inMay nk = (decide (n = 0) && decide (0 < p.size) && wthn (p.off : Int) (p.size : Int) (nk : Int)) by
    rw [hn]
    unfold Pl.inMay Pl.within wthn
    congr 1
    rw [Bool.eq_iff_iff, decide_eq_true_iff, decide_eq_true_iff]
    omega)
   rw [hnk]
   have e0 : ((k : Int) == -1) = false := by simp
   have z2 : IntKind.u64.wrap (nk : Int) = (nk : Int) := by rw [IntKind.wrap_u64]; omega
   have d1 : decide ((k : Int) < 0) = false := decide_eq_false (by omega)
   have d2 : decide ((n1 : Int) ≤ (k : Int)) = false := decide_eq_false (by omega)
   rw [Bool.true_and]
   unfold plC
   unfold sgC at hcell'
   rw [hk]
   generalize m.segs[k] = s at hcell' ⊢
   have t0 : w.cell? ⟨b, off + k * 10, none⟩ = _ := hcell' 0 _ rfl
   have t1 := hcell' 1 _ rfl
   have t2 := hcell' 2 _ rfl
   have t3 := hcell' 3 _ rfl
   have t4 := hcell' 4 _ rfl
   have t5 := hcell' 5 _ rfl
   have t6 := hcell' 6 _ rfl
   have t7 := hcell' 7 _ rfl
   have t8 := hcell' 8 _ rfl
   have t9 := hcell' 9 _ rfl
   generalize wthn (p.off : Int) (p.size : Int) (nk : Int) = V at E HWi
   generalize p.inMay nk = R at E ⊢
   generalize p.off = po at HWi ⊢
   generalize p.size = ps at E HWi ⊢
   generalize s.typ = ty at t0 ⊢
   clear hcell hcell' gk hnk hs hk hkl h0 g1 g hl hn hnm Hi
   have d2' : decide (n1 ≤ k) = false := decide_eq_false (by omega)
   have hal : Grow w ((w.alloc (.cells #[x0, x1, x2, x3, x4, x5, x6, x7, .slice (some ⟨b, off, none⟩) n1 c1, x9, x10] 32)).alloc (.cells #[.int .i64 (k : Int), .int .u64 (po : Nat), .int .u64 (ps : Nat), .slice A n c] 54)) := (blk2 rfl).2.2
   have hc2 : ∀ i v, w.cell? ⟨b, i, none⟩ = some v → ((w.alloc (.cells #[x0, x1, x2, x3, x4, x5, x6, x7, .slice (some ⟨b, off, none⟩) n1 c1, x9, x10] 32)).alloc (.cells #[.int .i64 (k : Int), .int .u64 (po : Nat), .int .u64 (ps : Nat), .slice A n c] 54)).cell? ⟨b, i, none⟩ = some v := fun i v h => (Below.cell hal hb).trans h
   replace t0 := hc2 _ _ t0
   replace t1 := hc2 _ _ t1
   replace t2 := hc2 _ _ t2
   replace t3 := hc2 _ _ t3
   replace t4 := hc2 _ _ t4
   replace t5 := hc2 _ _ t5
   replace t6 := hc2 _ _ t6
   replace t7 := hc2 _ _ t7
   replace t8 := hc2 _ _ t8
   replace t9 := hc2 _ _ t9
   clear hb hal hc2
   go_enter Tryz.func104, Tryz.ntmps104
   go_wp2_with fail
   clear t0 t1 t2 t3 t4 t5 t6 t7 t8 t9
   generalize hW : World.alloc _ _ = W1
   obtain ⟨b1, b2, b3, hg1⟩ := blk3 hW
   clear hW
   have HG1 : Hid (Grow w W1) := hg1
   have y1 := b2.at 1
   have y2 := b2.at 2
   have y3 := b2.at 3
   have v0 := b3.at 0
   have v9 := b3.at 9
   clear hg1 b1 b2 b3
   refine (HWi.out _).mono ?_
   rintro e w1 ⟨rfl, rfl⟩
   by_cases ht : ty = 1
   ·have e1 : ((ty : Int) == 1) = true := by simp [ht]
    have E1 := hid (show decide (ty = 1) = true by simp [ht])
    clear ht
    by_cases hn0 : n = 0
    ·have e3 : ((n : Int) == 0) = true := by simp [hn0]
     by_cases hp0 : 0 < ps
     ·have e4 : decide ((1 : Int) ≤ (ps : Int)) = true := decide_eq_true (by omega)
      have e4' : decide (1 ≤ ps) = true := decide_eq_true (by omega)
      have E2 := hid (show R = V by rw [E.out]; simp [hp0, hn0])
      clear hn0 hp0
      go_wp2
      go_ret
      exact ⟨ret_bool (by rw [E1.out, Bool.true_and, E2.out]), HG1.out⟩
     ·have e4 : decide ((1 : Int) ≤ (ps : Int)) = false := decide_eq_false (by omega)
      have e4' : decide (1 ≤ ps) = false := decide_eq_false (by omega)
      have E2 := hid (show R = false by rw [E.out]; simp [hp0])
      clear hn0 hp0
      go_wp2
      go_ret
      exact ⟨ret_bool (by rw [E1.out, Bool.true_and, E2.out]), HG1.out⟩
    ·have e3 : ((n : Int) == 0) = false := by simp; omega
     have E2 := hid (show R = false by rw [E.out]; simp [hn0])
     clear hn0
     go_wp2
     go_ret
     exact ⟨ret_bool (by rw [E1.out, Bool.true_and, E2.out]), HG1.out⟩
   ·have e1 : ((ty : Int) == 1) = false := by simp; omega
    have E1 := hid (show decide (ty = 1) = false by simp [ht])
    clear ht
    go_wp2
    go_ret
    exact ⟨ret_bool (by rw [E1.out, Bool.false_and]), HG1.out⟩
end Go.Proofs.YtlccbekalccahaaGreatDoor
