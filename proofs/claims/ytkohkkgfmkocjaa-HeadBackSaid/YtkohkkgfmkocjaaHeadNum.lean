/-
  The contracts of head.numbers, header, mayBeAny.
-/
import Derived.Test.YtkohkkgfmkocjaaHeadA
namespace Go.Proofs.Ytkohkkgfmkocjaa
open Go.RowKit

theorem numbers_any (h : Hd) (ok : h.Ok) (w : World) : Calls Try.prog 16 #[h.V] w fun e w' => e = .returned (.agg (u64s h.N)) ∧ Grow w w' := by
  obtain ⟨wide, big, o, a, ty, ma, en, ph, sh, fl, pn, sn, st⟩ := h
  obtain ⟨k1, k2, k3, k4, k5, k6, k7, k8, k9⟩ := ok
  unfold Hd.V Hd.C
  simp only [] at *
  generalize (o.toNat : Int) = ov
  generalize (a.toNat : Int) = av
  go_enter Try.func16, Try.ntmps16
  go_wp2_with fail
  generalize hW : World.alloc _ _ = W0
  obtain ⟨b1, b2, b3, hg0⟩ := blk3 hW
  clear hW
  refine wp_region_leap (leap_bar (w.heap.size + 1)) [(0, true), (1, true), (2, true), (3, true), (4, true), (5, true), (6, true), (7, true), (8, true), (9, true), (10, true), (11, true), (12, true), (13, true), (14, true), (15, true), (18, true), (19, true), (20, true), (21, true), (24, true), (25, true), (26, true), (27, true), (28, true), (29, true), (30, true), (33, true), (34, true), (35, true), (36, true), (37, true), (38, true), (16, false), (17, true), (22, false), (23, false), (31, false), (32, false), (39, true), (40, false)] (by kernel_rfl) (by kernel_rfl) (by kernel_rfl) ?_
  have HG : Hid (Grow w W0.drew) := hg0.trans (Grow.of_drew _)
  have b1' := b1.drew
  have b2' := b2.drew
  have b3' := b3.drew
  generalize W0.drew = W1 at b1' b2' b3' HG ⊢
  have HX : Hid (∀ W, Bar (w.heap.size + 1) W1 W → _ ∧ _) := fun W hG => ⟨(b1'.bar hG (by omega)).c13, (b3'.bar hG (by omega)).c2⟩
  have HB := Lib.hid b2'
  clear b1 b2 b3 b1' b2' b3' hg0
  have z1 : IntKind.u64.wrap (ty : Int) = (ty : Int) := by rw [IntKind.wrap_u64]; omega
  have z2 : IntKind.u64.wrap (ma : Int) = (ma : Int) := by rw [IntKind.wrap_u64]; omega
  have z3 : IntKind.u64.wrap (fl : Int) = (fl : Int) := by rw [IntKind.wrap_u64]; omega
  have z4 : IntKind.u64.wrap (pn : Int) = (pn : Int) := by rw [IntKind.wrap_u64]; omega
  have z5 : IntKind.u64.wrap (sn : Int) = (sn : Int) := by rw [IntKind.wrap_u64]; omega
  have z6 : IntKind.u64.wrap (st : Int) = (st : Int) := by rw [IntKind.wrap_u64]; omega
  repeat (refine chain_take rfl (by rfl) ?_ (fun W hG => ?_) ?_; rotate_left; (obtain ⟨⟨x0, x1, x2, x3, x4, x5, x6, x7, x8, x9, x10, x11, x12⟩, y0, y1⟩ := HX.out W hG; go_simp; rfl); simp only [Act.put, List.setIfInBounds_toArray, List.set_cons_zero, List.set_cons_succ])
  clear HX z1 z2 z3 z4 z5 z6
  refine chain_only rfl (by rfl) (fun K hK => ?_)
  go_simp
  refine (hSize_any wide big _).mono ?_
  rintro e W2 ⟨rfl, hg⟩
  refine hK _ _ (Bar.of_grow hg) ?_
  clear hK K
  replace HG : Hid (Grow w W2) := HG.out.trans hg
  replace HB := Lib.hid (HB.out.grow hg)
  clear hg
  have s1 : hSize wide < 1000 := by cases wide <;> decide
  have z1 : IntKind.u64.wrap (hSize wide : Int) = (hSize wide : Int) := by rw [IntKind.wrap_u64]; omega
  repeat (refine chain_take rfl (by rfl) ?_ (fun W hG => ?_) ?_; rotate_left; (go_simp; rfl); simp only [Act.put, List.setIfInBounds_toArray, List.set_cons_zero, List.set_cons_succ])
  clear z1 s1
  refine chain_only rfl (by rfl) (fun K hK => ?_)
  go_simp
  refine (byClass_any wide big 32 56 _).mono ?_
  rintro e W3 ⟨rfl, hg⟩
  refine hK _ _ (Bar.of_grow hg) ?_
  clear hK K
  replace HG : Hid (Grow w W3) := HG.out.trans hg
  replace HB := Lib.hid (HB.out.grow hg)
  clear hg
  refine chain_only rfl (by rfl) (fun K hK => ?_)
  go_simp
  refine (sizeIf_any _ (byWide wide 32 56) _ (by cases wide <;> decide)).mono ?_
  rintro e W4 ⟨rfl, rfl⟩
  refine hK _ _ ((leap_bar _).refl _) ?_
  clear hK K
  refine chain_only rfl (by rfl) (fun K hK => ?_)
  go_simp
  refine (byClass_any wide big 40 64 _).mono ?_
  rintro e W4 ⟨rfl, hg⟩
  refine hK _ _ (Bar.of_grow hg) ?_
  clear hK K
  replace HG : Hid (Grow w W4) := HG.out.trans hg
  replace HB := Lib.hid (HB.out.grow hg)
  clear hg
  refine chain_only rfl (by rfl) (fun K hK => ?_)
  go_simp
  refine (sizeIf_any _ (byWide wide 40 64) _ (by cases wide <;> decide)).mono ?_
  rintro e W5 ⟨rfl, rfl⟩
  refine hK _ _ ((leap_bar _).refl _) ?_
  clear hK K
  repeat (refine chain_take rfl (by rfl) ?_ (fun W hG => ?_) ?_; rotate_left; (go_simp; rfl); simp only [Act.put, List.setIfInBounds_toArray, List.set_cons_zero, List.set_cons_succ])
  refine chain_only rfl (by rfl) (fun K hK => ?_)
  refine wp_store_row 53 (.tmp 2) (.tmp 46) rfl (w.heap.size + 1) (u64s (Hd.N ⟨wide, big, o, a, ty, ma, en, ph, sh, fl, pn, sn, st⟩)) rfl rfl _ _ HB.out (by kernel_rfl) rfl (one_u64s _) ?_
  refine hK _ _ (Bar.set _ _ _) ?_
  clear hK K
  refine chain_done ?_
  have HB5 := Lib.hid (HB.out.set (u64s (Hd.N ⟨wide, big, o, a, ty, ma, en, ph, sh, fl, pn, sn, st⟩)))
  have HG5 : Hid (Grow w _) := Grow.set HG.out (Nat.le_succ _) (u64s (Hd.N ⟨wide, big, o, a, ty, ma, en, ph, sh, fl, pn, sn, st⟩))
  generalize W4.setRow (w.heap.size + 1) (u64s (Hd.N ⟨wide, big, o, a, ty, ma, en, ph, sh, fl, pn, sn, st⟩)) = W6 at HB5 HG5 ⊢
  generalize hR : u64s (Hd.N ⟨wide, big, o, a, ty, ma, en, ph, sh, fl, pn, sn, st⟩) = R at HB5 ⊢
  have HR := Lib.hid hR
  clear HB HG hR
  go_wp2
  refine bodyPost_ret (results_cell_row (cs := R) rfl _ _ (w.heap.size + 1) _ (0, 0) _ rfl HB5.out Try.underlying53 rfl (by kernel_rfl)) rfl ?_
  exact ⟨by rw [HR.out], HG5.out⟩

theorem header_any (wide big : Bool) (o a : UInt8) (x0 x1 x2 x3 x4 x5 x6 x7 x8 x9 x10 x11 x12 : Nat) (w : World)
    (k0 : x0 < 65536) (k1 : x1 < 65536) (k6 : x6 < 4294967296) (k9 : x9 < 65536) (k11 : x11 < 65536) (k12 : x12 < 65536) :
    Calls Try.prog 25 #[idV wide big o a, .agg (u64s [x0, x1, x2, x3, x4, x5, x6, x7, x8, x9, x10, x11, x12])] w fun e w' =>
      e = .returned (Hd.V ⟨wide, big, o, a, x0, x1, x3, x4, x5, x6, x9, x11, x12⟩) ∧ Grow w w' := by
  have z0 : IntKind.u16.wrap (x0 : Int) = (x0 : Int) := by rw [IntKind.wrap_u16]; omega
  have z1 : IntKind.u16.wrap (x1 : Int) = (x1 : Int) := by rw [IntKind.wrap_u16]; omega
  have z6 : IntKind.u32.wrap (x6 : Int) = (x6 : Int) := by rw [IntKind.wrap_u32]; omega
  have z9 : IntKind.u16.wrap (x9 : Int) = (x9 : Int) := by rw [IntKind.wrap_u16]; omega
  have z11 : IntKind.u16.wrap (x11 : Int) = (x11 : Int) := by rw [IntKind.wrap_u16]; omega
  have z12 : IntKind.u16.wrap (x12 : Int) = (x12 : Int) := by rw [IntKind.wrap_u16]; omega
  clear k0 k1 k6 k9 k11 k12
  obtain ⟨R, hR⟩ : ∃ R, R = Hd.C ⟨wide, big, o, a, x0, x1, x3, x4, x5, x6, x9, x11, x12⟩ := ⟨_, rfl⟩
  have HR := Lib.hid hR
  have h1 := Hd.one ⟨wide, big, o, a, x0, x1, x3, x4, x5, x6, x9, x11, x12⟩
  rw [← hR] at h1
  have H1 := Lib.hid h1
  unfold Hd.C at hR
  simp only [] at hR
  unfold Hd.V
  rw [← HR.out]
  unfold idV u64s
  simp only [List.map_cons, List.map_nil]
  generalize (o.toNat : Int) = ov at hR ⊢
  generalize (a.toNat : Int) = av at hR ⊢
  have HR2 := Lib.hid hR
  clear h1 hR HR
  go_enter Try.func25, Try.ntmps25
  go_wp2_with (refine wpList_store_row rfl 30 (.tmp 4) (.tmp 30) rfl (w.heap.size + 1 + 1) R rfl (by rw [HR2.out]; rfl) _ _ (blk3 rfl).2.2.1 (by rw [HR2.out]; kernel_rfl) (by rw [HR2.out]; rfl) H1.out ?_)
  refine bodyPost_ret (results_cell_row (cs := R) rfl _ _ (w.heap.size + 1 + 1) _ (0, 0) _ rfl ((blk3 rfl).2.2.1.set R) Try.underlying30 rfl (by rw [HR2.out]; kernel_rfl)) rfl ?_
  exact ⟨rfl, Grow.set (blk3 rfl).2.2.2 (by omega) R⟩

/-- Whether a number may be any. -/
def mayAny (i : Nat) (pn sh : Nat) : Bool := (i == 8) && (pn == 0) || (i == 10) && (sh == 0)

theorem mayBeAny_any (h : Hd) (i : Nat) (w : World) : Calls Try.prog 26 #[.int .i64 i, h.V] w fun e w' => e = .returned (.bool (mayAny i h.pn h.sh)) ∧ Grow w w' := by
  obtain ⟨wide, big, o, a, ty, ma, en, ph, sh, fl, pn, sn, st⟩ := h
  unfold Hd.V Hd.C
  simp only []
  generalize (o.toNat : Int) = ov
  generalize (a.toNat : Int) = av
  have E : Hid (mayAny i pn sh = (((i : Int) == 8) && ((pn : Int) == 0) || ((i : Int) == 10) && ((sh : Int) == 0))) := by
    have h1 : ∀ x y : Nat, (x == y) = ((x : Int) == (y : Int)) := fun x y => by rw [Bool.eq_iff_iff, beq_iff_eq, beq_iff_eq]; omega
    unfold mayAny
    rw [h1, h1, h1, h1]
    exact Lib.hid rfl
  generalize mayAny i pn sh = r at E ⊢
  by_cases h8 : i = 8
  · subst h8
    by_cases hp : pn = 0
    · subst hp
      go_enter Try.func26, Try.ntmps26
      go_wp2
      go_ret
      exact ⟨by rw [E.out]; rfl, Grow.of_alloc _ _⟩
    · have q : ((pn : Int) == 0) = false := by simp; omega
      rw [q] at E
      clear hp
      go_enter Try.func26, Try.ntmps26
      go_wp2
      go_ret
      exact ⟨by rw [E.out]; rfl, Grow.of_alloc _ _⟩
  · have q8 : ((i : Int) == 8) = false := by simp; omega
    by_cases h10 : i = 10
    · subst h10
      go_enter Try.func26, Try.ntmps26
      go_wp2
      go_ret
      exact ⟨by rw [E.out]; rfl, Grow.of_alloc _ _⟩
    · have q10 : ((i : Int) == 10) = false := by simp; omega
      rw [q8, q10] at E
      clear h8 h10
      go_enter Try.func26, Try.ntmps26
      go_wp2
      go_ret
      exact ⟨by rw [E.out]; rfl, Grow.of_alloc _ _⟩
end Go.Proofs.Ytkohkkgfmkocjaa
