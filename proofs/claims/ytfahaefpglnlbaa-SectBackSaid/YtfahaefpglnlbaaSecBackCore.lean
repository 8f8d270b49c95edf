/-
  The walk of bezantlaw06.SectBack: at any section header, any bytes and any place it returns true, and nothing that was there has changed.
-/
import Derived.Test.YtfahaefpglnlbaaSecTellsCore
import Derived.Test.YtfahaefpglnlbaaSecBackMath
import Derived.Test.YtfahaefpglnlbaaFloat
namespace Go.Proofs.Ytfahaefpglnlbaa
open Go.RowKit

set_option maxRecDepth 100000 in
set_option maxHeartbeats 2000000 in
theorem sectBack_core (p : Sc) (ok : p.Ok) (wide big : Bool) (A : Option Addr) (n c : Nat) (l : List UInt8) (q : Nat) (w : World) (hr : RB w w.heap.size A n c l) (hq : q < 18446744073709551616) :
    Calls Try.prog 4 #[p.V, .agg #[.bool wide, .bool big], .slice A n c, .int .u64 q] w fun e w' => e = .returned (.bool true) ∧ Below w.heap.size w w' := by
  have HR := Lib.hid hr
  have hc := hr.cap
  have hm := hr.max
  unfold maxLen at hm
  have HL := Lib.hid hr.len
  clear hr
  have HP := Lib.hid (fun W => sPut_any p ok wide big W)
  have HZ := Lib.hid (fun W => sSize_any wide big W)
  have HPT := Lib.hid (fun hf post => scOf_put p wide big hf l post)
  have HWF : Hid (wide = true → rowF (p.Q wide) = true) := Lib.hid (fun h => by rw [h]; exact wide_fitsS p ok)
  have HLL := Lib.hid (p.lenL wide big)
  have HC1 : Hid (p.C.size = 10) := Lib.hid rfl
  have hs1 : sSize wide < 100 := by cases wide <;> decide
  have hs0 : 0 < sSize wide := by cases wide <;> decide
  have HGt := Lib.hid (fun W A' n' c' l' q' (h : RB W W.heap.size A' n' c' l') hq' => sGet_any A' n' c' l' q' wide big W h hq')
  unfold SGot at HGt
  have HGq := Lib.hid (fun W (h : RB W W.heap.size A n c l) => HGt.out W A n c l q h hq)
  have HPX : Hid (q + sSize wide ≤ l.length → ∀ W, Calls Try.prog 6 #[(scOf l q wide big).V, .agg #[.bool wide, .bool big]] W fun e w' => ∃ A6 c6, e = .returned (.tuple #[.slice A6 (sSize wide) c6, .nilIface]) ∧ RB w' w'.heap.size A6 (sSize wide) c6 ((l.drop q).take (sSize wide)) ∧ Grow W w') := fun hin W =>
    (sPut_any _ (scOf_ok l q wide big) wide big W).mono fun e w' hh => by
      have e1 := scOf_fits l q wide big
      have e2 := scOf_L l q wide big hin
      have e3 := (scOf l q wide big).lenL wide big
      rcases hh with ⟨_, A6, c6, rfl, ho, hg⟩ | ⟨hf, _⟩
      · have ho := ho.rb
        rw [e3] at ho ⊢
        rw [e2] at ho
        exact ⟨A6, c6, rfl, ho, hg⟩
      · rw [e1] at hf; cases hf
  have HCs : Hid ((scOf l q wide big).C.size = 10) := Lib.hid rfl
  have HCo := Lib.hid (scOf l q wide big).one
  have HXV : Hid ((scOf l q wide big).V = .agg (scOf l q wide big).C) := rfl
  rw [HXV.out] at HGq HPX
  clear HXV
  generalize (scOf l q wide big).C = XC at HGq HPX HCs HCo
  unfold SPut at HP
  generalize p.L wide big = L at HP HPT HLL
  generalize rowF (p.Q wide) = rf at HP HPT HWF
  obtain ⟨na, ty, fl, ad, off, sz, li, inf, al, en⟩ := p
  clear ok
  have HV : Hid (Sc.V ⟨na, ty, fl, ad, off, sz, li, inf, al, en⟩ = .agg #[.int .u32 (na : Int), .int .u32 (ty : Int), .int .u64 (fl : Int), .int .u64 (ad : Int), .int .u64 (off : Int), .int .u64 (sz : Int), .int .u32 (li : Int), .int .u32 (inf : Int), .int .u64 (al : Int), .int .u64 (en : Int)]) := rfl
  rw [HV.out] at HP ⊢
  by_cases hbig : 1000 < n
  · go_enter Try.func4, Try.ntmps4
    go_wp2_with (go_at_call 5; refine (up6_any _).mono ?_; rintro e w1 ⟨rfl, hb1⟩; have HB := Lib.hid hb1; clear hb1)
    go_ret
    exact ⟨rfl, ((Grow.of_alloc _ _).trans (Grow.of_alloc _ _)).trans HB.out⟩
  · have hd : decide (1000 < (n : Int)) = false := decide_eq_false (by omega)
    go_enter Try.func4, Try.ntmps4
    go_wp2_with fail
    generalize hW : World.alloc _ _ = W0
    obtain ⟨b1, bf, hg0⟩ := blk2 hW
    clear hW
    refine (up6_any _).mono ?_
    rintro e w1 ⟨rfl, hg1⟩
    have HB1 := Lib.hid (b1.grow hg1)
    have HF1 := Lib.hid (bf.grow hg1)
    have HG1 : Hid (Grow w w1) := hg0.trans hg1
    clear hg1 b1 bf hg0
    obtain ⟨f0, f1⟩ := HF1.out.c2
    go_wp2_with (refine wpList_load_row rfl 25 (.tmp 4) rfl w.heap.size rfl _ _ (0, 0) _ HB1.out Try.underlying25 rfl (by kernel_rfl) ?_)
    clear f0 f1
    refine (HP.out _).mono ?_
    rintro e w2 (⟨hf, A2, c2, rfl, ho2, hg2⟩ | ⟨hf, rfl, hg2⟩)
    · have HF := Lib.hid hf
      have HB2 := Lib.hid (HB1.out.grow hg2)
      have HF2 := Lib.hid (HF1.out.grow hg2)
      have HN2 := Lib.hid ho2.rb
      have HG2 : Hid (Grow w w2) := HG1.out.trans hg2
      have hcap2 := ho2.rb.cap
      have hmax2 := ho2.rb.max
      unfold maxLen at hmax2
      rw [HLL.out] at HN2 hcap2 ⊢
      clear hf ho2 hg2 HB1 HF1 HG1 HP
      generalize sSize wide = S at *
      have HR2 : Hid (∀ W, Grow w2.drew W → RB W w.heap.size A n c l) := fun W hW => (HR.out.belowAt (HG2.out.trans ((Grow.of_drew _).trans hW)) (Nat.le_refl _))
      have z1 : IntKind.u64.wrap (n : Int) = (n : Int) := by rw [IntKind.wrap_u64]; omega
      go_wp2_with fail
      refine wp_region_float (leap_below w2.heap.size) [(1, true), (3, true), (5, true), (7, true), (8, true), (9, true), (10, true)] 15 [(0, false), (2, false), (4, false), (6, false), (11, false), (12, true), (13, true), (14, true)] [(16, false), (17, true)] (by kernel_rfl) (by kernel_rfl) (by kernel_rfl) ?_
      have HF3 : Hid (Blk w2.drew (w.heap.size + 1) 27 #[.bool wide, .bool big]) := HF2.out
      have HB3 := Lib.hid HB2.out.drew
      have HN3 : Hid (RB w2.drew w2.drew.heap.size A2 S c2 L) := HN2.out.drew
      have HG3 : Hid (Grow w w2.drew) := HG2.out.trans (Grow.of_drew _)
      rw [show w2.heap.size = w2.drew.heap.size from rfl]
      generalize w2.drew = w3 at HF3 HB3 HN3 HG3 HR2 ⊢
      clear HB2 HF2 HN2 HG2
      have HX : Hid (∀ W, Below w3.heap.size w3 W → _ ∧ _) := fun W hW => (HF3.out.grow hW).c2
      repeat (refine chain_take rfl (by rfl) ?_ (fun W hG => ?_) ?_; rotate_left; (obtain ⟨f0, f1⟩ := HX.out W hG; go_simp; rfl); simp only [Act.put, List.setIfInBounds_toArray, List.set_cons_zero, List.set_cons_succ])
      clear HX z1
      refine chain_done ?_
      have HSz : Hid (w.heap.size ≤ w3.heap.size) := HG3.out.size
      obtain ⟨B, hB⟩ : ∃ B, B = w3.heap.size := ⟨_, rfl⟩
      rw [← hB] at HSz ⊢
      have HBe := Lib.hid hB
      have HBs : Hid (∀ W, Below B w3 W → B ≤ W.heap.size) := fun W hb => by rw [HBe.out]; exact hb.size
      clear hB
      have HGe : Hid (∀ W A5 c5, RB W W.heap.size A5 (n + S + n) c5 (l ++ L ++ l) → Calls Try.prog 9 #[.slice A5 (n + S + n) c5, .int .u64 n, .agg #[.bool wide, .bool big]] W fun e w' => e = .returned (.tuple #[.agg #[.int .u32 (na : Int), .int .u32 (ty : Int), .int .u64 (fl : Int), .int .u64 (ad : Int), .int .u64 (off : Int), .int .u64 (sz : Int), .int .u32 (li : Int), .int .u32 (inf : Int), .int .u64 (al : Int), .int .u64 (en : Int)], .nilIface]) ∧ Grow W w') := fun W A5 c5 h => (HGt.out W A5 (n + S + n) c5 (l ++ L ++ l) n h (by omega)).mono fun e w' hh => by
        have e1 := HPT.out HF.out l
        have e2 := HL.out
        have e3 := HLL.out
        rw [← e2] at e1
        rcases hh with ⟨_, rfl, hg⟩ | ⟨hlt, _⟩
        · rw [e1, HV.out]; exact ⟨rfl, hg⟩
        · simp only [List.length_append] at hlt; omega
      refine float_start (fun a0 d a W => ∃ x, a = a0.put (some 12) x ∧ Below B w3 W ∧ Away B 25 sc0.C d x none W) fun a0 ha => ⟨?_, ?_⟩
      · subst ha; exact ⟨_, rfl, Below.refl _ _, Away.not rfl⟩
      refine float_only (fun d a W => ∃ x g, a = (a0.put (some 12) x).put (some 38) (.slice (some ⟨g, 0, none⟩) 0 0) ∧ Below B w3 W ∧ OB W B 5 (some ⟨g, 0, none⟩) 0 0 [] ∧ Away B 25 sc0.C d x (some g) W) ?_ ?_ ?_
      · rintro a W ⟨x, rfl, hb, -⟩
        refine step_op rfl (by rfl) (fun K hK => ?_)
        have hBW := HBs.out W hb
        subst ha
        simp only [Act.put, List.setIfInBounds_toArray, List.set_cons_zero, List.set_cons_succ]
        go_simp
        exact hK _ _ ((Grow.of_alloc _ _).mono hBW) ⟨.pointer (some ⟨W.heap.size, 0, none⟩), by simp only [Act.put, List.setIfInBounds_toArray, List.set_cons_zero, List.set_cons_succ], hb.trans ((Grow.of_alloc _ _).mono hBW), Away.new W (fun _ h => by cases h) hBW⟩
      · rintro d a W ⟨x, rfl, hb, haw⟩
        refine step_op rfl (by rfl) (fun K hK => ?_)
        have hBW := HBs.out W hb
        subst ha
        simp only [Act.put, List.setIfInBounds_toArray, List.set_cons_zero, List.set_cons_succ]
        go_simp
        exact hK _ _ ((Grow.of_alloc _ _).mono hBW) ⟨x, W.heap.size, rfl, hb.trans ((Grow.of_alloc _ _).mono hBW), OB.lit W B 5 [] (Nat.zero_le _) hBW, haw.fresh (Grow.of_alloc _ _)⟩
      refine float_only (fun d a W => ∃ x g A3 c3, a = ((a0.put (some 12) x).put (some 38) (.slice (some ⟨g, 0, none⟩) 0 0)).put (some 40) (.slice A3 n c3) ∧ Below B w3 W ∧ OB W B 5 A3 n c3 l ∧ Away B 25 sc0.C d x (own A3) W) ?_ ?_ ?_
      · rintro a W ⟨x, g, rfl, hb, hob, -⟩
        refine step_op rfl (by rfl) (fun K hK => ?_)
        have hBW := HBs.out W hb
        subst ha
        simp only [Act.put, List.setIfInBounds_toArray, List.set_cons_zero, List.set_cons_succ]
        go_simp
        exact hK _ _ ((Grow.of_alloc _ _).mono hBW) ⟨.pointer (some ⟨W.heap.size, 0, none⟩), g, by simp only [Act.put, List.setIfInBounds_toArray, List.set_cons_zero, List.set_cons_succ], hb.trans ((Grow.of_alloc _ _).mono hBW), hob.alloc _, Away.new W (fun k h => hob.own_lt (A := some ⟨g, 0, none⟩) h) hBW⟩
      · rintro d a W ⟨x, g, rfl, hb, hob, haw⟩
        refine step_op rfl (by rfl) (fun K hK => ?_)
        have hBW := HBs.out W hb
        have HGW : Hid (Below w3.heap.size w3 W) := by rw [← HBe.out]; exact hb
        refine wp_appendS W (.tmp 38) (.tmp 39) 28 rfl B 5 Try.underlying28 (by kernel_rfl) (some ⟨g, 0, none⟩) 0 0 [] (by subst ha; rfl) hob _ A n c l (by subst ha; rfl) (HR2.out W HGW.out) (by omega) hBW ?_
        intro A3 c3 W2 ho hb2 hk2 hn2
        rw [Nat.zero_add, List.nil_append] at ho
        rw [Nat.zero_add]
        exact hK _ _ hb2 ⟨x, g, A3, c3, rfl, hb.trans hb2, ho, haw.step hk2 hn2⟩
      refine float_only (fun d a W => ∃ x g A3 c3 A4 c4, a = (((a0.put (some 12) x).put (some 38) (.slice (some ⟨g, 0, none⟩) 0 0)).put (some 40) (.slice A3 n c3)).put (some 42) (.slice A4 (n + S) c4) ∧ Below B w3 W ∧ OB W B 5 A4 (n + S) c4 (l ++ L) ∧ Away B 25 sc0.C d x (own A4) W) ?_ ?_ ?_
      · rintro a W ⟨x, g, A3, c3, rfl, hb, hob, -⟩
        refine step_op rfl (by rfl) (fun K hK => ?_)
        have hBW := HBs.out W hb
        subst ha
        simp only [Act.put, List.setIfInBounds_toArray, List.set_cons_zero, List.set_cons_succ]
        go_simp
        exact hK _ _ ((Grow.of_alloc _ _).mono hBW) ⟨.pointer (some ⟨W.heap.size, 0, none⟩), g, A3, c3, by simp only [Act.put, List.setIfInBounds_toArray, List.set_cons_zero, List.set_cons_succ], hb.trans ((Grow.of_alloc _ _).mono hBW), hob.alloc _, Away.new W (fun k h => hob.own_lt h) hBW⟩
      · rintro d a W ⟨x, g, A3, c3, rfl, hb, hob, haw⟩
        refine step_op rfl (by rfl) (fun K hK => ?_)
        have hBW := HBs.out W hb
        have HGW : Hid (Below w3.heap.size w3 W) := by rw [← HBe.out]; exact hb
        refine wp_appendS W (.tmp 40) (.tmp 41) 28 rfl B 5 Try.underlying28 (by kernel_rfl) A3 n c3 l (by subst ha; rfl) hob _ A2 S c2 L (by subst ha; rfl) (HN3.out.belowAt HGW.out (Nat.le_refl _)) (by omega) hBW ?_
        intro A4 c4 W2 ho hb2 hk2 hn2
        exact hK _ _ hb2 ⟨x, g, A3, c3, A4, c4, rfl, hb.trans hb2, ho, haw.step hk2 hn2⟩
      refine float_only (fun d a W => ∃ x g A3 c3 A4 c4 A5 c5, a = ((((a0.put (some 12) x).put (some 38) (.slice (some ⟨g, 0, none⟩) 0 0)).put (some 40) (.slice A3 n c3)).put (some 42) (.slice A4 (n + S) c4)).put (some 44) (.slice A5 (n + S + n) c5) ∧ Below B w3 W ∧ OB W B 5 A5 (n + S + n) c5 (l ++ L ++ l) ∧ Away B 25 sc0.C d x (own A5) W) ?_ ?_ ?_
      · rintro a W ⟨x, g, A3, c3, A4, c4, rfl, hb, hob, -⟩
        refine step_op rfl (by rfl) (fun K hK => ?_)
        have hBW := HBs.out W hb
        subst ha
        simp only [Act.put, List.setIfInBounds_toArray, List.set_cons_zero, List.set_cons_succ]
        go_simp
        exact hK _ _ ((Grow.of_alloc _ _).mono hBW) ⟨.pointer (some ⟨W.heap.size, 0, none⟩), g, A3, c3, A4, c4, by simp only [Act.put, List.setIfInBounds_toArray, List.set_cons_zero, List.set_cons_succ], hb.trans ((Grow.of_alloc _ _).mono hBW), hob.alloc _, Away.new W (fun k h => hob.own_lt h) hBW⟩
      · rintro d a W ⟨x, g, A3, c3, A4, c4, rfl, hb, hob, haw⟩
        refine step_op rfl (by rfl) (fun K hK => ?_)
        have hBW := HBs.out W hb
        have HGW : Hid (Below w3.heap.size w3 W) := by rw [← HBe.out]; exact hb
        refine wp_appendS W (.tmp 42) (.tmp 43) 28 rfl B 5 Try.underlying28 (by kernel_rfl) A4 (n + S) c4 (l ++ L) (by subst ha; rfl) hob _ A n c l (by subst ha; rfl) (HR2.out W HGW.out) (by omega) hBW ?_
        intro A5 c5 W2 ho hb2 hk2 hn2
        exact hK _ _ hb2 ⟨x, g, A3, c3, A4, c4, A5, c5, rfl, hb.trans hb2, ho, haw.step hk2 hn2⟩
      refine float_only (fun d a W => ∃ x g A3 c3 A4 c4 A5 c5, a = (((((a0.put (some 12) x).put (some 38) (.slice (some ⟨g, 0, none⟩) 0 0)).put (some 40) (.slice A3 n c3)).put (some 42) (.slice A4 (n + S) c4)).put (some 44) (.slice A5 (n + S + n) c5)).put (some 49) (.tuple #[.agg #[.int .u32 (na : Int), .int .u32 (ty : Int), .int .u64 (fl : Int), .int .u64 (ad : Int), .int .u64 (off : Int), .int .u64 (sz : Int), .int .u32 (li : Int), .int .u32 (inf : Int), .int .u64 (al : Int), .int .u64 (en : Int)], .nilIface]) ∧ Below B w3 W ∧ Away B 25 sc0.C d x none W) ?_ ?_ ?_
      · rintro a W ⟨x, g, A3, c3, A4, c4, A5, c5, rfl, hb, hob, -⟩
        refine step_op rfl (by rfl) (fun K hK => ?_)
        have hBW := HBs.out W hb
        subst ha
        simp only [Act.put, List.setIfInBounds_toArray, List.set_cons_zero, List.set_cons_succ]
        go_simp
        exact hK _ _ ((Grow.of_alloc _ _).mono hBW) ⟨.pointer (some ⟨W.heap.size, 0, none⟩), g, A3, c3, A4, c4, A5, c5, by simp only [Act.put, List.setIfInBounds_toArray, List.set_cons_zero, List.set_cons_succ], hb.trans ((Grow.of_alloc _ _).mono hBW), hob.alloc _, Away.new W (fun k h => hob.own_lt h) hBW⟩
      · rintro d a W ⟨x, g, A3, c3, A4, c4, A5, c5, rfl, hb, hob, haw⟩
        refine step_op rfl (by rfl) (fun K hK => ?_)
        have hBW := HBs.out W hb
        subst ha
        simp only [Act.put, List.setIfInBounds_toArray, List.set_cons_zero, List.set_cons_succ]
        go_simp
        refine (HGe.out W A5 c5 hob.rb).mono ?_
        rintro e W2 ⟨rfl, hg2⟩
        exact hK _ _ (hg2.mono hBW) ⟨x, g, A3, c3, A4, c4, A5, c5, by simp only [Act.put, List.setIfInBounds_toArray, List.set_cons_zero, List.set_cons_succ], hb.trans (hg2.mono hBW), haw.none.grow hg2⟩
      refine float_taken (fun d a W => ∃ x g A3 c3 A4 c4 A5 c5, a = ((((((a0.put (some 12) x).put (some 38) (.slice (some ⟨g, 0, none⟩) 0 0)).put (some 40) (.slice A3 n c3)).put (some 42) (.slice A4 (n + S) c4)).put (some 44) (.slice A5 (n + S + n) c5)).put (some 49) (.tuple #[.agg #[.int .u32 (na : Int), .int .u32 (ty : Int), .int .u64 (fl : Int), .int .u64 (ad : Int), .int .u64 (off : Int), .int .u64 (sz : Int), .int .u32 (li : Int), .int .u32 (inf : Int), .int .u64 (al : Int), .int .u64 (en : Int)], .nilIface])).put (some 37) (.tuple #[.agg #[.int .u32 (na : Int), .int .u32 (ty : Int), .int .u64 (fl : Int), .int .u64 (ad : Int), .int .u64 (off : Int), .int .u64 (sz : Int), .int .u32 (li : Int), .int .u32 (inf : Int), .int .u64 (al : Int), .int .u64 (en : Int)], .nilIface]) ∧ Below B w3 W ∧ Away B 25 sc0.C d x none W) ?_ ?_
      · rintro d a W ⟨x, g, A3, c3, A4, c4, A5, c5, rfl, hb, haw⟩
        refine ⟨_, at_of_drop rfl, by rfl, (.tuple #[.agg #[.int .u32 (na : Int), .int .u32 (ty : Int), .int .u64 (fl : Int), .int .u64 (ad : Int), .int .u64 (off : Int), .int .u64 (sz : Int), .int .u32 (li : Int), .int .u32 (inf : Int), .int .u64 (al : Int), .int .u64 (en : Int)], .nilIface]), fun W' _ => ?_, ⟨x, g, A3, c3, A4, c4, A5, c5, rfl, hb, haw⟩⟩
        subst ha
        simp only [Act.put, List.setIfInBounds_toArray, List.set_cons_zero, List.set_cons_succ]
        go_simp
      refine float_taken (fun d a W => ∃ x g A3 c3 A4 c4 A5 c5, a = (((((((a0.put (some 12) x).put (some 38) (.slice (some ⟨g, 0, none⟩) 0 0)).put (some 40) (.slice A3 n c3)).put (some 42) (.slice A4 (n + S) c4)).put (some 44) (.slice A5 (n + S + n) c5)).put (some 49) (.tuple #[.agg #[.int .u32 (na : Int), .int .u32 (ty : Int), .int .u64 (fl : Int), .int .u64 (ad : Int), .int .u64 (off : Int), .int .u64 (sz : Int), .int .u32 (li : Int), .int .u32 (inf : Int), .int .u64 (al : Int), .int .u64 (en : Int)], .nilIface])).put (some 37) (.tuple #[.agg #[.int .u32 (na : Int), .int .u32 (ty : Int), .int .u64 (fl : Int), .int .u64 (ad : Int), .int .u64 (off : Int), .int .u64 (sz : Int), .int .u32 (li : Int), .int .u32 (inf : Int), .int .u64 (al : Int), .int .u64 (en : Int)], .nilIface])).put (some 50) (.agg #[.int .u32 (na : Int), .int .u32 (ty : Int), .int .u64 (fl : Int), .int .u64 (ad : Int), .int .u64 (off : Int), .int .u64 (sz : Int), .int .u32 (li : Int), .int .u32 (inf : Int), .int .u64 (al : Int), .int .u64 (en : Int)]) ∧ Below B w3 W ∧ Away B 25 sc0.C d x none W) ?_ ?_
      · rintro d a W ⟨x, g, A3, c3, A4, c4, A5, c5, rfl, hb, haw⟩
        refine ⟨_, at_of_drop rfl, by rfl, (.agg #[.int .u32 (na : Int), .int .u32 (ty : Int), .int .u64 (fl : Int), .int .u64 (ad : Int), .int .u64 (off : Int), .int .u64 (sz : Int), .int .u32 (li : Int), .int .u32 (inf : Int), .int .u64 (al : Int), .int .u64 (en : Int)]), fun W' _ => ?_, ⟨x, g, A3, c3, A4, c4, A5, c5, rfl, hb, haw⟩⟩
        subst ha
        simp only [Act.put, List.setIfInBounds_toArray, List.set_cons_zero, List.set_cons_succ]
        go_simp
      refine float_taken (fun d a W => ∃ x g A3 c3 A4 c4 A5 c5, a = ((((((((a0.put (some 12) x).put (some 38) (.slice (some ⟨g, 0, none⟩) 0 0)).put (some 40) (.slice A3 n c3)).put (some 42) (.slice A4 (n + S) c4)).put (some 44) (.slice A5 (n + S + n) c5)).put (some 49) (.tuple #[.agg #[.int .u32 (na : Int), .int .u32 (ty : Int), .int .u64 (fl : Int), .int .u64 (ad : Int), .int .u64 (off : Int), .int .u64 (sz : Int), .int .u32 (li : Int), .int .u32 (inf : Int), .int .u64 (al : Int), .int .u64 (en : Int)], .nilIface])).put (some 37) (.tuple #[.agg #[.int .u32 (na : Int), .int .u32 (ty : Int), .int .u64 (fl : Int), .int .u64 (ad : Int), .int .u64 (off : Int), .int .u64 (sz : Int), .int .u32 (li : Int), .int .u32 (inf : Int), .int .u64 (al : Int), .int .u64 (en : Int)], .nilIface])).put (some 50) (.agg #[.int .u32 (na : Int), .int .u32 (ty : Int), .int .u64 (fl : Int), .int .u64 (ad : Int), .int .u64 (off : Int), .int .u64 (sz : Int), .int .u32 (li : Int), .int .u32 (inf : Int), .int .u64 (al : Int), .int .u64 (en : Int)])).put (some 51) .nilIface ∧ Below B w3 W ∧ Away B 25 sc0.C d x none W) ?_ ?_
      · rintro d a W ⟨x, g, A3, c3, A4, c4, A5, c5, rfl, hb, haw⟩
        refine ⟨_, at_of_drop rfl, by rfl, .nilIface, fun W' _ => ?_, ⟨x, g, A3, c3, A4, c4, A5, c5, rfl, hb, haw⟩⟩
        subst ha
        simp only [Act.put, List.setIfInBounds_toArray, List.set_cons_zero, List.set_cons_succ]
        go_simp
      refine float_done ?_ ?_
      · rintro a W ⟨x, g, A3, c3, A4, c4, A5, c5, rfl, hb, -⟩
        refine step_op rfl (by rfl) (fun K hK => ?_)
        have hBW := HBs.out W hb
        subst ha
        simp only [Act.put, List.setIfInBounds_toArray, List.set_cons_zero, List.set_cons_succ]
        go_simp
        exact hK _ _ ((Grow.of_alloc _ _).mono hBW) ⟨.pointer (some ⟨W.heap.size, 0, none⟩), g, A3, c3, A4, c4, A5, c5, by simp only [Act.put, List.setIfInBounds_toArray, List.set_cons_zero, List.set_cons_succ], hb.trans ((Grow.of_alloc _ _).mono hBW), Away.new W (fun _ h => by cases h) hBW⟩
      rintro a W ⟨x, g, A3, c3, A4, c4, A5, c5, rfl, hb, haw⟩
      obtain ⟨gx, rfl, hgB, hbx, -⟩ := haw rfl
      have HbW := Lib.hid hb
      have HBX := Lib.hid hbx
      have HgB := Lib.hid hgB
      subst ha
      clear hb haw hbx hgB
      simp only [Act.put, List.setIfInBounds_toArray, List.set_cons_zero, List.set_cons_succ]
      refine chain_only rfl (by rfl) (fun K hK => ?_)
      refine wp_store_row 25 (.tmp 12) (.tmp 50) rfl gx #[.int .u32 (na : Int), .int .u32 (ty : Int), .int .u64 (fl : Int), .int .u64 (ad : Int), .int .u64 (off : Int), .int .u64 (sz : Int), .int .u32 (li : Int), .int .u32 (inf : Int), .int .u64 (al : Int), .int .u64 (en : Int)] rfl rfl _ _ HBX.out (by kernel_rfl) rfl (by simp [Value.oneCell']) ?_
      refine hK _ _ (Below.setRow W HgB.out _) ?_
      clear hK K
      refine chain_take rfl (by rfl) .nilIface (fun W' _ => by rfl) ?_
      simp only [Act.put, List.setIfInBounds_toArray, List.set_cons_zero, List.set_cons_succ]
      refine chain_done ?_
      have HX4 : Hid (Blk (W.setRow gx #[.int .u32 (na : Int), .int .u32 (ty : Int), .int .u64 (fl : Int), .int .u64 (ad : Int), .int .u64 (off : Int), .int .u64 (sz : Int), .int .u32 (li : Int), .int .u32 (inf : Int), .int .u64 (al : Int), .int .u64 (en : Int)]) gx 25 #[.int .u32 (na : Int), .int .u32 (ty : Int), .int .u64 (fl : Int), .int .u64 (ad : Int), .int .u64 (off : Int), .int .u64 (sz : Int), .int .u32 (li : Int), .int .u32 (inf : Int), .int .u64 (al : Int), .int .u64 (en : Int)]) := HBX.out.set _
      have hg4 : Grow w3 (W.setRow gx #[.int .u32 (na : Int), .int .u32 (ty : Int), .int .u64 (fl : Int), .int .u64 (ad : Int), .int .u64 (off : Int), .int .u64 (sz : Int), .int .u32 (li : Int), .int .u32 (inf : Int), .int .u64 (al : Int), .int .u64 (en : Int)]) := by have := HbW.out.trans (Below.setRow W HgB.out #[.int .u32 (na : Int), .int .u32 (ty : Int), .int .u64 (fl : Int), .int .u64 (ad : Int), .int .u64 (off : Int), .int .u64 (sz : Int), .int .u32 (li : Int), .int .u32 (inf : Int), .int .u64 (al : Int), .int .u64 (en : Int)]); rwa [HBe.out] at this
      have HB4 := Lib.hid (HB3.out.grow hg4)
      have HF4 := Lib.hid (HF3.out.grow hg4)
      have HG4 : Hid (Grow w _) := HG3.out.trans hg4
      generalize W.setRow gx #[.int .u32 (na : Int), .int .u32 (ty : Int), .int .u64 (fl : Int), .int .u64 (ad : Int), .int .u64 (off : Int), .int .u64 (sz : Int), .int .u32 (li : Int), .int .u32 (inf : Int), .int .u64 (al : Int), .int .u64 (en : Int)] = w4 at HX4 HB4 HF4 HG4 hg4 ⊢
      clear hg4 HB3 HF3 HG3 HN3 HbW HBX HR2 HBs
      obtain ⟨x0, x1, x2, x3, x4, x5, x6, x7, x8, x9⟩ := HX4.out.c10
      obtain ⟨y0, y1, y2, y3, y4, y5, y6, y7, y8, y9⟩ := HB4.out.c10
      obtain ⟨f0, f1⟩ := HF4.out.c2
      go_wp2_with fail
      clear x0 x1 x2 x3 x4 x5 x6 x7 x8 x9 y0 y1 y2 y3 y4 y5 y6 y7 y8 y9 f0 f1
      refine (HZ.out _).mono ?_
      rintro e w5 ⟨rfl, hg5⟩
      have HF5 := Lib.hid (HF4.out.grow hg5)
      have HG5 : Hid (Grow w w5) := HG4.out.trans hg5
      clear hg5 HB4 HF4 HG4 HX4
      obtain ⟨f0, f1⟩ := HF5.out.c2
      go_wp2_with fail
      clear f0 f1
      have HRx : Hid (RB w5 w5.heap.size A n c l) := (HR.out.belowAt HG5.out (Nat.le_refl _)).more HG5.out.size
      refine (HGq.out _ HRx.out).mono ?_
      clear HRx
      rintro e w6 (⟨hin, rfl, hg6⟩ | ⟨hlt, rfl, hg6⟩)
      · have HF6 := Lib.hid (HF5.out.grow hg6)
        have HG6 : Hid (Grow w w6) := HG5.out.trans hg6
        have hqn : q + S ≤ n := by have := HL.out; omega
        have HPXi := Lib.hid (HPX.out hin)
        clear hin hg6 HF5 HG5 HPX
        obtain ⟨b, of, rfl, -, -⟩ := HR.out.pos (by omega)
        obtain ⟨f0, f1⟩ := (HF6.out.alloc (.cells XC 25)).c2
        go_wp2_with (first
          | (refine wpList_store_row rfl 25 (.tmp 14) (.tmp 71) rfl w6.heap.size XC rfl rfl _ _ (Blk.new _ _ _) (by rw [HCs.out]; kernel_rfl) (by rw [HCs.out]; rfl) HCo.out ?_; rw [World.setRow_alloc_new])
          | (refine wpList_load_row rfl 25 (.tmp 14) rfl w6.heap.size rfl _ XC (0, 0) _ (Blk.new _ _ _) Try.underlying25 rfl (by rw [HCs.out]; kernel_rfl) ?_))
        clear f0 f1
        refine (HPXi.out _).mono ?_
        rintro e w7 ⟨A6, c6, rfl, hr6, hg7⟩
        have HG7 : Hid (Grow w w7) := (HG6.out.trans (Grow.of_alloc _ _)).trans hg7
        have HR6 := Lib.hid hr6
        clear hg7 hr6 HG6 HF6 HPXi
        go_wp2_with fail
        refine wp_region_leap leap_eq [(0, true), (1, true), (2, true), (3, true), (4, true), (5, true), (6, true), (7, true), (8, true), (9, true), (10, true), (11, true), (12, true), (13, true), (14, true), (15, true), (16, true), (17, true), (18, true), (19, true), (20, true), (21, true), (22, true), (23, true), (24, true), (25, true), (26, true), (27, true)] (by kernel_rfl) (by kernel_rfl) (by kernel_rfl) ?_
        have hrb := HR.out.sub (p := q) (m := S) hqn hs0
        have hs1' := (HR6.out.drew.conv (Nat.le_refl _)) w7.drew (Grow.refl _)
        have hs2' := ((hrb.belowAt HG7.out (Nat.le_refl _)).drew.conv HG7.out.size) w7.drew (Grow.refl _)
        have HG8 : Hid (Grow w w7.drew) := HG7.out.trans (Grow.of_drew _)
        generalize w7.drew = w8 at hs1' hs2' HG8 ⊢
        clear HR6 HG7 hrb
        have z1 : IntKind.u64.wrap (n : Int) = (n : Int) := by rw [IntKind.wrap_u64]; omega
        have z2 : IntKind.i64.wrap (q : Int) = (q : Int) := by rw [IntKind.wrap_i64]; omega
        have z3 : IntKind.i64.wrap ((q : Int) + (S : Int)) = (q : Int) + (S : Int) := by rw [IntKind.wrap_i64]; omega
        have z4 : (q : Int) < (n : Int) := by omega
        have z5 : (0 : Int) ≤ (q : Int) + (S : Int) := by omega
        have z6 : (q : Int) ≤ (q : Int) + (S : Int) := by omega
        have z7 : (q : Int) + (S : Int) ≤ (c : Int) := by omega
        have z8 : ((q : Int) + (S : Int)).toNat = q + S := by omega
        have z9 : ¬ c = q := by omega
        have z10 : q + S - q = S := by omega
        have z11 : q ≤ q + S := by omega
        repeat (refine chain_take rfl (by rfl) ?_ (fun W hG => ?_) ?_; rotate_left; (subst hG; go_simp; rfl); simp only [Act.put, List.setIfInBounds_toArray, List.set_cons_zero, List.set_cons_succ])
        refine chain_done ?_
        go_wp2
        go_ret
        exact ⟨rfl, HG8.out⟩
      · have HG6 : Hid (Grow w w6) := HG5.out.trans hg6
        clear hg6
        go_wp2_with (refine wpList_store_row rfl 25 (.tmp 14) (.tmp 71) rfl w6.heap.size sc0.C rfl rfl _ _ (Blk.new _ _ _) (sz_sc sc0) rfl sc0.one ?_; rw [World.setRow_alloc_new])
        go_ret
        exact ⟨rfl, HG6.out.trans (Grow.of_alloc _ _)⟩
    · have HW : Hid (wide = false) := by
        cases hw : wide
        · exact Lib.hid rfl
        · rw [HWF.out hw] at hf; cases hf
      have hw := HW.out
      clear HW HWF
      subst hw
      have HF5 := Lib.hid (HF1.out.grow hg2)
      have HG5 : Hid (Grow w w2) := HG1.out.trans hg2
      clear hg2 HB1 HF1 HG1 hf HP
      generalize sSize false = S at *
      obtain ⟨f0, f1⟩ := HF5.out.c2
      go_wp2_with fail
      clear f0 f1
      have HRx : Hid (RB w2 w2.heap.size A n c l) := (HR.out.belowAt HG5.out (Nat.le_refl _)).more HG5.out.size
      refine (HGq.out _ HRx.out).mono ?_
      clear HRx
      rintro e w6 (⟨hin, rfl, hg6⟩ | ⟨hlt, rfl, hg6⟩)
      · have HF6 := Lib.hid (HF5.out.grow hg6)
        have HG6 : Hid (Grow w w6) := HG5.out.trans hg6
        have hqn : q + S ≤ n := by have := HL.out; omega
        have HPXi := Lib.hid (HPX.out hin)
        clear hin hg6 HF5 HG5 HPX
        obtain ⟨b, of, rfl, -, -⟩ := HR.out.pos (by omega)
        obtain ⟨f0, f1⟩ := (HF6.out.alloc (.cells XC 25)).c2
        go_wp2_with (first
          | (refine wpList_store_row rfl 25 (.tmp 14) (.tmp 71) rfl w6.heap.size XC rfl rfl _ _ (Blk.new _ _ _) (by rw [HCs.out]; kernel_rfl) (by rw [HCs.out]; rfl) HCo.out ?_; rw [World.setRow_alloc_new])
          | (refine wpList_load_row rfl 25 (.tmp 14) rfl w6.heap.size rfl _ XC (0, 0) _ (Blk.new _ _ _) Try.underlying25 rfl (by rw [HCs.out]; kernel_rfl) ?_))
        clear f0 f1
        refine (HPXi.out _).mono ?_
        rintro e w7 ⟨A6, c6, rfl, hr6, hg7⟩
        have HG7 : Hid (Grow w w7) := (HG6.out.trans (Grow.of_alloc _ _)).trans hg7
        have HR6 := Lib.hid hr6
        clear hg7 hr6 HG6 HF6 HPXi
        go_wp2_with fail
        refine wp_region_leap leap_eq [(0, true), (1, true), (2, true), (3, true), (4, true), (5, true), (6, true), (7, true), (8, true), (9, true), (10, true), (11, true), (12, true), (13, true), (14, true), (15, true), (16, true), (17, true), (18, true), (19, true), (20, true), (21, true), (22, true), (23, true), (24, true), (25, true), (26, true), (27, true)] (by kernel_rfl) (by kernel_rfl) (by kernel_rfl) ?_
        have hrb := HR.out.sub (p := q) (m := S) hqn hs0
        have hs1' := (HR6.out.drew.conv (Nat.le_refl _)) w7.drew (Grow.refl _)
        have hs2' := ((hrb.belowAt HG7.out (Nat.le_refl _)).drew.conv HG7.out.size) w7.drew (Grow.refl _)
        have HG8 : Hid (Grow w w7.drew) := HG7.out.trans (Grow.of_drew _)
        generalize w7.drew = w8 at hs1' hs2' HG8 ⊢
        clear HR6 HG7 hrb
        have z1 : IntKind.u64.wrap (n : Int) = (n : Int) := by rw [IntKind.wrap_u64]; omega
        have z2 : IntKind.i64.wrap (q : Int) = (q : Int) := by rw [IntKind.wrap_i64]; omega
        have z3 : IntKind.i64.wrap ((q : Int) + (S : Int)) = (q : Int) + (S : Int) := by rw [IntKind.wrap_i64]; omega
        have z4 : (q : Int) < (n : Int) := by omega
        have z5 : (0 : Int) ≤ (q : Int) + (S : Int) := by omega
        have z6 : (q : Int) ≤ (q : Int) + (S : Int) := by omega
        have z7 : (q : Int) + (S : Int) ≤ (c : Int) := by omega
        have z8 : ((q : Int) + (S : Int)).toNat = q + S := by omega
        have z9 : ¬ c = q := by omega
        have z10 : q + S - q = S := by omega
        have z11 : q ≤ q + S := by omega
        repeat (refine chain_take rfl (by rfl) ?_ (fun W hG => ?_) ?_; rotate_left; (subst hG; go_simp; rfl); simp only [Act.put, List.setIfInBounds_toArray, List.set_cons_zero, List.set_cons_succ])
        refine chain_done ?_
        go_wp2
        go_ret
        exact ⟨rfl, HG8.out⟩
      · have HG6 : Hid (Grow w w6) := HG5.out.trans hg6
        clear hg6
        go_wp2_with (refine wpList_store_row rfl 25 (.tmp 14) (.tmp 71) rfl w6.heap.size sc0.C rfl rfl _ _ (Blk.new _ _ _) (sz_sc sc0) rfl sc0.one ?_; rw [World.setRow_alloc_new])
        go_ret
        exact ⟨rfl, HG6.out.trans (Grow.of_alloc _ _)⟩
end Go.Proofs.Ytfahaefpglnlbaa
