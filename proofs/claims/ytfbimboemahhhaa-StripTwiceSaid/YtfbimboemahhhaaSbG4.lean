/-
  Several texts in one: The contract of model; Slices of slices of bytes, of no bytes too, wherever they begin (at the end of their room too); A part of bytes that may be nil; The contract of bytes; The contract of model; The contracts of strip's small functions.
-/
import Derived.Test.YtfbimboemahhhaaSbG3
import Derived.Test.YtfbimboemahhhaaSbG1
import Derived.Test.YtfbimboemahhhaaRows
import Derived.Lib.Strings
import Derived.Laws.Bits64b
namespace Go.Proofs.Ytfbimboemahhhaa
open Go.Lib (hid)
open Go.RowKit
theorem may_own {m : Md} {p : Pl} (h : p.inn = -1) : m.may p = p.ownMay := by unfold Md.may; rw [if_pos h]
theorem may_in {m : Md} {p : Pl} (h : p.inn ≠ -1) : m.may p = (isSegN m.segs.length p.inn && decide ((m.seg p.inn).typ = 1) && p.inMay (m.seg p.inn).pl.own.length) := by unfold Md.may; rw [if_neg h]
theorem mdC_cells (m : Md) (s t : Value) : ∃ x0 x1 x2 x3 x4 x5 x6 x7 x9 x10 : Value, mdC m s t = #[x0, x1, x2, x3, x4, x5, x6, x7, s, x9, x10] := ⟨_, _, _, _, _, _, _, _, _, _, rfl⟩
theorem isSegN_true {n : Nat} {i : Int} (h : isSegN n i = true) : ∃ k : Nat, i = (k : Int) ∧ k < n := by
 unfold isSegN at h
 simp at h
 exact ⟨i.toNat, by omega, by omega⟩
theorem Md.seg_nat (m : Md) (k : Nat) (h : k < m.segs.length) : m.seg (k : Int) = m.segs[k] := by
 unfold Md.seg
 simp [List.getD_eq_getElem?_getD, h]
set_option maxHeartbeats 1000000 in
theorem mMay_any (m : Md) (A1 A2 : Option Addr) (n1 c1 n2 c2 : Nat) (p : Pl) (A : Option Addr) (n c : Nat) (w : World) (g1 : ZR sgK w w.heap.size A1 n1 c1 m.segs) (g : RB w w.heap.size A n c p.own) :
  Calls Try.prog 57 #[.agg (mdC m (.slice A1 n1 c1) (.slice A2 n2 c2)), .agg (plC p (.slice A n c))] w fun e w' => e = .returned (.bool (m.may p)) ∧ Grow w w' := by
 have hn : n = p.own.length := g.len
 have hnm : n ≤ maxLen := Nat.le_trans g.cap g.max
 have hnm' := hnm
 unfold maxLen at hnm'
 have z : IntKind.u64.wrap (n : Int) = (n : Int) := by rw [IntKind.wrap_u64]; omega
 by_cases h0 : p.inn = -1
 ·rw [may_own h0]
  have E := hid (show p.ownMay = (decide (p.off = 0) && decide (p.size = n)) by rw [hn]; rfl)
  unfold plC mdC
  rw [h0]
  generalize p.ownMay = R at E ⊢
  generalize p.off = a at E ⊢
  generalize p.size = b at E ⊢
  clear hn hnm hnm' h0 g
  by_cases ha : a = 0
  ·subst ha
   go_enter Try.func57, Try.ntmps57
   go_wp2
   go_ret
   exact ⟨ret_bool (by rw [E.out, Bool.eq_iff_iff]; simp; try omega), (Grow.of_alloc _ _).trans (Grow.of_alloc _ _)⟩
  ·have e0 : ((a : Int) == 0) = false := by simp [ha]
   have E2 := hid (show (decide (a = 0) && decide (b = n)) = false by simp [ha])
   clear ha
   go_enter Try.func57, Try.ntmps57
   go_wp2
   go_ret
   exact ⟨ret_bool (by rw [E.out, E2.out]), (Grow.of_alloc _ _).trans (Grow.of_alloc _ _)⟩
 ·have hl := g1.len
  rw [may_in h0, ← hl]
  have hI := mIsSeg_any m A1 A2 n1 c1 n2 c2 p.inn
  obtain ⟨x0, x1, x2, x3, x4, x5, x6, x7, x9, x10, hC⟩ := mdC_cells m (.slice A1 n1 c1) (.slice A2 n2 c2)
  rw [hC] at hI ⊢
  clear hC
  cases hs : isSegN n1 p.inn with
  | false =>
   rw [hs] at hI
   have HI := hid hI
   have Hi : (p.inn == -1) = false := by simpa using h0
   clear hI hs h0 hl hn hnm hnm' g g1
   simp only [Bool.false_and]
   unfold plC
   generalize p.inn = i at HI Hi ⊢
   go_enter Try.func57, Try.ntmps57
   go_wp2_with fail
   generalize hW : World.alloc _ _ = W0
   obtain ⟨b1, b2, hg0⟩ := blk2 hW
   clear hW
   have HG0 := hid hg0
   obtain ⟨y0, y1, y2, y3⟩ := b2.c4
   obtain ⟨v0, v1, v2, v3, v4, v5, v6, v7, v8, v9, v10⟩ := b1.c11
   clear b1 b2 hg0
   go_wp2_with fail
   clear y0 y1 y2 y3 v0 v1 v2 v3 v4 v5 v6 v7 v8 v9 v10
   refine (HI.out _).mono ?_
   rintro e w1 ⟨rfl, hg1⟩
   have HG1 : Hid (Grow w w1) := HG0.out.trans hg1
   clear hg1
   go_wp2
   go_ret
   exact ⟨rfl, HG1.out⟩
  | true =>
   obtain ⟨k, hk, hkl⟩ := isSegN_true hs
   rw [hl] at hkl
   rw [hs] at hI
   rw [hk] at hI
   rw [hk, m.seg_nat k hkl]
   obtain ⟨b, off, rfl, hb⟩ := g1.pos (by rw [g1.len]; omega)
   obtain ⟨Ak, nk, ck, -, hcell, gk⟩ := g1.at hkl
   have t0 : w.cell? ⟨b, off + k * 10, none⟩ = some (.int .u32 (m.segs[k].typ : Nat)) := hcell 0 _ rfl
   have t9 : w.cell? ⟨b, off + k * 10 + 9, none⟩ = some (.slice Ak nk ck) := hcell 9 _ rfl
   have hnk : m.segs[k].pl.own.length = nk := gk.len.symm
   have hnkm : nk ≤ maxLen := Nat.le_trans gk.cap gk.max
   have HWi := hid (fun w => mIsWithin_any p (.slice A n c) Ak nk ck w hnkm)
   have E := hid (show p.inMay nk = (decide (n = 0) && decide (0 < p.size) && p.within nk) by rw [hn]; rfl)
   have hkn : k < n1 := by rw [g1.len]; exact hkl
   have hb1 : b < w.heap.size := hb
   have T0 := hid t0
   have T9 := hid t9
   have HBb := hid hb1
   have hn1m := g1.cap
   have hn1m' := g1.max
   unfold maxLen at hn1m'
   rw [hnk]
   have HI := hid hI
   unfold plC at HWi ⊢
   rw [hk] at HWi ⊢
   rw [Bool.true_and]
   have e0 : ((k : Int) == -1) = false := by simp
   generalize p.within nk = V at E HWi
   generalize p.inMay nk = R at E ⊢
   generalize p.off = po at HWi ⊢
   generalize p.size = ps at E HWi ⊢
   generalize (m.segs[k]).typ = ty at T0 ⊢
   clear hI hs t0 t9 hcell gk hnk hnkm hn hk h0 g1 g hb hb1 hnm hl
   go_enter Try.func57, Try.ntmps57
   go_wp2_with fail
   generalize hW : World.alloc _ _ = W0
   obtain ⟨b1, b2, hg0⟩ := blk2 hW
   clear hW
   have HB1 := hid b1
   have HB20 := hid b2
   have HG0 := hid hg0
   obtain ⟨y0, y1, y2, y3⟩ := b2.c4
   obtain ⟨v0, v1, v2, v3, v4, v5, v6, v7, v8, v9, v10⟩ := b1.c11
   clear b1 b2 hg0
   go_wp2_with fail
   clear y0 y1 y2 y3 v0 v1 v2 v3 v4 v5 v6 v7 v8 v9 v10
   refine (HI.out _).mono ?_
   rintro e w1 ⟨rfl, hg1⟩
   have HG1 : Hid (Grow w w1) := HG0.out.trans hg1
   have HB2 := hid (HB20.out.grow hg1)
   have y8 : w1.cell? ⟨w.heap.size, 8, none⟩ = some (.slice (some ⟨b, off, none⟩) n1 c1) := (HB1.out.grow hg1).at 8
   obtain ⟨y0, y1, y2, y3⟩ := HB2.out.c4
   have t0 : w1.cell? ⟨b, off + k * 10, none⟩ = some (.int .u32 (ty : Int)) := (Below.cell HG1.out HBb.out).trans T0.out
   have HY8 := hid (HB1.out.grow hg1)
   clear hg1 HG0 HB20 HB1
   by_cases ht : ty = 1
   ·have e1 : ((ty : Int) != 1) = false := by simp [ht]
    have E1 := hid (show decide (ty = 1) = true by simp [ht])
    clear ht
    go_wp2_with fail
    clear y0 y1 y2 y3 y8 t0 e1
    refine wp_region_chain [(0, true), (1, true), (2, true), (3, true), (4, true), (5, true), (6, true), (7, true), (8, true), (9, true), (10, true), (11, true), (12, true), (13, true), (14, true), (15, true), (16, true), (17, true), (18, true), (19, false), (20, true), (21, true)] (by kernel_rfl) (by kernel_rfl) (by kernel_rfl) ?_
    have q0 : ∀ W, Grow w1.drew W → W.cell? ⟨w.heap.size + 1, 0, none⟩ = some (.int .i64 (k : Int)) := fun W hW => (HB2.out.grow ((Grow.of_drew _).trans hW)).at 0
    have q1 : ∀ W, Grow w1.drew W → W.cell? ⟨w.heap.size + 1, 1, none⟩ = some (.int .u64 (po : Nat)) := fun W hW => (HB2.out.grow ((Grow.of_drew _).trans hW)).at 1
    have q2 : ∀ W, Grow w1.drew W → W.cell? ⟨w.heap.size + 1, 2, none⟩ = some (.int .u64 (ps : Nat)) := fun W hW => (HB2.out.grow ((Grow.of_drew _).trans hW)).at 2
    have q3 : ∀ W, Grow w1.drew W → W.cell? ⟨w.heap.size + 1, 3, none⟩ = some (.slice A n c) := fun W hW => (HB2.out.grow ((Grow.of_drew _).trans hW)).at 3
    have q8 : ∀ W, Grow w1.drew W → W.cell? ⟨w.heap.size, 8, none⟩ = some (.slice (some ⟨b, off, none⟩) n1 c1) := fun W hW => (HY8.out.grow ((Grow.of_drew _).trans hW)).at 8
    have t9 : ∀ W, Grow w1.drew W → W.cell? ⟨b, off + k * 10 + 9, none⟩ = some (.slice Ak nk ck) := fun W hW => (Below.cell (HG1.out.trans ((Grow.of_drew _).trans hW)) HBb.out).trans T9.out
    have HD : Hid (Grow w w1.drew) := HG1.out.trans (Grow.of_drew _)
    generalize w1.drew = w2 at HD q0 q1 q2 q3 q8 t9 ⊢
    by_cases hn0 : n = 0
    ·subst hn0
     by_cases hp0 : 0 < ps
     ·have e2 : decide (0 < ps) = true := decide_eq_true hp0
      have E2 := hid (show R = V by rw [E.out]; simp [hp0])
      clear hp0
      repeat ((first | (refine chain_take rfl (by rfl) ?_ (fun W hG => ?_) ?_; rotate_left; (go_simp; rfl)) | refine chain_skip rfl (by rfl) ?_); simp only [Act.put, List.setIfInBounds_toArray, List.set_cons_zero, List.set_cons_succ])
      refine chain_only rfl (by rfl) (fun K hK => ?_)
      go_simp
      refine (HWi.out _).mono ?_
      rintro e w3 ⟨rfl, hg3⟩
      refine hK _ _ hg3 ?_
      have HF : Hid (Grow w w3) := HD.out.trans hg3
      clear hK K hg3 q0 q1 q2 q3 q8 t9
      repeat ((first | (refine chain_take rfl (by rfl) ?_ (fun W hG => ?_) ?_; rotate_left; (go_simp; rfl)) | refine chain_skip rfl (by rfl) ?_); simp only [Act.put, List.setIfInBounds_toArray, List.set_cons_zero, List.set_cons_succ])
      refine chain_done ?_
      go_wp2
      go_ret
      exact ⟨ret_bool (by rw [E1.out, Bool.true_and, E2.out]), HF.out⟩
     ·have e2 : decide (0 < ps) = false := decide_eq_false hp0
      have E2 := hid (show R = false by rw [E.out]; simp [hp0])
      clear hp0
      repeat ((first | (refine chain_take rfl (by rfl) ?_ (fun W hG => ?_) ?_; rotate_left; (go_simp; rfl)) | refine chain_skip rfl (by rfl) ?_); simp only [Act.put, List.setIfInBounds_toArray, List.set_cons_zero, List.set_cons_succ])
      refine chain_none rfl (by rfl) ?_
      simp only [Act.put, List.setIfInBounds_toArray, List.set_cons_zero, List.set_cons_succ]
      repeat ((first | (refine chain_take rfl (by rfl) ?_ (fun W hG => ?_) ?_; rotate_left; (go_simp; rfl)) | refine chain_skip rfl (by rfl) ?_); simp only [Act.put, List.setIfInBounds_toArray, List.set_cons_zero, List.set_cons_succ])
      refine chain_done ?_
      go_wp2
      go_ret
      exact ⟨ret_bool (by rw [E1.out, Bool.true_and, E2.out]), HD.out⟩
    ·have e2 : ((n : Int) == 0) = false := by simp; omega
     have E2 := hid (show R = false by rw [E.out]; simp [hn0])
     clear hn0
     repeat ((first | (refine chain_take rfl (by rfl) ?_ (fun W hG => ?_) ?_; rotate_left; (go_simp; rfl)) | refine chain_skip rfl (by rfl) ?_); simp only [Act.put, List.setIfInBounds_toArray, List.set_cons_zero, List.set_cons_succ])
     refine chain_none rfl (by rfl) ?_
     simp only [Act.put, List.setIfInBounds_toArray, List.set_cons_zero, List.set_cons_succ]
     repeat ((first | (refine chain_take rfl (by rfl) ?_ (fun W hG => ?_) ?_; rotate_left; (go_simp; rfl)) | refine chain_skip rfl (by rfl) ?_); simp only [Act.put, List.setIfInBounds_toArray, List.set_cons_zero, List.set_cons_succ])
     refine chain_done ?_
     go_wp2
     go_ret
     exact ⟨ret_bool (by rw [E1.out, Bool.true_and, E2.out]), HD.out⟩
   ·have e1 : ((ty : Int) != 1) = true := by simp; omega
    have E1 := hid (show decide (ty = 1) = false by simp [ht])
    clear ht
    go_wp2
    go_ret
    exact ⟨ret_bool (by rw [E1.out, Bool.false_and]), HG1.out⟩
def cutA (a : Addr) (c p : Nat) : Addr := if c = p then a else a.add p
section
variable {w : World} {B n c : Nat} {a : Addr} {l : List UInt8}
theorem RB.cut (h : RB w B (some a) n c l) {p m : Nat} (hp : p + m ≤ n) : RB w B (some (cutA a c p)) m (c - p) ((l.drop p).take m) := by
 have hl := h.len
 have hcap := h.cap
 have hmax := h.max
 by_cases h0 : 0 < m
 ·obtain ⟨b, off, e, -, -⟩ := h.pos (by omega)
  injection e with e
  subst e
  have := h.sub hp h0
  have e2 : cutA ⟨b, off, none⟩ c p = ⟨b, off + p, none⟩ := by
   unfold cutA Addr.add
   rw [if_neg (by omega)]
   split <;> simp_all
  rw [e2]
  exact this
 ·have : m = 0 := by omega
  subst this
  exact ⟨by simp, by omega, by omega, fun h => absurd h (by omega)⟩
end
theorem run_cut_lh {P : Program} (t : TypeId) (ht : P.underlying t = some (.slice (P.elem t))) (hz : ∀ W, (sizeOf (P.elem t)).run P W = .ok 1 W) (a : Addr) (n c : Nat) (kl kh : IntKind) (p q : Nat) (hpq : p ≤ q) (hq : q ≤ c) (W : World) :
  (Instr.slice t (.slice (some a) n c) (some (.int kl (p : Int))) (some (.int kh (q : Int))) none).run P W = .ok (.slice (some (cutA a c p)) (q - p) (c - p)) W := by
 rw [run_slice_lh W t (some a) n c ht kl kh p q (by omega) (by omega) (by omega), hz]
 simp only [Result.andThen, sliced, Int.toNat_natCast, Nat.mul_one, Option.map_some]
 unfold cutA
 split <;> rfl
theorem cut_any {w : World} {B n c : Nat} {A : Option Addr} {l : List UInt8} (h : RB w B A n c l) {p m : Nat} (hp : p + m ≤ n) :
  ∃ A' c', (∀ W, (Instr.slice 49 (.slice A n c) (some (.int .u64 (p : Int))) (some (.int .u64 ((p : Int) + (m : Int)))) none).run Try.prog W = .ok (.slice A' m c') W) ∧ RB w B A' m c' ((l.drop p).take m) := by
 have hcap := h.cap
 have hmax := h.max
 have hz8 : ∀ W, (sizeOf (Try.prog.elem 49)).run Try.prog W = .ok 1 W := fun W => by kernel_rfl
 rcases A with _ | a
 ·have hn : n = 0 := by
   rcases Nat.eq_zero_or_pos n with h0 | h0
   ·exact h0
   ·obtain ⟨_, _, e, _⟩ := h.pos h0
    cases e
  subst hn
  obtain rfl : p = 0 := by omega
  obtain rfl : m = 0 := by omega
  refine ⟨none, c, fun W => ?_, by simp, Nat.zero_le _, hmax, fun h => absurd h (by omega)⟩
  have := run_slice_lh (P := Try.prog) W 49 none 0 c (by kernel_rfl) .u64 .u64 0 0 (by omega) (by omega) (by omega)
  rw [hz8] at this
  simpa [Result.andThen, sliced] using this
 ·refine ⟨some (cutA a c p), c - p, fun W => ?_, h.cut hp⟩
  have := run_cut_lh (P := Try.prog) 49 (by kernel_rfl) hz8 a n c .u64 .u64 p (p + m) (by omega) (by omega) W
  rw [show p + m - p = m by omega] at this
  simpa using this
set_option maxRecDepth 100000
set_option maxHeartbeats 400000 in
theorem clone_some (a : Addr) (n c : Nat) (l : List UInt8) (B : Nat) (w : World) (h : RB w B (some a) n c l) (hB : B ≤ w.heap.size) (hn : n ≤ 140737488355328) :
  Calls Try.prog 26 #[.slice (some a) n c] w fun e w' => ∃ A2 c2, e = .returned (.slice A2 n c2) ∧ OB w' w.heap.size 5 A2 n c2 l ∧ Grow w w' := by
 have HR := hid h
 have HL := hid h.len
 have hc := h.cap
 have hm := h.max
 unfold maxLen at hm
 clear h
 have hz : n ≤ 140737488355328 := hn
 have HO := hid (OB.of_blk (base := w.heap.size) (l := []) (Blk.new w 5 #[]) (Nat.le_refl _) (by decide))
 have hg1 := Grow.of_alloc w (.cells #[] 5)
 have HR1 := hid (HR.out.belowAt hg1 hB)
 have HG1 := hid hg1
 have HS1 := hid hg1.size
 clear hg1 HR
 have heq : ∀ w, (binOp .eql 49 (.slice (some a) n c) (.slice none 0 0)).run Try.prog w = .ok (.bool false) w := fun w => by rfl
 go_enter Try.func26, Try.ntmps26
 go_wp2_with (refine wpList_appendB (w.alloc (.cells #[] 5)) rfl (.tmp 5) (.tmp 6) 49 rfl w.heap.size 5 Try.underlying49 (by kernel_rfl) _ _ _ _ rfl HO.out B _ n c l rfl HR1.out (by simpa using hz) HS1.out ?_; intro A5 c5 w9 ho9 hb9; refine Hid.out ?_)
 have HO9 := hid ho9
 have HB9 : Hid (Grow w w9) := HG1.out.trans' hb9
 clear ho9 hb9 HO HR1 HG1 HS1
 refine hid ?_
 go_wp2
 go_ret
 have h9 := HO9.out
 rw [Nat.zero_add, List.nil_append] at h9
 exact ⟨A5, c5, rfl, h9, HB9.out⟩
def NewB (l : List UInt8) (w : World) (e : Ending) (w' : World) : Prop := ∃ A2 c2, e = .returned (.slice A2 l.length c2) ∧ OB w' w.heap.size 5 A2 l.length c2 l ∧ Grow w w'
theorem NewB.nil (w w' : World) (h : Grow w w') : NewB [] w (.returned (.slice none 0 0)) w' := ⟨none, 0, rfl, OB.nil, h⟩
theorem NewB.from {l : List UInt8} {w0 w w' : World} {e : Ending} (h : NewB l w e w') (hg : Grow w0 w) : NewB l w0 e w' := by
 obtain ⟨A2, c2, h1, h2, h3⟩ := h
 exact ⟨A2, c2, h1, h2.mono hg.size, hg.trans h3⟩
theorem clone_any (A : Option Addr) (n c : Nat) (l : List UInt8) (B : Nat) (w : World) (h : RB w B A n c l) (hB : B ≤ w.heap.size) (hn : n ≤ 140737488355328) :
  Calls Try.prog 26 #[.slice A n c] w (NewB l w) := by
 rcases A with _ | a
 ·have hl : l = [] := by
   rcases Nat.eq_zero_or_pos n with h0 | h0
   ·exact List.eq_nil_of_length_eq_zero (by rw [← h.len]; exact h0)
   ·obtain ⟨_, _, e, _⟩ := h.pos h0
    cases e
  subst hl
  clear h
  have heq : ∀ w, (binOp .eql 49 (.slice none n c) (.slice none 0 0)).run Try.prog w = .ok (.bool true) w := fun w => by rfl
  go_enter Try.func26, Try.ntmps26
  go_wp2
  go_ret
  exact NewB.nil _ _ (Grow.refl _)
 ·refine (clone_some a n c l B w h hB hn).mono ?_
  rintro e w' ⟨A2, c2, rfl, h1, h2⟩
  obtain rfl := h.len
  exact ⟨A2, c2, rfl, h1, h2⟩
theorem bytes_own {m : Md} {p : Pl} (h : p.inn = -1) : m.bytes p = p.own := by unfold Md.bytes; rw [if_pos h]
theorem bytes_in {m : Md} {p : Pl} (h : p.inn ≠ -1) : m.bytes p = if isSegN m.segs.length p.inn && p.within (m.seg p.inn).pl.own.length then (((m.seg p.inn).pl.own).drop p.off).take p.size else [] := by unfold Md.bytes; rw [if_neg h]
set_option maxHeartbeats 1000000 in
theorem mBytes_any (m : Md) (A1 A2 : Option Addr) (n1 c1 n2 c2 : Nat) (p : Pl) (ok : p.Ok) (A : Option Addr) (n c : Nat) (w : World) (g1 : ZR sgK w w.heap.size A1 n1 c1 m.segs) (g : RB w w.heap.size A n c p.own) (hb : (m.bytes p).length ≤ 140737488355328) :
  Calls Try.prog 62 #[.agg (mdC m (.slice A1 n1 c1) (.slice A2 n2 c2)), .agg (plC p (.slice A n c))] w (NewB (m.bytes p) w) := by
 have hpo := ok.off
 have hps := ok.size
 obtain ⟨x0, x1, x2, x3, x4, x5, x6, x7, x9, x10, hC⟩ := mdC_cells m (.slice A1 n1 c1) (.slice A2 n2 c2)
 by_cases h0 : p.inn = -1
 ·rw [bytes_own h0] at hb ⊢
  have HCl := hid (fun w' (hg : Grow w w') => clone_any A n c p.own _ w' (g.grow hg) (Nat.le_refl _) (by rw [g.len]; exact hb))
  rw [hC]
  unfold plC
  rw [h0]
  generalize p.own = l at HCl ⊢
  generalize p.off = po
  generalize p.size = ps
  clear hC hb g g1 h0 hpo hps ok
  go_enter Try.func62, Try.ntmps62
  go_wp2_with fail
  generalize hW : World.alloc _ _ = W0
  obtain ⟨b1, b2, hg0⟩ := blk2 hW
  clear hW
  have HG0 := hid hg0
  obtain ⟨y0, y1, y2, y3⟩ := b2.c4
  clear b1 b2 hg0
  go_wp2_with fail
  clear y0 y1 y2 y3
  refine (HCl.out _ HG0.out).mono ?_
  rintro e w1 hn
  have HN := hid (hn.from HG0.out)
  obtain ⟨A5, c5, rfl, -, -⟩ := hn
  go_wp2
  go_ret
  exact HN.out
 ·have hl := g1.len
  rw [bytes_in h0, ← hl] at hb ⊢
  have hI := mIsSeg_any m A1 A2 n1 c1 n2 c2 p.inn
  rw [hC] at hI ⊢
  clear hC
  cases hs : isSegN n1 p.inn with
  | false =>
   rw [hs] at hI
   have HI := hid hI
   have Hi : (p.inn == -1) = false := by simpa using h0
   rw [hs] at hb
   clear hI hs h0 hl g g1 hb hpo hps ok
   simp only [Bool.false_and]
   unfold plC
   generalize p.inn = i at HI Hi ⊢
   generalize p.off = po
   generalize p.size = ps
   go_enter Try.func62, Try.ntmps62
   go_wp2_with fail
   generalize hW : World.alloc _ _ = W0
   obtain ⟨b1, b2, hg0⟩ := blk2 hW
   clear hW
   have HG0 := hid hg0
   obtain ⟨y0, y1, y2, y3⟩ := b2.c4
   obtain ⟨v0, v1, v2, v3, v4, v5, v6, v7, v8, v9, v10⟩ := b1.c11
   clear b1 b2 hg0
   go_wp2_with fail
   clear y0 y1 y2 y3 v0 v1 v2 v3 v4 v5 v6 v7 v8 v9 v10
   refine (HI.out _).mono ?_
   rintro e w1 ⟨rfl, hg1⟩
   have HG1 : Hid (Grow w w1) := HG0.out.trans hg1
   clear hg1
   go_wp2
   go_ret
   exact NewB.nil _ _ HG1.out
  | true =>
   obtain ⟨k, hk, hkl⟩ := isSegN_true hs
   rw [hl] at hkl
   rw [hs] at hI
   rw [hk] at hI
   rw [hs, hk, m.seg_nat k hkl, Bool.true_and] at hb
   rw [hk, m.seg_nat k hkl, Bool.true_and]
   obtain ⟨b, off, rfl, hbb⟩ := g1.pos (by rw [g1.len]; omega)
   obtain ⟨Ak, nk, ck, -, hcell, gk⟩ := g1.at hkl
   have T9 : Hid (w.cell? ⟨b, off + k * 10 + 9, none⟩ = some (.slice Ak nk ck)) := hid (hcell 9 _ rfl)
   have hnk : m.segs[k].pl.own.length = nk := gk.len.symm
   have hnkm : nk ≤ maxLen := Nat.le_trans gk.cap gk.max
   have HWi := hid (fun w => mIsWithin_any p (.slice A n c) Ak nk ck w hnkm)
   have hkn : k < n1 := by rw [g1.len]; exact hkl
   have HBb := hid (show b < w.heap.size from hbb)
   have hn1m := g1.cap
   have hn1m' := g1.max
   unfold maxLen at hn1m' hnkm
   have gk' : RB w w.heap.size Ak nk ck m.segs[k].pl.own := gk
   rw [hnk] at hb ⊢
   have HI := hid hI
   obtain ⟨RS, hRS⟩ : ∃ RS, RS = if p.within nk = true then (m.segs[k].pl.own.drop p.off).take p.size else [] := ⟨_, rfl⟩
   rw [← hRS] at hb ⊢
   have E := hid (show p.within nk = decide (p.off + p.size ≤ nk) from rfl)
   unfold plC at HWi ⊢
   rw [hk] at HWi ⊢
   have e0 : ((k : Int) == -1) = false := by simp
   generalize p.within nk = V at E HWi hRS
   generalize p.off = po at HWi E hpo hRS ⊢
   generalize p.size = ps at E HWi hps hRS ⊢
   clear hcell
   generalize m.segs[k].pl.own = L at hRS gk gk' hnk
   have HRS := hid hRS
   clear hRS
   have GK := hid gk'
   clear hI hs gk gk' hnk hk h0 g1 g hbb hl ok
   go_enter Try.func62, Try.ntmps62
   go_wp2_with fail
   generalize hW : World.alloc _ _ = W0
   obtain ⟨b1, b2, hg0⟩ := blk2 hW
   clear hW
   have HB1 := hid b1
   have HB20 := hid b2
   have HG0 := hid hg0
   obtain ⟨y0, y1, y2, y3⟩ := b2.c4
   obtain ⟨v0, v1, v2, v3, v4, v5, v6, v7, v8, v9, v10⟩ := b1.c11
   clear b1 b2 hg0
   go_wp2_with fail
   clear y0 y1 y2 y3 v0 v1 v2 v3 v4 v5 v6 v7 v8 v9 v10
   refine (HI.out _).mono ?_
   rintro e w1 ⟨rfl, hg1⟩
   have HG1 : Hid (Grow w w1) := HG0.out.trans hg1
   have HB2 := hid (HB20.out.grow hg1)
   have y8 : w1.cell? ⟨w.heap.size, 8, none⟩ = some (.slice (some ⟨b, off, none⟩) n1 c1) := (HB1.out.grow hg1).at 8
   obtain ⟨y0, y1, y2, y3⟩ := HB2.out.c4
   have t9 : w1.cell? ⟨b, off + k * 10 + 9, none⟩ = some (.slice Ak nk ck) := (Below.cell HG1.out HBb.out).trans T9.out
   clear hg1 HG0 HB20 HB1 HI
   go_wp2_with fail
   clear y0 y1 y2 y3 y8 t9
   refine (HWi.out _).mono ?_
   rintro e w2 ⟨rfl, hg2⟩
   have HG2 : Hid (Grow w w2) := HG1.out.trans hg2
   obtain ⟨y0, y1, y2, y3⟩ := (HB2.out.grow hg2).c4
   clear hg2 HWi
   cases V with
   | false =>
    clear y0 y1 y2 y3
    go_wp2
    go_ret
    rw [HRS.out]
    exact NewB.nil _ _ HG2.out
   | true =>
    have hle : po + ps ≤ nk := by have := E.out; simpa using this.symm
    obtain ⟨A', c', hrun, hr⟩ := cut_any GK.out hle
    have e1 : (L.drop po).take ps = RS := HRS.out.symm
    rw [e1] at hr
    have HR := hid hr
    have HCl := hid (fun w' (hg : Grow w w') => clone_any A' ps c' _ _ w' (HR.out.grow hg) (Nat.le_refl _) (by rw [HR.out.len]; exact hb))
    have z1 : IntKind.u64.wrap ((po : Int) + (ps : Int)) = (po : Int) + (ps : Int) := by rw [IntKind.wrap_u64]; omega
    clear hr hle hb hnkm hpo hps E GK e1 HRS
    go_wp2_with fail
    clear y0 y1 y2 y3
    refine (HCl.out _ HG2.out).mono ?_
    rintro e w3 hn
    have HN := hid (hn.from HG2.out)
    obtain ⟨A5, c5, rfl, -, -⟩ := hn
    go_wp2
    go_ret
    exact HN.out
set_option maxRecDepth 100000
set_option linter.unusedVariables false
theorem and_two (F : Nat) (h : F < 18446744073709551616) : bits BinOp.and IntKind.u64 (F : Int) 2 = ((2 * (F / 2 % 2) : Nat) : Int) := by
 have h1 := bits_and_u64_nat F 2 h (by omega)
 have h2 : F &&& 2 = 2 * (F / 2 % 2) := by
  have h3 := Nat.and_div_two (a := F) (b := 2)
  have h4 := Nat.and_mod_two_pow (a := F) (b := 2) (n := 1)
  have h5 : F / 2 &&& 1 = F / 2 % 2 := Nat.and_one_is_mod _
  simp only [Nat.reducePow, Nat.reduceDiv, Nat.reduceMod, Nat.and_zero, h5] at h3 h4
  omega
 rw [← h2]
 exact h1
set_option maxHeartbeats 1000000 in
theorem mayGo_any (m : Md) (ok : m.Ok) (S1 : Value) (A2 : Option Addr) (n2 c2 : Nat) (w : World) (g2 : ZR seK w w.heap.size A2 n2 c2 m.secs) (k : Nat) (hk : k < n2) :
  Calls Try.prog 29 #[.agg (mdC m S1 (.slice A2 n2 c2)), .int .i64 (k : Int)] w fun e w' => e = .returned (.bool (m.mayGo k)) ∧ Grow w w' := by
 have hkl : k < m.secs.length := by rw [← g2.len]; exact hk
 obtain ⟨b, off, rfl, hb⟩ := g2.pos (by omega)
 obtain ⟨Ak, nk, ck, -, p, -⟩ := g2.at hkl
 have T2 := hid (show w.cell? ⟨b, off + k * 13 + 2, none⟩ = some (.int .u64 (m.secs[k].flags : Nat)) from p 2 _ rfl)
 have E := hid (show m.mayGo k = (decide (m.secs[k].flags / 2 % 2 = 0) && !decide ((k : Int) + 1 = m.str)) by unfold Md.mayGo; rw [m.sec_at hkl])
 have hf := (ok.secs _ (List.getElem_mem hkl)).flags
 have hs := ok.str
 have hc := g2.cap
 have hm := g2.max
 unfold maxLen at hm
 unfold I64 at hs
 have HBb := hid hb
 clear p hb g2
 unfold mdC
 generalize m.secs[k].flags = F at *
 generalize m.mayGo k = R at E ⊢
 generalize m.str = st at E hs ⊢
 generalize m.wide = f0
 generalize m.big = f1
 generalize m.osabi = f2
 generalize m.abi = f3
 generalize m.typ = f4
 generalize m.mach = f5
 generalize m.flags = f6
 generalize m.entry = f7
 clear hkl ok
 have q := and_two F hf
 obtain ⟨T, hT⟩ : ∃ T, T = IntKind.i64.wrap (st - 1) := ⟨_, rfl⟩
 have E2 : Hid (((k : Int) != T) = !decide ((k : Int) + 1 = st)) := hid (by
  rw [Bool.eq_iff_iff, bne_iff_ne, Bool.not_eq_true', decide_eq_false_iff_not, hT, IntKind.wrap_i64]
  omega)
 have z := hT.symm
 clear hT hs
 have w0 : (0 : Int) ≤ (k : Int) := by omega
 have w1 : (k : Int) < (n2 : Int) := by omega
 have t2 : ∀ o, (w.alloc o).cell? ⟨b, off + k * 13 + 2, none⟩ = some (.int .u64 (F : Nat)) := fun o => (Below.cell (Grow.of_alloc w o) HBb.out).trans T2.out
 clear T2 HBb
 rcases Nat.mod_two_eq_zero_or_one (F / 2) with hF | hF
 ·rw [hF] at q
  have E3 := hid (show R = ((k : Int) != T) by rw [E.out, E2.out, hF]; rfl)
  clear hF
  go_enter Try.func29, Try.ntmps29
  go_wp2
  go_ret
  exact ⟨ret_bool E3.out.symm, Grow.of_alloc _ _⟩
 ·rw [hF] at q
  have E3 := hid (show R = false by rw [E.out, hF]; rfl)
  clear hF
  go_enter Try.func29, Try.ntmps29
  go_wp2
  go_ret
  exact ⟨ret_bool E3.out.symm, Grow.of_alloc _ _⟩
set_option maxHeartbeats 1000000 in
theorem isSym_any (s : Se) (S : Value) (w : World) :
  Calls Try.prog 47 #[.agg (seC s S)] w fun e w' => e = .returned (.bool s.isSym) ∧ Grow w w' := by
 have E : Hid (s.isSym = (decide (s.typ = 2) || decide (s.typ = 18) || decide (s.typ = 4) || decide (s.typ = 9))) := hid rfl
 unfold seC
 generalize s.isSym = R at E ⊢
 generalize s.typ = t at E ⊢
 generalize s.name = f0
 generalize s.flags = f2
 generalize s.addr = f3
 generalize s.size = f4
 generalize s.link = f5
 generalize s.info = f6
 generalize s.align = f7
 generalize s.entsize = f8
 generalize s.pl.inn = f9
 generalize s.pl.off = f10
 generalize s.pl.size = f11
 by_cases h2 : t = 2
 ·have E2 := hid (show R = true by rw [E.out]; simp [h2])
  have d : ((t : Int) == 2) = true := by simp [h2]
  clear h2 E
  go_enter Try.func47, Try.ntmps47
  go_wp2
  go_ret
  exact ⟨ret_bool E2.out.symm, Grow.of_alloc _ _⟩
 have d2 : ((t : Int) == 2) = false := by simp; omega
 by_cases h18 : t = 18
 ·have E2 := hid (show R = true by rw [E.out]; simp [h18])
  have d : ((t : Int) == 18) = true := by simp [h18]
  clear h2 h18 E
  go_enter Try.func47, Try.ntmps47
  go_wp2
  go_ret
  exact ⟨ret_bool E2.out.symm, Grow.of_alloc _ _⟩
 have d18 : ((t : Int) == 18) = false := by simp; omega
 by_cases h4 : t = 4
 ·have E2 := hid (show R = true by rw [E.out]; simp [h4])
  have d : ((t : Int) == 4) = true := by simp [h4]
  clear h2 h18 h4 E
  go_enter Try.func47, Try.ntmps47
  go_wp2
  go_ret
  exact ⟨ret_bool E2.out.symm, Grow.of_alloc _ _⟩
 have d4 : ((t : Int) == 4) = false := by simp; omega
 by_cases h9 : t = 9
 ·have E2 := hid (show R = true by rw [E.out]; simp [h9])
  have d : ((t : Int) == 9) = true := by simp [h9]
  clear h2 h18 h4 h9 E
  go_enter Try.func47, Try.ntmps47
  go_wp2
  go_ret
  exact ⟨ret_bool E2.out.symm, Grow.of_alloc _ _⟩
 have d9 : ((t : Int) == 9) = false := by simp; omega
 have E2 := hid (show R = false by rw [E.out]; simp [h2, h18, h4, h9])
 clear h2 h18 h4 h9 E
 go_enter Try.func47, Try.ntmps47
 go_wp2
 go_ret
 exact ⟨ret_bool E2.out.symm, Grow.of_alloc _ _⟩
theorem begins_if (s t : Bs) : begins s t = (decide (t.length ≤ s.length) && (s.take t.length == t)) := by
 unfold begins
 congr 1
 rw [Bool.eq_iff_iff, decide_eq_true_iff, beq_iff_eq]
theorem pre_any (s t : Bs) (w : World) :
  Calls Try.prog 76 #[.string (bstr s), .string (bstr t)] w fun e w' => e = .returned (.bool (begins s t)) ∧ w = w' := by
 have hS := bstr_size s
 have hT := bstr_size t
 have E := hid (show begins s t = (decide ((bstr t).size ≤ (bstr s).size) && (((bstr s).extract 0 (bstr t).size).toList == (bstr t).toList)) by
  rw [begins_if, Lib.extract_toList, bstr_toList, bstr_list, hS, hT]
  simp)
 clear hS hT
 generalize begins s t = R at E ⊢
 generalize bstr s = S at E ⊢
 generalize bstr t = T at E ⊢
 go_enter Try.func76, Try.ntmps76
 go_wp2
 ·rename_i h
  go_ret
  exact ⟨ret_bool (by rw [E.out]; simp [h]), rfl⟩
 ·rename_i h
  go_ret
  exact ⟨ret_bool (by rw [E.out]; simp [h]), rfl⟩
theorem prefix_any (s t : Bs) (w : World) :
  Calls Try.prog 64 #[.string (bstr s), .string (bstr t)] w fun e w' => e = .returned (.bool (begins s t)) ∧ w = w' := by
 have HP := hid (pre_any s t)
 generalize begins s t = R at HP ⊢
 generalize bstr s = S at HP ⊢
 generalize bstr t = T at HP ⊢
 go_enter Try.func64, Try.ntmps64
 go_wp2_with (go_at_call 76; refine (HP.out _).mono ?_; rintro e w' ⟨rfl, rfl⟩)
 go_ret
 exact ⟨rfl, rfl⟩
set_option maxHeartbeats 1000000 in
theorem isDbg_any (s : Se) (S : Value) (A : Option Addr) (n c : Nat) (l : Bs) (w : World) (h : RB w w.heap.size A n c l) (hn : s.name < 4294967296) :
  Calls Try.prog 48 #[.agg (seC s S), .slice A n c] w fun e w' => e = .returned (.bool (isDbg ((nameAt l s.name).getD []))) ∧ Grow w w' := by
 have HG := hid (fun W (hg : Grow w W) => strGet_any A n c l s.name W (h.grow hg) (by omega))
 unfold GotN at HG
 have z : IntKind.u64.wrap (s.name : Int) = (s.name : Int) := by rw [IntKind.wrap_u64]; omega
 unfold seC
 unfold isDbg
 clear h
 generalize (nameAt l s.name).isSome = bb at HG
 generalize (nameAt l s.name).getD [] = nm at HG ⊢
 have HP1 := hid (fun W => prefix_any nm dotD W)
 have HP2 := hid (fun W => prefix_any nm dotZ W)
 generalize begins nm dotD = X at HP1 ⊢
 generalize begins nm dotZ = Y at HP2 ⊢
 have e1 : bstr dotD = { data := #[46, 100, 101, 98, 117, 103] } := rfl
 have e2 : bstr dotZ = { data := #[46, 122, 100, 101, 98, 117, 103] } := rfl
 rw [e1] at HP1
 rw [e2] at HP2
 clear e1 e2
 generalize bstr nm = SS at HG HP1 HP2
 generalize s.name = f0 at *
 generalize s.typ = f1
 generalize s.flags = f2
 generalize s.addr = f3
 generalize s.size = f4
 generalize s.link = f5
 generalize s.info = f6
 generalize s.align = f7
 generalize s.entsize = f8
 generalize s.pl.inn = f9
 generalize s.pl.off = f10
 generalize s.pl.size = f11
 go_enter Try.func48, Try.ntmps48
 go_wp2_with fail
 refine (HG.out _ (Grow.of_alloc _ _)).mono ?_
 rintro e w1 ⟨rfl, rfl⟩
 go_wp2_with fail
 refine (HP1.out _).mono ?_
 rintro e w1 ⟨rfl, rfl⟩
 cases X with
 | true =>
  go_wp2
  go_ret
  exact ⟨rfl, Grow.of_alloc _ _⟩
 | false =>
  go_wp2_with fail
  refine (HP2.out _).mono ?_
  rintro e w1 ⟨rfl, rfl⟩
  go_wp2
  go_ret
  exact ⟨by simp, Grow.of_alloc _ _⟩
end Go.Proofs.Ytfbimboemahhhaa
