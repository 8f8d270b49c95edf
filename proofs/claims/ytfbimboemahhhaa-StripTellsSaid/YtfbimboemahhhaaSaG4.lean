/-
  Several texts in one: The contract of strip's linked; The contract of strip; The contracts of slices; append of several numbers that were laid side by side; The contract of model.
-/
import Derived.Test.YtfbimboemahhhaaSaG3
import Derived.Test.YtfbimboemahhhaaSaG2
import Derived.Test.YtfbimboemahhhaaRows
import Derived.Test.YtfbimboemahhhaaSaG1
import Derived.Laws.Bits64b
import Derived.Laws.Bits128
import Derived.WalkKit
import Derived.Lib.Hide
namespace Go.Proofs.Ytfbimboemahhhaa
open Go.Lib (hid)
open Go.RowKit
set_option maxRecDepth 100000
set_option linter.unusedVariables false
theorem bools_other {w : World} {g n : Nat} {t : TypeId} {f : Nat → Value} (h : w.rowIs g t n f) {g2 k : Nat} (hg : g ≠ g2) (v : Value) : (w.setCell ⟨g2, k, none⟩ v).rowIs g t n f := h.of_block (Deep.blk_setCell_other _ _ _ _ hg)
theorem bools_alloc {w : World} {g n : Nat} {t : TypeId} {f : Nat → Value} (h : w.rowIs g t n f) (o : Obj) : (w.alloc o).rowIs g t n f := bools_grow h (Grow.of_alloc w o)
theorem bySym_far (m : Md) (k n : Nat) (h : (m.sec k).link = 0 ∨ n < (m.sec k).link) (i : Nat) (hi : i < n) : m.bySym (k + 1) i = m.bySym k i := by
 rw [m.bySym_succ, decide_eq_false (by omega), Bool.false_and, Bool.or_false]
theorem bySta_far (m : Md) (k n : Nat) (h : (m.sec k).link = 0 ∨ n < (m.sec k).link) (i : Nat) (hi : i < n) : m.bySta (k + 1) i = m.bySta k i := by
 rw [m.bySta_succ, decide_eq_false (by omega), Bool.false_and, Bool.or_false]
theorem bySym_no (m : Md) (k i : Nat) (h : (m.alone k && decide ((m.sec k).typ = 2)) = false) : m.bySym (k + 1) i = m.bySym k i := by
 rw [m.bySym_succ, h, Bool.and_false, Bool.or_false]
theorem bySta_no (m : Md) (k i : Nat) (h : m.alone k = true) : m.bySta (k + 1) i = m.bySta k i := by
 rw [m.bySta_succ, h, Bool.not_true, Bool.and_false, Bool.or_false]
theorem bySym_yes (m : Md) (k t i : Nat) (hl : (m.sec k).link = t + 1) (h : (m.alone k && decide ((m.sec k).typ = 2)) = true) : (if i = t then Value.bool true else bvl (m.bySym k) i) = bvl (m.bySym (k + 1)) i := by
 unfold bvl
 rw [m.bySym_succ, h, hl]
 by_cases e : i = t
 ·subst e
  simp
 ·rw [if_neg e, decide_eq_false (by omega), Bool.false_and, Bool.or_false]
theorem bySta_yes (m : Md) (k t i : Nat) (hl : (m.sec k).link = t + 1) (h : m.alone k = false) : (if i = t then Value.bool true else bvl (m.bySta k) i) = bvl (m.bySta (k + 1)) i := by
 unfold bvl
 rw [m.bySta_succ, h, hl]
 by_cases e : i = t
 ·subst e
  simp
 ·rw [if_neg e, decide_eq_false (by omega), Bool.false_and, Bool.or_false]
set_option maxHeartbeats 8000000 in
theorem linked_any (m : Md) (ok : m.Ok) (S1 : Value) (A2 : Option Addr) (n2 c2 : Nat) (w : World) (g2 : ZR seK w w.heap.size A2 n2 c2 m.secs) (hn : n2 ≤ 65536) (gl : Nat) (hal : w.rowIs gl 4 n2 (bvl m.alone)) :
  Calls Try.prog 28 #[.agg (mdC m S1 (.slice A2 n2 c2)), .slice (some ⟨gl, 0, none⟩) n2 n2] w fun e w' => ∃ ga gb, e = .returned (.tuple #[.slice (some ⟨ga, 0, none⟩) n2 n2, .slice (some ⟨gb, 0, none⟩) n2 n2]) ∧ (w.heap.size ≤ ga ∧ w.heap.size ≤ gb) ∧ w'.rowIs ga 4 n2 (bvl (m.bySym n2)) ∧ w'.rowIs gb 4 n2 (bvl (m.bySta n2)) ∧ Grow w w' := by
 obtain ⟨x0, x1, x2, x3, x4, x5, x6, x7, x10, hC⟩ : ∃ x0 x1 x2 x3 x4 x5 x6 x7 x10 : Value, (∀ s t, mdC m s t = #[x0, x1, x2, x3, x4, x5, x6, x7, s, t, x10]) := ⟨_, _, _, _, _, _, _, _, _, fun _ _ => rfl⟩
 have HZ := hid g2
 have HL := hid g2.len
 have HOk := hid ok.secs
 have HAl := hid hal
 have hc := g2.cap
 have hm := g2.max
 unfold maxLen at hm
 have HX : Hid (∀ k (h : k < m.secs.length), m.sec k = m.secs[k]) := hid fun k h => m.sec_at h
 have HF1 := hid (bySym_far m)
 have HF2 := hid (bySta_far m)
 have HN1 := hid (bySym_no m)
 have HN2 := hid (bySta_no m)
 have HY1 := hid (bySym_yes m)
 have HY2 := hid (bySta_yes m)
 have HZ1 : Hid (∀ i, m.bySym 0 i = false) := hid m.bySym_zero
 have HZ2 : Hid (∀ i, m.bySta 0 i = false) := hid m.bySta_zero
 rw [hC]
 clear hC g2 ok hal
 have hmk : ∀ W : World, (Instr.makeSlice 38 (.int .i64 (n2 : Int)) (.int .i64 (n2 : Int))).run Try.prog W = .ok (.slice (some ⟨W.heap.size, 0, none⟩) n2 n2) (W.alloc (.cells (madeCells #[.bool false] n2) 4)) :=
  fun W => run_make_row' 38 4 (.bool false) 1 Try.underlying38 (by kernel_rfl) rfl _ _ n2 (by omega) (by omega) W
 generalize m.bySym = Fs at *
 generalize m.bySta = Ft at *
 generalize m.alone = Fa at *
 generalize m.sec = Se at *
 generalize m.secs = L at *
 have zn : IntKind.u64.wrap (n2 : Int) = (n2 : Int) := by rw [IntKind.wrap_u64]; omega
 go_enter Try.func28, Try.ntmps28
 go_wp2_with fail
 generalize hW : World.alloc _ _ = W0
 obtain ⟨b1, hg0⟩ := blk1 hW
 clear hW
 have HB0 := hid b1.drew
 have HG0 : Hid (Grow w W0.drew) := hid (hg0.trans (Grow.of_drew _))
 obtain ⟨gm, hgm⟩ : ∃ g, g = w.heap.size := ⟨_, rfl⟩
 rw [← hgm] at HB0 ⊢
 clear b1 hg0 hgm
 refine wp_region_fork [(0, true), (1, true), (2, true), (4, true), (5, true), (6, true)] 3 [(8, true), (7, false), (9, true)] 7 [(3, false), (8, true), (9, true)] (by kernel_rfl) (by kernel_rfl) (by kernel_rfl) ?_
 generalize W0.drew = v0 at HB0 HG0 ⊢
 have q9 : ∀ W, Grow v0 W → W.cell? ⟨gm, 9, none⟩ = some (.slice A2 n2 c2) := fun W hW => (HB0.out.grow hW).at 9
 repeat ((first | (refine chain_take rfl (by rfl) ?_ (fun W hG => ?_) ?_; rotate_left; (go_simp; rfl)) | refine chain_skip rfl (by rfl) ?_); simp only [Act.put, List.setIfInBounds_toArray, List.set_cons_zero, List.set_cons_succ])
 clear q9
 have HR1 := hid (bools_new v0 4 n2)
 have HG1 := hid (Grow.of_alloc v0 (.cells (madeCells #[.bool false] n2) 4))
 refine chain_done ⟨step_op rfl (by rfl) (fun K hK => ?_), step_op rfl (by rfl) (fun K hK => ?_)⟩
 all_goals
  go_simp
  refine hK _ _ (Grow.of_alloc _ _) ?_
  clear hK K
  generalize hg : v0.heap.size = g1 at HR1 ⊢
  have HE1 := hid hg
  clear hg
  generalize hv1 : v0.alloc (.cells (madeCells #[.bool false] n2) 4) = v1 at HR1 HG1 ⊢
  have HV1 := hid hv1
  clear hv1
  repeat ((first | (refine chain_take rfl (by rfl) ?_ (fun W hG => ?_) ?_; rotate_left; (go_simp; rfl)) | refine chain_skip rfl (by rfl) ?_); simp only [Act.put, List.setIfInBounds_toArray, List.set_cons_zero, List.set_cons_succ])
  refine chain_only rfl (by rfl) (fun K hK => ?_)
  go_simp
  refine hK _ _ (Grow.of_alloc _ _) ?_
  clear hK K
  have HR2 := hid (bools_new v1 4 n2)
  have HR1b := hid (bools_alloc HR1.out (.cells (madeCells #[.bool false] n2) 4))
  have HG2 : Hid (Grow v0 (v1.alloc (.cells (madeCells #[.bool false] n2) 4))) := hid (HG1.out.trans (Grow.of_alloc _ _))
  have HLt : Hid (v0.heap.size ≤ g1 ∧ v0.heap.size ≤ v1.heap.size ∧ g1 < v1.heap.size) := hid ⟨by have := HE1.out; omega, HG1.out.size, HR1.out.lt⟩
  clear HR1
  generalize v1.alloc (.cells (madeCells #[.bool false] n2) 4) = v2 at HR1b HR2 HG2 ⊢
  generalize v1.heap.size = g2 at HR2 HLt ⊢
  clear HE1 HV1 HG1 hmk
  repeat ((first | (refine chain_take rfl (by rfl) ?_ (fun W hG => ?_) ?_; rotate_left; (go_simp; rfl)) | refine chain_skip rfl (by rfl) ?_); simp only [Act.put, List.setIfInBounds_toArray, List.set_cons_zero, List.set_cons_succ])
  refine chain_done ?_
 ·have HRa := hid HR1b.out
  have HRb := hid HR2.out
  have HNe : Hid (g1 ≠ g2 ∧ v0.heap.size ≤ g1 ∧ v0.heap.size ≤ g2) := hid (by have := HLt.out; omega)
  clear HR1b HR2 HLt
  generalize g1 = ga at HRa HNe ⊢
  generalize g2 = gb at HRb HNe ⊢
  have HB2 := hid (HB0.out.grow HG2.out)
  have y9 : v2.cell? ⟨gm, 9, none⟩ = some (.slice A2 n2 c2) := HB2.out.at 9
  go_wp2_with fail
  clear y9
  go_loopw [20] (fun i wr => ∃ k : Nat, k ≤ n2 ∧ i = .int .i64 k ∧ wr.rowIs ga 4 n2 (bvl (Fs k)) ∧ wr.rowIs gb 4 n2 (bvl (Ft k)) ∧ Grow v0 wr) (fun i _ => n2 - (intOf i).toNat)
  case atStart => exact ⟨0, Nat.zero_le _, rfl, HRa.out.congr fun i _ => by unfold bvl; rw [HZ1.out], HRb.out.congr fun i _ => by unfold bvl; rw [HZ2.out], HG2.out⟩
  case round =>
   obtain ⟨k, hk, rfl, hra, hrb, hg⟩ := hrel
   have HRa := hid hra
   have HRb := hid hrb
   have HGw := hid hg
   clear HG2 hra hrb hg
   by_cases hlt : k < n2
   ·have hkl : k < L.length := by rw [← HL.out]; exact hlt
    obtain ⟨b, off, hAA, hb⟩ := HZ.out.pos (by omega)
    subst hAA
    obtain ⟨Ak, nk, ck, -, p, -⟩ := HZ.out.at hkl
    have p' : ∀ i v, (seC L[k] (.slice Ak nk ck))[i]? = some v → wr.cell? ⟨b, off + k * 13 + i, none⟩ = some v := fun i v hv => (Below.cell (HG0.out.trans HGw.out) hb).trans (p i v hv)
    have HSk := hid (HX.out k hkl)
    have hlk := (HOk.out _ (List.getElem_mem hkl)).link
    unfold seC at p'
    generalize L[k] = s at p' HSk hlk
    clear hb p hkl
    have s0 : wr.cell? ⟨b, off + k * 13, none⟩ = _ := p' 0 _ rfl
    have s1 : wr.cell? ⟨b, off + k * 13 + 1, none⟩ = _ := p' 1 _ rfl
    have s2 : wr.cell? ⟨b, off + k * 13 + 2, none⟩ = _ := p' 2 _ rfl
    have s3 : wr.cell? ⟨b, off + k * 13 + 3, none⟩ = _ := p' 3 _ rfl
    have s4 : wr.cell? ⟨b, off + k * 13 + 4, none⟩ = _ := p' 4 _ rfl
    have s5 : wr.cell? ⟨b, off + k * 13 + 5, none⟩ = _ := p' 5 _ rfl
    have s6 : wr.cell? ⟨b, off + k * 13 + 6, none⟩ = _ := p' 6 _ rfl
    have s7 : wr.cell? ⟨b, off + k * 13 + 7, none⟩ = _ := p' 7 _ rfl
    have s8 : wr.cell? ⟨b, off + k * 13 + 8, none⟩ = _ := p' 8 _ rfl
    have s9 : wr.cell? ⟨b, off + k * 13 + 9, none⟩ = _ := p' 9 _ rfl
    have s10 : wr.cell? ⟨b, off + k * 13 + 10, none⟩ = _ := p' 10 _ rfl
    have s11 : wr.cell? ⟨b, off + k * 13 + 11, none⟩ = _ := p' 11 _ rfl
    have s12 : wr.cell? ⟨b, off + k * 13 + 12, none⟩ = _ := p' 12 _ rfl
    clear p'
    have w0 : (0 : Int) ≤ (k : Int) := by omega
    have w1' : (k : Int) < (n2 : Int) := by omega
    have d1 : decide ((k : Int) < (n2 : Int)) = true := decide_eq_true (by omega)
    have y9 : ∀ o, (wr.alloc o).cell? ⟨gm, 9, none⟩ = some (.slice (some ⟨b, off, none⟩) n2 c2) := fun o => ((HB0.out.grow HGw.out).alloc o).at 9
    by_cases hfar : (Se k).link = 0 ∨ n2 < (Se k).link
    ·have HRa2 := hid (HRa.out.congr (g := bvl (Fs (k + 1))) fun i hi => by unfold bvl; rw [HF1.out k n2 hfar i hi])
     have HRb2 := hid (HRb.out.congr (g := bvl (Ft (k + 1))) fun i hi => by unfold bvl; rw [HF2.out k n2 hfar i hi])
     have HRa3 := hid (fun o => bools_alloc HRa2.out o)
     have HRb3 := hid (fun o => bools_alloc HRb2.out o)
     have HG3 := hid (fun o => HGw.out.trans (Grow.of_alloc wr o))
     clear HRa HRb HRa2 HRb2
     rw [HSk.out] at hfar
     generalize s.link = lk at *
     by_cases h0 : lk = 0
     ·have e0 : ((lk : Int) == 0) = true := by simp [h0]
      clear h0 hfar hlk
      go_wp2
      go_roundw
      case rel => exact ⟨k + 1, by omega, by go_num, HRa3.out _, HRb3.out _, HG3.out _⟩
      case measure => simp [intOf]; omega
     ·have hf : n2 < lk := by omega
      have e0 : ((lk : Int) == 0) = false := by simp; omega
      have e1 : decide ((n2 : Int) < (lk : Int)) = true := decide_eq_true (by omega)
      have e1' : decide (n2 < lk) = true := decide_eq_true hf
      have e2 : IntKind.u64.wrap (lk : Int) = (lk : Int) := by rw [IntKind.wrap_u64]; omega
      clear h0 hfar hlk hf
      go_wp2
      go_roundw
      case rel => exact ⟨k + 1, by omega, by go_num, HRa3.out _, HRb3.out _, HG3.out _⟩
      case measure => simp [intOf]; omega
    ·obtain ⟨t, ht⟩ : ∃ t, (Se k).link = t + 1 := ⟨(Se k).link - 1, by omega⟩
     have htn : t < n2 := by omega
     have HHt := hid ht
     have HT := hid (show s.typ = (Se k).typ by rw [HSk.out])
     rw [show s.link = t + 1 by rw [← HSk.out]; exact ht] at s5
     have e0 : ((t : Int) + 1 == 0) = false := by simp; omega
     have e1 : decide ((n2 : Int) < (t : Int) + 1) = false := decide_eq_false (by omega)
     have e2 : IntKind.u64.wrap ((t : Int) + 1) = (t : Int) + 1 := by rw [IntKind.wrap_u64]; omega
     have e3 : IntKind.u32.wrap (t : Int) = (t : Int) := by rw [IntKind.wrap_u32]; omega
     have w2 : (0 : Int) ≤ (t : Int) := by omega
     have w3 : (t : Int) < (n2 : Int) := by omega
     clear hfar ht hlk HSk
     have qa : ∀ o, (wr.alloc o).cell? ⟨gl, k, none⟩ = some (.bool (Fa k)) := fun o => (bools_alloc (bools_grow HAl.out (HG0.out.trans HGw.out)) o).cell hlt
     cases hQ : Fa k with
     | false =>
      rw [hQ] at qa
      have rb : ∀ o, (wr.alloc o).cell? ⟨gb, t, none⟩ = some (.bool (Ft k t)) := fun o => (bools_alloc HRb.out o).cell htn
      have fb : ∀ o, (wr.alloc o).frozen? ⟨gb, t, none⟩ = false := fun o => (bools_alloc HRb.out o).frozen t
      have HRa3 := hid (fun o => bools_other (g2 := gb) (k := t) (bools_alloc (HRa.out.congr (g := bvl (Fs (k + 1))) fun i hi => by unfold bvl; rw [HN1.out k i (by rw [hQ]; rfl)]) o) HNe.out.1 (.bool true))
      have HRb3 := hid (fun o => ((bools_alloc HRb.out o).set t (.bool true)).congr (g := bvl (Ft (k + 1))) fun i _ => HY2.out k t i HHt.out hQ)
      have HG3 := hid (fun o => (HGw.out.trans (Grow.of_alloc wr o)).cellset HNe.out.2.2 t (.bool true))
      clear hQ
      go_wp2
      go_roundw
      case rel => exact ⟨k + 1, by omega, by go_num, HRa3.out _, HRb3.out _, HG3.out _⟩
      case measure => simp [intOf]; omega
     | true =>
      rw [hQ] at qa
      by_cases hty : s.typ = 2
      ·have e4 : ((s.typ : Int) == 2) = true := by simp [hty]
       have hyes : (Fa k && decide ((Se k).typ = 2)) = true := by rw [hQ, ← HT.out, hty]; rfl
       have ra : ∀ o, (wr.alloc o).cell? ⟨ga, t, none⟩ = some (.bool (Fs k t)) := fun o => (bools_alloc HRa.out o).cell htn
       have fa : ∀ o, (wr.alloc o).frozen? ⟨ga, t, none⟩ = false := fun o => (bools_alloc HRa.out o).frozen t
       have HRb3 := hid (fun o => bools_other (g2 := ga) (k := t) (bools_alloc (HRb.out.congr (g := bvl (Ft (k + 1))) fun i hi => by unfold bvl; rw [HN2.out k i hQ]) o) (Ne.symm HNe.out.1) (.bool true))
       have HRa3 := hid (fun o => ((bools_alloc HRa.out o).set t (.bool true)).congr (g := bvl (Fs (k + 1))) fun i _ => HY1.out k t i HHt.out hyes)
       have HG3 := hid (fun o => (HGw.out.trans (Grow.of_alloc wr o)).cellset HNe.out.2.1 t (.bool true))
       clear hQ hyes hty
       go_wp2
       go_roundw
       case rel => exact ⟨k + 1, by omega, by go_num, HRa3.out _, HRb3.out _, HG3.out _⟩
       case measure => simp [intOf]; omega
      ·have e4 : ((s.typ : Int) == 2) = false := by simp; omega
       have hno : (Fa k && decide ((Se k).typ = 2)) = false := by rw [← HT.out]; simp [hty]
       have HRb3 := hid (fun o => bools_alloc (HRb.out.congr (g := bvl (Ft (k + 1))) fun i hi => by unfold bvl; rw [HN2.out k i hQ]) o)
       have HRa3 := hid (fun o => bools_alloc (HRa.out.congr (g := bvl (Fs (k + 1))) fun i hi => by unfold bvl; rw [HN1.out k i hno]) o)
       have HG3 := hid (fun o => HGw.out.trans (Grow.of_alloc wr o))
       clear hQ hno hty
       go_wp2
       go_roundw
       case rel => exact ⟨k + 1, by omega, by go_num, HRa3.out _, HRb3.out _, HG3.out _⟩
       case measure => simp [intOf]; omega
   ·have e : k = n2 := by omega
    subst e
    have d1 : decide ((k : Int) < (k : Int)) = false := decide_eq_false (by omega)
    go_wp2
    go_ret2
    exact ⟨ga, gb, rfl, ⟨Nat.le_trans HG0.out.size HNe.out.2.1, Nat.le_trans HG0.out.size HNe.out.2.2⟩, HRa.out, HRb.out, HG0.out.trans HGw.out⟩
 ·have HRa := hid HR2.out
  have HRb := hid HR1b.out
  have HNe : Hid (g2 ≠ g1 ∧ v0.heap.size ≤ g2 ∧ v0.heap.size ≤ g1) := hid (by have := HLt.out; omega)
  clear HR1b HR2 HLt
  generalize g2 = ga at HRa HNe ⊢
  generalize g1 = gb at HRb HNe ⊢
  have HB2 := hid (HB0.out.grow HG2.out)
  have y9 : v2.cell? ⟨gm, 9, none⟩ = some (.slice A2 n2 c2) := HB2.out.at 9
  go_wp2_with fail
  clear y9
  go_loopw [20] (fun i wr => ∃ k : Nat, k ≤ n2 ∧ i = .int .i64 k ∧ wr.rowIs ga 4 n2 (bvl (Fs k)) ∧ wr.rowIs gb 4 n2 (bvl (Ft k)) ∧ Grow v0 wr) (fun i _ => n2 - (intOf i).toNat)
  case atStart => exact ⟨0, Nat.zero_le _, rfl, HRa.out.congr fun i _ => by unfold bvl; rw [HZ1.out], HRb.out.congr fun i _ => by unfold bvl; rw [HZ2.out], HG2.out⟩
  case round =>
   obtain ⟨k, hk, rfl, hra, hrb, hg⟩ := hrel
   have HRa := hid hra
   have HRb := hid hrb
   have HGw := hid hg
   clear HG2 hra hrb hg
   by_cases hlt : k < n2
   ·have hkl : k < L.length := by rw [← HL.out]; exact hlt
    obtain ⟨b, off, hAA, hb⟩ := HZ.out.pos (by omega)
    subst hAA
    obtain ⟨Ak, nk, ck, -, p, -⟩ := HZ.out.at hkl
    have p' : ∀ i v, (seC L[k] (.slice Ak nk ck))[i]? = some v → wr.cell? ⟨b, off + k * 13 + i, none⟩ = some v := fun i v hv => (Below.cell (HG0.out.trans HGw.out) hb).trans (p i v hv)
    have HSk := hid (HX.out k hkl)
    have hlk := (HOk.out _ (List.getElem_mem hkl)).link
    unfold seC at p'
    generalize L[k] = s at p' HSk hlk
    clear hb p hkl
    have s0 : wr.cell? ⟨b, off + k * 13, none⟩ = _ := p' 0 _ rfl
    have s1 : wr.cell? ⟨b, off + k * 13 + 1, none⟩ = _ := p' 1 _ rfl
    have s2 : wr.cell? ⟨b, off + k * 13 + 2, none⟩ = _ := p' 2 _ rfl
    have s3 : wr.cell? ⟨b, off + k * 13 + 3, none⟩ = _ := p' 3 _ rfl
    have s4 : wr.cell? ⟨b, off + k * 13 + 4, none⟩ = _ := p' 4 _ rfl
    have s5 : wr.cell? ⟨b, off + k * 13 + 5, none⟩ = _ := p' 5 _ rfl
    have s6 : wr.cell? ⟨b, off + k * 13 + 6, none⟩ = _ := p' 6 _ rfl
    have s7 : wr.cell? ⟨b, off + k * 13 + 7, none⟩ = _ := p' 7 _ rfl
    have s8 : wr.cell? ⟨b, off + k * 13 + 8, none⟩ = _ := p' 8 _ rfl
    have s9 : wr.cell? ⟨b, off + k * 13 + 9, none⟩ = _ := p' 9 _ rfl
    have s10 : wr.cell? ⟨b, off + k * 13 + 10, none⟩ = _ := p' 10 _ rfl
    have s11 : wr.cell? ⟨b, off + k * 13 + 11, none⟩ = _ := p' 11 _ rfl
    have s12 : wr.cell? ⟨b, off + k * 13 + 12, none⟩ = _ := p' 12 _ rfl
    clear p'
    have w0 : (0 : Int) ≤ (k : Int) := by omega
    have w1' : (k : Int) < (n2 : Int) := by omega
    have d1 : decide ((k : Int) < (n2 : Int)) = true := decide_eq_true (by omega)
    have y9 : ∀ o, (wr.alloc o).cell? ⟨gm, 9, none⟩ = some (.slice (some ⟨b, off, none⟩) n2 c2) := fun o => ((HB0.out.grow HGw.out).alloc o).at 9
    by_cases hfar : (Se k).link = 0 ∨ n2 < (Se k).link
    ·have HRa2 := hid (HRa.out.congr (g := bvl (Fs (k + 1))) fun i hi => by unfold bvl; rw [HF1.out k n2 hfar i hi])
     have HRb2 := hid (HRb.out.congr (g := bvl (Ft (k + 1))) fun i hi => by unfold bvl; rw [HF2.out k n2 hfar i hi])
     have HRa3 := hid (fun o => bools_alloc HRa2.out o)
     have HRb3 := hid (fun o => bools_alloc HRb2.out o)
     have HG3 := hid (fun o => HGw.out.trans (Grow.of_alloc wr o))
     clear HRa HRb HRa2 HRb2
     rw [HSk.out] at hfar
     generalize s.link = lk at *
     by_cases h0 : lk = 0
     ·have e0 : ((lk : Int) == 0) = true := by simp [h0]
      clear h0 hfar hlk
      go_wp2
      go_roundw
      case rel => exact ⟨k + 1, by omega, by go_num, HRa3.out _, HRb3.out _, HG3.out _⟩
      case measure => simp [intOf]; omega
     ·have hf : n2 < lk := by omega
      have e0 : ((lk : Int) == 0) = false := by simp; omega
      have e1 : decide ((n2 : Int) < (lk : Int)) = true := decide_eq_true (by omega)
      have e1' : decide (n2 < lk) = true := decide_eq_true hf
      have e2 : IntKind.u64.wrap (lk : Int) = (lk : Int) := by rw [IntKind.wrap_u64]; omega
      clear h0 hfar hlk hf
      go_wp2
      go_roundw
      case rel => exact ⟨k + 1, by omega, by go_num, HRa3.out _, HRb3.out _, HG3.out _⟩
      case measure => simp [intOf]; omega
    ·obtain ⟨t, ht⟩ : ∃ t, (Se k).link = t + 1 := ⟨(Se k).link - 1, by omega⟩
     have htn : t < n2 := by omega
     have HHt := hid ht
     have HT := hid (show s.typ = (Se k).typ by rw [HSk.out])
     rw [show s.link = t + 1 by rw [← HSk.out]; exact ht] at s5
     have e0 : ((t : Int) + 1 == 0) = false := by simp; omega
     have e1 : decide ((n2 : Int) < (t : Int) + 1) = false := decide_eq_false (by omega)
     have e2 : IntKind.u64.wrap ((t : Int) + 1) = (t : Int) + 1 := by rw [IntKind.wrap_u64]; omega
     have e3 : IntKind.u32.wrap (t : Int) = (t : Int) := by rw [IntKind.wrap_u32]; omega
     have w2 : (0 : Int) ≤ (t : Int) := by omega
     have w3 : (t : Int) < (n2 : Int) := by omega
     clear hfar ht hlk HSk
     have qa : ∀ o, (wr.alloc o).cell? ⟨gl, k, none⟩ = some (.bool (Fa k)) := fun o => (bools_alloc (bools_grow HAl.out (HG0.out.trans HGw.out)) o).cell hlt
     cases hQ : Fa k with
     | false =>
      rw [hQ] at qa
      have rb : ∀ o, (wr.alloc o).cell? ⟨gb, t, none⟩ = some (.bool (Ft k t)) := fun o => (bools_alloc HRb.out o).cell htn
      have fb : ∀ o, (wr.alloc o).frozen? ⟨gb, t, none⟩ = false := fun o => (bools_alloc HRb.out o).frozen t
      have HRa3 := hid (fun o => bools_other (g2 := gb) (k := t) (bools_alloc (HRa.out.congr (g := bvl (Fs (k + 1))) fun i hi => by unfold bvl; rw [HN1.out k i (by rw [hQ]; rfl)]) o) HNe.out.1 (.bool true))
      have HRb3 := hid (fun o => ((bools_alloc HRb.out o).set t (.bool true)).congr (g := bvl (Ft (k + 1))) fun i _ => HY2.out k t i HHt.out hQ)
      have HG3 := hid (fun o => (HGw.out.trans (Grow.of_alloc wr o)).cellset HNe.out.2.2 t (.bool true))
      clear hQ
      go_wp2
      go_roundw
      case rel => exact ⟨k + 1, by omega, by go_num, HRa3.out _, HRb3.out _, HG3.out _⟩
      case measure => simp [intOf]; omega
     | true =>
      rw [hQ] at qa
      by_cases hty : s.typ = 2
      ·have e4 : ((s.typ : Int) == 2) = true := by simp [hty]
       have hyes : (Fa k && decide ((Se k).typ = 2)) = true := by rw [hQ, ← HT.out, hty]; rfl
       have ra : ∀ o, (wr.alloc o).cell? ⟨ga, t, none⟩ = some (.bool (Fs k t)) := fun o => (bools_alloc HRa.out o).cell htn
       have fa : ∀ o, (wr.alloc o).frozen? ⟨ga, t, none⟩ = false := fun o => (bools_alloc HRa.out o).frozen t
       have HRb3 := hid (fun o => bools_other (g2 := ga) (k := t) (bools_alloc (HRb.out.congr (g := bvl (Ft (k + 1))) fun i hi => by unfold bvl; rw [HN2.out k i hQ]) o) (Ne.symm HNe.out.1) (.bool true))
       have HRa3 := hid (fun o => ((bools_alloc HRa.out o).set t (.bool true)).congr (g := bvl (Fs (k + 1))) fun i _ => HY1.out k t i HHt.out hyes)
       have HG3 := hid (fun o => (HGw.out.trans (Grow.of_alloc wr o)).cellset HNe.out.2.1 t (.bool true))
       clear hQ hyes hty
       go_wp2
       go_roundw
       case rel => exact ⟨k + 1, by omega, by go_num, HRa3.out _, HRb3.out _, HG3.out _⟩
       case measure => simp [intOf]; omega
      ·have e4 : ((s.typ : Int) == 2) = false := by simp; omega
       have hno : (Fa k && decide ((Se k).typ = 2)) = false := by rw [← HT.out]; simp [hty]
       have HRb3 := hid (fun o => bools_alloc (HRb.out.congr (g := bvl (Ft (k + 1))) fun i hi => by unfold bvl; rw [HN2.out k i hQ]) o)
       have HRa3 := hid (fun o => bools_alloc (HRa.out.congr (g := bvl (Fs (k + 1))) fun i hi => by unfold bvl; rw [HN1.out k i hno]) o)
       have HG3 := hid (fun o => HGw.out.trans (Grow.of_alloc wr o))
       clear hQ hno hty
       go_wp2
       go_roundw
       case rel => exact ⟨k + 1, by omega, by go_num, HRa3.out _, HRb3.out _, HG3.out _⟩
       case measure => simp [intOf]; omega
   ·have e : k = n2 := by omega
    subst e
    have d1 : decide ((k : Int) < (k : Int)) = false := decide_eq_false (by omega)
    go_wp2
    go_ret2
    exact ⟨ga, gb, rfl, ⟨Nat.le_trans HG0.out.size HNe.out.2.1, Nat.le_trans HG0.out.size HNe.out.2.2⟩, HRa.out, HRb.out, HG0.out.trans HGw.out⟩
set_option maxRecDepth 100000
set_option linter.unusedVariables false
def Md.goTo (m : Md) (k i : Nat) : Bool := if i < k then m.goes i else m.alone i
theorem goTo_zero (m : Md) (i : Nat) : m.goTo 0 i = m.alone i := by unfold Md.goTo; rw [if_neg (by omega)]
theorem goTo_all (m : Md) (n i : Nat) (h : i < n) : m.goTo n i = m.goes i := by unfold Md.goTo; rw [if_pos h]
theorem goTo_same (m : Md) (k i : Nat) (h : m.byLnk k = false) : m.goTo (k + 1) i = m.goTo k i := by
 unfold Md.goTo
 by_cases e : i = k
 ·subst e
  rw [if_pos (by omega), if_neg (by omega), Md.goes, h, Bool.or_false]
 ·by_cases e2 : i < k
  ·rw [if_pos (by omega), if_pos e2]
  ·rw [if_neg (by omega), if_neg e2]
theorem goTo_set (m : Md) (k i : Nat) (h : m.byLnk k = true) : (if i = k then Value.bool true else bvl (m.goTo k) i) = bvl (m.goTo (k + 1)) i := by
 unfold bvl Md.goTo
 by_cases e : i = k
 ·subst e
  rw [if_pos rfl, if_pos (by omega), Md.goes, h, Bool.or_true]
 ·rw [if_neg e]
  by_cases e2 : i < k
  ·rw [if_pos e2, if_pos (by omega)]
  ·rw [if_neg e2, if_neg (by omega)]
set_option maxHeartbeats 8000000 in
theorem goes_any (m : Md) (ok : m.Ok) (A1 A2 : Option Addr) (n1 c1 n2 c2 : Nat) (w : World) (g1 : ZR sgK w w.heap.size A1 n1 c1 m.segs) (g2 : ZR seK w w.heap.size A2 n2 c2 m.secs) (hsm : m.strs.length ≤ 140737488355328) (hn : n2 ≤ 65536) :
  Calls Try.prog 12 #[.agg (mdC m (.slice A1 n1 c1) (.slice A2 n2 c2))] w fun e w' => ∃ g, e = .returned (.slice (some ⟨g, 0, none⟩) n2 n2) ∧ w.heap.size ≤ g ∧ w'.rowIs g 4 n2 (bvl m.goes) ∧ Grow w w' := by
 obtain ⟨x0, x1, x2, x3, x4, x5, x6, x7, x10, hC⟩ : ∃ x0 x1 x2 x3 x4 x5 x6 x7 x10 : Value, (∀ s t, mdC m s t = #[x0, x1, x2, x3, x4, x5, x6, x7, s, t, x10]) := ⟨_, _, _, _, _, _, _, _, _, fun _ _ => rfl⟩
 have HAl := hid (fun W (hW : Grow w W) => goAlone_any m ok A1 A2 n1 c1 n2 c2 W (g1.grow hW) (g2.grow hW) hsm hn)
 have HLk := hid (fun W (hW : Grow w W) gl hal => linked_any m ok (.slice A1 n1 c1) A2 n2 c2 W (g2.grow hW) hn gl hal)
 have HM := hid (fun W (hW : Grow w W) k hk => mayGo_any m ok (.slice A1 n1 c1) A2 n2 c2 W (g2.grow hW) k hk)
 have HZ := hid g2
 have HL := hid g2.len
 have hc := g2.cap
 have hm := g2.max
 unfold maxLen at hm
 have HB : Hid (∀ k (h : k < m.secs.length), m.byLnk k = (decide (m.secs[k].typ = 3) && m.mayGo k && m.bySym n2 k && !m.bySta n2 k)) := hid fun k h => by
  unfold Md.byLnk
  rw [m.sec_at h, g2.len]
 have HT0 := hid (goTo_zero m)
 have HTn := hid (goTo_all m)
 have HTs := hid (goTo_same m)
 have HTt := hid (goTo_set m)
 rw [hC] at HAl HLk HM ⊢
 clear hC g1 g2 hsm ok
 generalize m.bySym n2 = Fs at *
 generalize m.bySta n2 = Ft at *
 generalize m.alone = Fa at *
 generalize m.byLnk = Fl at *
 generalize m.goTo = Gt at *
 generalize m.goes = Gg at *
 generalize m.mayGo = G at *
 generalize m.secs = L at *
 go_enter Try.func12, Try.ntmps12
 go_wp2_with fail
 generalize hW : World.alloc _ _ = W0
 obtain ⟨b1, hg0⟩ := blk1 hW
 clear hW
 have HB0 := hid b1
 have HG0 := hid hg0
 obtain ⟨gm, hgm⟩ : ∃ g, g = w.heap.size := ⟨_, rfl⟩
 rw [← hgm] at HB0 ⊢
 clear b1 hg0 hgm
 obtain ⟨v0, v1, v2, v3, v4, v5, v6, v7, v8, v9, v10⟩ := HB0.out.c11
 go_wp2_with fail
 clear v0 v1 v2 v3 v4 v5 v6 v7 v8 v9 v10
 refine (HAl.out _ HG0.out).mono ?_
 rintro e w1 ⟨gl, rfl, hlo, hr, hg⟩
 have HG1 := hid hg
 have HRl := hid hr
 have HLo := hid hlo
 clear hr hg hlo HAl
 obtain ⟨v0, v1, v2, v3, v4, v5, v6, v7, v8, v9, v10⟩ := (HB0.out.grow HG1.out).c11
 go_wp2_with fail
 clear v0 v1 v2 v3 v4 v5 v6 v7 v8 v9 v10
 refine (HLk.out _ (HG0.out.trans HG1.out) gl HRl.out).mono ?_
 rintro e w2 ⟨ga, gb, rfl, hab, hra, hrb, hg⟩
 have HG2 : Hid (Grow W0 w2) := hid (HG1.out.trans hg)
 have HR2 := hid ((bools_grow HRl.out hg).congr (g := bvl (Gt 0)) fun i _ => by unfold bvl; rw [HT0.out])
 have HRa := hid hra
 have HRb := hid hrb
 have HNe : Hid (gl ≠ ga ∧ gl ≠ gb) := hid (by have := HRl.out.lt; omega)
 clear hra hrb hg hab HRl HLk HG1
 have y9 : w2.cell? ⟨gm, 9, none⟩ = some (.slice A2 n2 c2) := (HB0.out.grow HG2.out).at 9
 go_wp2_with fail
 clear y9
 go_loopw [19] (fun i wr => ∃ k : Nat, k ≤ n2 ∧ i = .int .i64 k ∧ wr.rowIs gl 4 n2 (bvl (Gt k)) ∧ wr.rowIs ga 4 n2 (bvl Fs) ∧ wr.rowIs gb 4 n2 (bvl Ft) ∧ Grow W0 wr) (fun i _ => n2 - (intOf i).toNat)
 case atStart => exact ⟨0, Nat.zero_le _, rfl, HR2.out, HRa.out, HRb.out, HG2.out⟩
 case round =>
  obtain ⟨k, hk, rfl, hrl, hra, hrb, hg⟩ := hrel
  have HRl := hid hrl
  have HRa := hid hra
  have HRb := hid hrb
  have HGw := hid hg
  clear HR2 HG2 hrl hra hrb hg
  by_cases hlt : k < n2
  ·have hkl : k < L.length := by rw [← HL.out]; exact hlt
   obtain ⟨b, off, hAA, hb⟩ := HZ.out.pos (by omega)
   subst hAA
   obtain ⟨Ak, nk, ck, -, p, -⟩ := HZ.out.at hkl
   have p' : ∀ i v, (seC L[k] (.slice Ak nk ck))[i]? = some v → wr.cell? ⟨b, off + k * 13 + i, none⟩ = some v := fun i v hv => (Below.cell (HG0.out.trans HGw.out) hb).trans (p i v hv)
   have HFk := hid (HB.out k hkl)
   have HMk := hid (fun W (hW : Grow w W) => HM.out W hW k hlt)
   have HS0 := hid (HTs.out k)
   have HS1 := hid (fun i => HTt.out k i)
   unfold seC at p'
   generalize L[k] = s at p' HFk
   clear hb p hkl
   generalize G k = Q at HFk HMk
   have s0 : wr.cell? ⟨b, off + k * 13, none⟩ = _ := p' 0 _ rfl
   have s1 : wr.cell? ⟨b, off + k * 13 + 1, none⟩ = _ := p' 1 _ rfl
   have s2 : wr.cell? ⟨b, off + k * 13 + 2, none⟩ = _ := p' 2 _ rfl
   have s3 : wr.cell? ⟨b, off + k * 13 + 3, none⟩ = _ := p' 3 _ rfl
   have s4 : wr.cell? ⟨b, off + k * 13 + 4, none⟩ = _ := p' 4 _ rfl
   have s5 : wr.cell? ⟨b, off + k * 13 + 5, none⟩ = _ := p' 5 _ rfl
   have s6 : wr.cell? ⟨b, off + k * 13 + 6, none⟩ = _ := p' 6 _ rfl
   have s7 : wr.cell? ⟨b, off + k * 13 + 7, none⟩ = _ := p' 7 _ rfl
   have s8 : wr.cell? ⟨b, off + k * 13 + 8, none⟩ = _ := p' 8 _ rfl
   have s9 : wr.cell? ⟨b, off + k * 13 + 9, none⟩ = _ := p' 9 _ rfl
   have s10 : wr.cell? ⟨b, off + k * 13 + 10, none⟩ = _ := p' 10 _ rfl
   have s11 : wr.cell? ⟨b, off + k * 13 + 11, none⟩ = _ := p' 11 _ rfl
   have s12 : wr.cell? ⟨b, off + k * 13 + 12, none⟩ = _ := p' 12 _ rfl
   clear p'
   have w0 : (0 : Int) ≤ (k : Int) := by omega
   have w1' : (k : Int) < (n2 : Int) := by omega
   have d1 : decide ((k : Int) < (n2 : Int)) = true := decide_eq_true (by omega)
   have HRl3 := hid (fun (h : Fl k = false) o => bools_alloc (HRl.out.congr (g := bvl (Gt (k + 1))) fun i hi => by unfold bvl; rw [HS0.out i h]) o)
   have HRa3 := hid (fun o => bools_alloc HRa.out o)
   have HRb3 := hid (fun o => bools_alloc HRb.out o)
   have HG3 := hid (fun o => HGw.out.trans (Grow.of_alloc wr o))
   by_cases hty : s.typ = 3
   ·have e4 : ((s.typ : Int) == 3) = true := by simp [hty]
    rw [decide_eq_true hty, Bool.true_and] at HFk
    clear hty
    obtain ⟨v0, v1, v2, v3, v4, v5, v6, v7, v8, v9, v10⟩ := (HB0.out.grow HGw.out).a11
    go_wp2_with fail
    clear s0 s1 s2 s3 s4 s5 s6 s7 s8 s9 s10 s11 s12 v0 v1 v2 v3 v4 v5 v6 v7 v8 v9 v10
    refine (HMk.out _ (HG0.out.trans (HG3.out _))).mono ?_
    rintro e w6 ⟨rfl, hg⟩
    have HR6 := hid (bools_grow (bools_alloc HRl.out _) hg)
    have HRa6 := hid (bools_grow (HRa3.out _) hg)
    have HRb6 := hid (bools_grow (HRb3.out _) hg)
    have HG6 := hid ((HG3.out _).trans hg)
    clear hg HRl HRa HRb HGw HRl3 HRa3 HRb3 HG3 HMk e4
    have qa := HRa6.out.cell hlt
    have qb := HRb6.out.cell hlt
    unfold bvl at qa qb
    by_cases hcd : (Q && Fs k && !Ft k) = true
    ·have hr := HR6.out.cell hlt
     have hf := HR6.out.frozen k
     have HR9 := hid ((HR6.out.set k (.bool true)).congr (g := bvl (Gt (k + 1))) fun i _ => HS1.out i (by rw [HFk.out]; exact hcd))
     have HG9 := hid (HG6.out.cellset HLo.out k (.bool true))
     have HRa9 := hid (bools_other (g2 := gl) (k := k) HRa6.out (Ne.symm HNe.out.1) (.bool true))
     have HRb9 := hid (bools_other (g2 := gl) (k := k) HRb6.out (Ne.symm HNe.out.2) (.bool true))
     simp only [Bool.and_eq_true, Bool.not_eq_true'] at hcd
     obtain ⟨⟨h1, h2⟩, h3⟩ := hcd
     rw [h2] at qa
     rw [h3] at qb
     subst h1
     clear h2 h3
     go_wp2
     go_roundw
     case rel => exact ⟨k + 1, by omega, by go_num, HR9.out, HRa9.out, HRb9.out, HG9.out⟩
     case measure => simp [intOf]; omega
    ·have hcd : (Q && Fs k && !Ft k) = false := by simpa using hcd
     have HR9 := hid (HR6.out.congr (g := bvl (Gt (k + 1))) fun i _ => by unfold bvl; rw [HS0.out i (by rw [HFk.out]; exact hcd)])
     clear HFk HS0 HS1 HTs HTt
     cases Q with
     | false =>
      clear qa qb hcd
      go_wp2
      go_roundw
      case rel => exact ⟨k + 1, by omega, by go_num, HR9.out, HRa6.out, HRb6.out, HG6.out⟩
      case measure => simp [intOf]; omega
     | true =>
      cases h2 : Fs k with
      | false =>
       rw [h2] at qa
       clear qb hcd h2
       go_wp2
       go_roundw
       case rel => exact ⟨k + 1, by omega, by go_num, HR9.out, HRa6.out, HRb6.out, HG6.out⟩
       case measure => simp [intOf]; omega
      | true =>
       rw [h2] at qa hcd
       have h3 : Ft k = true := by simpa using hcd
       rw [h3] at qb
       clear hcd h2 h3
       go_wp2
       go_roundw
       case rel => exact ⟨k + 1, by omega, by go_num, HR9.out, HRa6.out, HRb6.out, HG6.out⟩
       case measure => simp [intOf]; omega
   ·have e4 : ((s.typ : Int) == 3) = false := by simp; omega
    rw [decide_eq_false hty, Bool.false_and, Bool.false_and, Bool.false_and] at HFk
    clear hty
    go_wp2
    go_roundw
    case rel => exact ⟨k + 1, by omega, by go_num, HRl3.out HFk.out _, HRa3.out _, HRb3.out _, HG3.out _⟩
    case measure => simp [intOf]; omega
  ·have e : k = n2 := by omega
   subst e
   have d1 : decide ((k : Int) < (k : Int)) = false := decide_eq_false (by omega)
   have HRx := hid (HRl.out.congr (g := bvl Gg) fun i hi => by unfold bvl; rw [HTn.out k i hi])
   go_wp2
   go_ret
   exact ⟨gl, rfl, Nat.le_trans HG0.out.size HLo.out, HRx.out, HG0.out.trans HGw.out⟩
theorem fits_wide (wide : Bool) (v : Nat) : fits (v : Int) ((byWide wide 4 8 : Nat) : Int) = fitW wide v := by
 cases wide
 ·have h1 : wid ((byWide false 4 8 : Nat) : Int) = true := by decide
  unfold fits fitW
  rw [h1, Bool.true_and, Bool.eq_iff_iff, decide_eq_true_iff, decide_eq_true_iff]
  show (v : Int) < 256 ^ 4 ↔ v < 256 ^ 4
  omega
 ·have h1 : wid ((byWide true 4 8 : Nat) : Int) = true := by decide
  unfold fits fitW
  rw [h1, Bool.true_and, Bool.eq_iff_iff, decide_eq_true_iff, decide_eq_true_iff]
  show (v : Int) < 256 ^ 8 ↔ v < 256 ^ 8
  omega
theorem run_appendM {P : Program} (w : World) (base : Nat) (t ty e : TypeId) (k : IntKind) (bytes : Nat) (ht : P.underlying t = some (.slice e))
  (hinfo : (P.info? e).map (fun i => (i.zero, i.size, i.bytes)) = some (some (.int k 0), 1, bytes))
  (A : Option Addr) (n c : Nat) (l : List Nat) (hown : ON w base e k A n c l) (g : Nat) (t' : TypeId) (m : Nat) (y : List Nat) (hm : y.length = m) (hr : Blk w g t' (y.map (ival k)).toArray) (hm0 : 0 < m)
  (h63 : n + m ≤ maxLen) (hsz : (n + m) * bytes ≤ 140737488355328) (hbase : base ≤ w.heap.size) :
  ∃ A2 c2 w', (Builtin.append_ #[t, t] ty #[.slice A n c, .slice (some ⟨g, 0, none⟩) m m]).run P w = .ok (.slice A2 (n + m) c2) w' ∧ ON w' base e k A2 (n + m) c2 (l ++ y) ∧ Below base w w' := by
 obtain ⟨i, hi, hz, hs, hby⟩ := info_parts hinfo
 obtain ⟨v', w', hrun, h2, h3, _, _⟩ := run_append_own_at (P := P) w base t ty e i (.int k 0) 1 bytes ht hi hz hs hby rfl (by omega) _ n _ hown ⟨g, 0, none⟩ m m (y.map (ival k))
  (by simp [hm]) (fun j u hj => by
   have e2 : (⟨g, 0, none⟩ : Addr).add j = ⟨g, j, none⟩ := by unfold Addr.add; split <;> simp_all
   rw [e2, hr.at]
   simpa using hj) (by intro u hu; obtain ⟨x, _, rfl⟩ := List.mem_map.1 hu; rfl) h63 hsz hbase
 have hv : ∃ A2 c2, v' = .slice A2 (n + m) c2 := by
  rcases h2.2 with ⟨h0, h1⟩ | ⟨g, cap, cur, h0, _⟩
  ·omega
  ·exact ⟨_, _, h0⟩
 obtain ⟨A2, c2, rfl⟩ := hv
 exact ⟨A2, c2, w', hrun, by rw [ON, List.map_append]; exact h2, (Below.refl base w).grown h3 hbase fun k hk => (World.ownsRow.lt hown k hk).1⟩
theorem wpList_appendM {P : Program} (w : World) {ops : Array Oper} {rest : List Oper} {o : Oper} {a : Act} {Q : Exit → Act → World → Prop} (hgd : o.guard = none) (s x : Operand) (t : TypeId)
  (ho : o.op = .call { callee := .builtin .append, args := #[s, x], argTypes := #[t, t] })
  (base : Nat) (e : TypeId) (k : IntKind) (bytes : Nat) (ht : P.underlying t = some (.slice e)) (hinfo : (P.info? e).map (fun i => (i.zero, i.size, i.bytes)) = some (some (.int k 0), 1, bytes))
  (A : Option Addr) (n c : Nat) (l : List Nat) (hs : a.eval s = .slice A n c) (hown : ON w base e k A n c l)
  (g : Nat) (t' : TypeId) (m : Nat) (y : List Nat) (hm : y.length = m) (hx : a.eval x = .slice (some ⟨g, 0, none⟩) m m) (hr : Blk w g t' (y.map (ival k)).toArray) (hm0 : 0 < m)
  (h63 : n + m ≤ maxLen) (hsz : (n + m) * bytes ≤ 140737488355328) (hbase : base ≤ w.heap.size)
  (h : ∀ A2 c2 w', ON w' base e k A2 (n + m) c2 (l ++ y) → Below base w w' → wpList P ops Q rest (a.put o.dst (.slice A2 (n + m) c2)) w') : wpList P ops Q (o :: rest) a w := by
 refine wpList_plain hgd fun K hK => ?_
 obtain ⟨A2, c2, w', hrun, h2, h3⟩ := run_appendM (P := P) w base t o.type e k bytes ht hinfo A n c l hown g t' m y hm hr hm0 h63 hsz hbase
 unfold Oper.wp execOp
 simp only [ho, resolve, invoke, builtin, Sem.run_bind, Sem.run_pure, Result.andThen_ok, List.map_toArray, List.map_cons, List.map_nil, hs, hx, hrun]
 exact hK _ _ (h A2 c2 w' h2 h3)
theorem ON.of_blk {w : World} {base g : Nat} {e : TypeId} {k : IntKind} {l : List Nat} (h : Blk w g e (l.map (ival k)).toArray) (hb : base ≤ g) (hm : l.length ≤ maxLen) : ON w base e k (some ⟨g, 0, none⟩) l.length l.length l :=
 ⟨by simp, .inr ⟨g, l.length, (l.map (ival k)).toArray, rfl, hb, h, Nat.le_refl _, hm, by simp, by simp [List.take_of_length_le]⟩⟩
theorem loads_lt {l : List Sg} (ok : ∀ s ∈ l, s.Ok) : ∀ x ∈ loads l, x.1 < 18446744073709551616 ∧ x.2 < 18446744073709551616 := fun x hx => by
 obtain ⟨s, hs, _, rfl⟩ := mem_loads hx
 exact ⟨(ok s hs).vaddr, (ok s hs).memsz⟩
end Go.Proofs.Ytfbimboemahhhaa
