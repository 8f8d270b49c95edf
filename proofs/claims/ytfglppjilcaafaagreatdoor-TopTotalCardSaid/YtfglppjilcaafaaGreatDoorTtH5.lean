/-
  Several texts in one: The contract of (line).
-/
import Derived.Test.YtfglppjilcaafaaGreatDoorTtH4
namespace Go.Proofs.YtfglppjilcaafaaGreatDoor
open Go.Lib (hid)
open Go.RowKit
def mixP (m : Md) (k j : Nat) : Nat := if j < k then m.P2 j else m.P1 j
theorem mix_zero (m : Md) : mixP m 0 = m.P1 := by funext j; unfold mixP; rw [if_neg (by omega)]
theorem mix_keep (m : Md) (k : Nat) (h : (m.sg k).typ = 1) : mixP m (k + 1) = mixP m k := by
 funext j
 unfold mixP
 by_cases e : j = k
 ·subst e
  rw [if_pos (by omega), if_neg (by omega)]
  unfold Md.P2
  rw [if_pos h]
 ·by_cases e2 : j < k
  ·rw [if_pos (by omega), if_pos e2]
  ·rw [if_neg (by omega), if_neg e2]
theorem mix_set (m : Md) (k j : Nat) : (if j = k then Value.int .u64 (m.P2 k : Int) else ivl .u64 (mixP m k) j) = ivl .u64 (mixP m (k + 1)) j := by
 unfold ivl mixP
 by_cases e : j = k
 ·subst e
  rw [if_pos rfl, if_pos (by omega)]
 ·rw [if_neg e]
  by_cases h : j < k
  ·rw [if_pos h, if_pos (by omega)]
  ·rw [if_neg h, if_neg (by omega)]
theorem mix_all {w : World} {m : Md} {g n : Nat} (h : Row w g n (mixP m n)) : Row w g n m.P2 :=
 World.rowIs.congr h fun i hi => by unfold ivl mixP; rw [if_pos hi]
theorem mix_loaded (m : Md) (k i : Nat) (h : (m.sg i).typ = 1) : mixP m k i = m.P1 i := by
 unfold mixP
 split
 ·unfold Md.P2; rw [if_pos h]
 ·rfl
theorem upTo_skip (m : Md) (k : Nat) (h : (m.sg k).typ ≠ 1) : upTo m.P1 (k + 1) = upTo m.P1 k := by
 funext j
 unfold upTo
 by_cases e : j = k
 ·subst e
  rw [if_pos (by omega), if_neg (by omega)]
  unfold Md.P1
  rw [if_neg h]
 ·by_cases e2 : j < k
  ·rw [if_pos (by omega), if_pos e2]
  ·rw [if_neg (by omega), if_neg e2]
structure SgP (m : Md) (n k : Nat) : Prop where
 align : (m.sg k).align < 18446744073709551616
 ones : ones (m.sg k).align ≤ 1
 size : (m.sg k).pl.size < 9223372036854775808
 pl : (m.sg k).typ ≠ 1 → (m.sg k).pl.inn = -1 ∨ (∃ i : Nat, (m.sg k).pl.inn = (i : Int) ∧ i < n ∧ (m.sg i).typ = 1 ∧ (m.sg k).pl.off < 9223372036854775808)
theorem Md.plc2 (m : Md) (n k : Nat) (h : SgP m n k) (ht : (m.sg k).typ ≠ 1) : PlcR (mixP m k) n (m.eO k) (m.sg k).pl (m.P2 k) (m.eO (k + 1)) := by
 rcases h.pl ht with h | ⟨i, h, hi, hty, hl⟩
 ·refine .inl ⟨h, ?_, ?_⟩
  ·unfold Md.P2; rw [if_neg ht, if_pos h]
  ·rw [Md.eO, if_neg ht, if_pos h]
 ·have hne : ¬ ((m.sg k).pl.inn = -1) := by omega
  have e : m.P2 k = m.P1 i + (m.sg k).pl.off := by unfold Md.P2; rw [if_neg ht, if_neg hne, h]; rfl
  have hl1 := m.P1_le i
  exact .inr ⟨i, h, hi, by rw [e, mix_loaded m k i hty], by rw [e]; omega, by rw [Md.eO, if_neg ht, if_neg hne]⟩
theorem Md.add1 (m : Md) (k : Nat) (ht : (m.sg k).typ = 1) : plc (m.eL k) (m.sg k).vaddr (m.sg k).align = m.P1 k ∧ fin (m.eL k) (m.sg k).vaddr (m.sg k).align (m.sg k).pl.size = m.eL (k + 1) := by
 constructor
 ·unfold Md.P1; rw [if_pos ht]
 ·rw [Md.eL, if_pos ht]
set_option maxHeartbeats 4000000 in
theorem segs_any (m : Md) (g B : Nat) (A1 : Option Addr) (n1 c1 : Nat) (w : World) (h : Ln w g m.e1) (hle : ∀ k, m.eL k ≤ 65537) (hlo : ∀ k, m.eO k ≤ 65537) (hz : ZR sgK w B A1 n1 c1 m.segs) (hB : B ≤ g)
  (hpl : ∀ k, k < n1 → SgP m n1 k) (hn1 : n1 ≤ 1000) :
  Calls Tryz.prog 107 #[.pointer (some ⟨g, 0, none⟩), .slice A1 n1 c1] w fun en w' =>
   ∃ ga, en = .returned (.slice (some ⟨ga, 0, none⟩) n1 n1) ∧ w.heap.size ≤ ga ∧ Row w' ga n1 m.P2 ∧ Ln w' g (m.eO n1) ∧ w.grownBy w' (some g) := by
 have hmk : ∀ W : World, (Instr.makeSlice 36 (.int .i64 (n1 : Int)) (.int .i64 (n1 : Int))).run Tryz.prog W = .ok (.slice (some ⟨W.heap.size, 0, none⟩) n1 n1) (W.alloc (.cells (madeCells #[.int .u64 0] n1) 28)) :=
  fun W => run_make_row' 36 28 (.int .u64 0) 8 Tryz.underlying36 (by kernel_rfl) rfl _ _ n1 (by omega) (by omega) W
 have HPl := hid hpl
 have HLe := hid hle
 have HLo := hid hlo
 have HR := hid (rows_new w n1 m.P1)
 have HG := hid (grown_grow (Grow.of_alloc w (.cells (madeCells #[.int .u64 0] n1) 28)) (some g))
 have HL0 : Hid (Ln (w.alloc (.cells (madeCells #[.int .u64 0] n1) 28)) g (m.eL 0)) := hid (Blk.alloc h _)
 have hgl : g < w.heap.size := Blk.lt h
 have HZ := hid hz
 have HLn := hid hz.len
 have hzc := hz.cap
 have hzm := hz.max
 unfold maxLen at hzm
 have HB := hid hB
 have HN1 := hid hn1
 have HGl := hid hgl
 have HOe : Hid (m.eO 0 = m.eL n1) := hid (by rw [HLn.out]; rfl)
 clear h hle hlo hz hB hpl hgl
 go_enter Tryz.func107, Tryz.ntmps107
 go_wp2_with fail
 clear hmk
 obtain ⟨ga, hga⟩ : ∃ ga, ga = w.heap.size := ⟨_, rfl⟩
 rw [← hga] at HR ⊢
 have HGa := hid hga
 have HNe := hid (show some ga ≠ some g from fun e => by have := Option.some.inj e; have h1 := HGl.out; have h2 := HGa.out; omega)
 generalize World.alloc _ _ = W0 at HR HG HL0 ⊢
 clear hga
 go_loopw [15] (fun i wr => ∃ k : Nat, k ≤ n1 ∧ i = .int .i64 k ∧ Row wr ga n1 (upTo m.P1 k) ∧ Ln wr g (m.eL k) ∧ w.grownBy wr (some g)) (fun i _ => n1 - (intOf i).toNat)
 case atStart => exact ⟨0, by omega, rfl, HR.out, HL0.out, HG.out⟩
 case round =>
  obtain ⟨k, hk, rfl, hrow, hln, hgr⟩ := hrel
  have HRow := hid hrow
  have HLi := hid hln
  have HGr := hid hgr
  clear hrow hln hgr HR HG HL0
  by_cases hlt : k < n1
  ·have hkl : k < m.segs.length := by rw [← HLn.out]; exact hlt
   obtain ⟨b, off, rfl, hb⟩ := HZ.out.pos (by omega)
   obtain ⟨Ak, nk, ck, -, hcell, gk⟩ := HZ.out.at hkl
   have hse : m.segs[k] = m.sg k := by unfold Md.sg; rw [List.getD_eq_getElem?_getD, List.getElem?_eq_getElem hkl]; rfl
   rw [hse] at hcell
   have hbel : Below B w wr := below_by HGr.out (by have := HB.out; have := HGl.out; omega) HB.out
   have hcell' : ∀ i v, (sgC (m.sg k) (.slice Ak nk ck))[i]? = some v → wr.cell? ⟨b, off + k * 10 + i, none⟩ = some v := fun i v hv => (hbel.cell hb).trans (hcell i v hv)
   have HA := hid (fun w' (hg : Grow wr w') => add_any g (m.eL k) (m.sg k).vaddr (m.sg k).align (m.sg k).pl.size w' (Blk.grow HLi.out hg) (HLe.out k) (HPl.out k hlt).align (HPl.out k hlt).ones (HPl.out k hlt).size)
   have HAt := hid (m.add1 k)
   have HSk := hid (upTo_skip m k)
   have HEs : Hid ((m.sg k).typ ≠ 1 → m.eL (k + 1) = m.eL k) := hid fun h => by rw [Md.eL, if_neg h]
   unfold sgC at hcell'
   clear hse hcell gk hbel hkl
   generalize m.sg k = s at hcell' HA HAt HSk HEs
   have t0 : wr.cell? ⟨b, off + k * 10, none⟩ = _ := hcell' 0 _ rfl
   have t1 := hcell' 1 _ rfl
   have t2 := hcell' 2 _ rfl
   have t3 := hcell' 3 _ rfl
   have t4 := hcell' 4 _ rfl
   have t5 := hcell' 5 _ rfl
   have t6 := hcell' 6 _ rfl
   have t7 := hcell' 7 _ rfl
   have t8 := hcell' 8 _ rfl
   have t9 := hcell' 9 _ rfl
   clear hcell'
   by_cases ht : s.typ = 1
   ·obtain ⟨a1, a2⟩ := HAt.out ht
    rw [a1, a2] at HA
    have d : ((s.typ : Int) == 1) = true := by simp [ht]
    clear ht a1 a2
    go_wp2_with fail
    generalize hW : World.alloc _ _ = W1
    obtain ⟨b5, hg5⟩ := blk1 hW
    clear hW t0 t1 t2 t3 t4 t5 t6 t7 t8 t9 b5 d
    have HG5 := hid hg5
    clear hg5
    refine (HA.out _ HG5.out).mono ?_
    rintro en w2 ⟨rfl, hl2, hg2⟩
    have HGr2 := hid (grown_trans HGr.out (grown_trans (grown_grow HG5.out (some g)) hg2))
    have HRow2 := hid (HRow.out.grownBy (grown_trans (grown_grow HG5.out (some g)) hg2) HNe.out)
    have HL2 := hid hl2
    have hc2 := World.rowIs.cell HRow2.out hlt
    have hf2 := World.rowIs.frozen HRow2.out k
    clear hl2 hg2 HA HGr HG5 HRow HLi
    have HRow3 := hid HRow2.out.put
    have HGr3 := hid (grown_own HGr2.out (Nat.le_of_eq HGa.out.symm) k (.int .u64 (m.P1 k : Nat)))
    have HL3 : Hid (Ln (w2.setCell ⟨ga, k, none⟩ (.int .u64 (m.P1 k : Nat))) g (m.eL (k + 1))) := hid (Blk.cellset HL2.out (fun e => HNe.out (by simp [e])) _)
    generalize m.P1 k = R at HRow3 HGr3 HL3 ⊢
    go_wp2
    go_roundw
    case rel => exact ⟨k + 1, by omega, by go_num, HRow3.out, HL3.out, HGr3.out⟩
    case measure => simp [intOf]; omega
   ·have d : ((s.typ : Int) == 1) = false := by simp; omega
    have HSk1 := hid (HSk.out ht)
    have HEs1 := hid (HEs.out ht)
    clear ht HSk HEs
    go_wp2
    go_roundw
    case rel =>
     generalize hW : World.alloc _ _ = W1
     have hg5 := (blk1 hW).2
     exact ⟨k + 1, by omega, by go_num, by rw [HSk1.out]; exact HRow.out.grownBy (grown_grow hg5 (some g)) HNe.out, by rw [HEs1.out]; exact Blk.grow HLi.out hg5, grown_trans HGr.out (grown_grow hg5 (some g))⟩
    case measure => simp [intOf]; omega
  ·have hkn : k = n1 := by omega
   subst hkn
   have HM0 : Hid (Row wr ga k (mixP m 0)) := hid (by rw [mix_zero]; exact upTo_all HRow.out)
   have HL1 : Hid (Ln wr g (m.eO 0)) := hid (by rw [HOe.out]; exact HLi.out)
   clear hk hlt HRow HLi
   go_wp2_with fail
   generalize wr = wz at HM0 HL1 HGr ⊢
   go_loopw [38] (fun i wr => ∃ q : Nat, q ≤ k ∧ i = .int .i64 q ∧ Row wr ga k (mixP m q) ∧ Ln wr g (m.eO q) ∧ w.grownBy wr (some g)) (fun i _ => k - (intOf i).toNat)
   case atStart => exact ⟨0, by omega, rfl, HM0.out, HL1.out, HGr.out⟩
   case round =>
    obtain ⟨q, hk, rfl, hrow, hln, hgr⟩ := hrel
    have HRow := hid hrow
    have HLi := hid hln
    clear HGr
    have HGr := hid hgr
    clear hrow hln hgr HM0 HL1
    by_cases hlt : q < k
    ·have hkl : q < m.segs.length := by rw [← HLn.out]; exact hlt
     obtain ⟨b, off, rfl, hb⟩ := HZ.out.pos (by omega)
     obtain ⟨Ak, nk, ck, -, hcell, gk⟩ := HZ.out.at hkl
     have hse : m.segs[q] = m.sg q := by unfold Md.sg; rw [List.getD_eq_getElem?_getD, List.getElem?_eq_getElem hkl]; rfl
     rw [hse] at hcell
     have hbel : Below B w wr := below_by HGr.out (by have := HB.out; have := HGl.out; omega) HB.out
     have hcell' : ∀ i v, (sgC (m.sg q) (.slice Ak nk ck))[i]? = some v → wr.cell? ⟨b, off + q * 10 + i, none⟩ = some v := fun i v hv => (hbel.cell hb).trans (hcell i v hv)
     have HA := hid (fun (ht : (m.sg q).typ ≠ 1) w' (hg : Grow wr w') => place_any g (m.eO q) ga k (mixP m q) (m.sg q).pl (.slice Ak nk ck) (m.P2 q) (m.eO (q + 1)) w' (Blk.grow HLi.out hg) (HLo.out q) (HRow.out.grownBy (grown_grow hg (some g)) HNe.out) (m.plc2 k q (HPl.out q hlt) ht) (HPl.out q hlt).size HN1.out)
     have HSk := hid (mix_keep m q)
     have HEs : Hid ((m.sg q).typ = 1 → m.eO (q + 1) = m.eO q) := hid fun h => by rw [Md.eO, if_pos h]
     unfold sgC at hcell'
     unfold plC at HA
     clear hse hcell gk hbel hkl
     generalize m.sg q = s at hcell' HA HSk HEs
     have t0 : wr.cell? ⟨b, off + q * 10, none⟩ = _ := hcell' 0 _ rfl
     have t1 := hcell' 1 _ rfl
     have t2 := hcell' 2 _ rfl
     have t3 := hcell' 3 _ rfl
     have t4 := hcell' 4 _ rfl
     have t5 := hcell' 5 _ rfl
     have t6 := hcell' 6 _ rfl
     have t7 := hcell' 7 _ rfl
     have t8 := hcell' 8 _ rfl
     have t9 := hcell' 9 _ rfl
     clear hcell'
     by_cases ht : s.typ = 1
     ·have d : ((s.typ : Int) != 1) = false := by simp [ht]
      have HSk1 := hid (HSk.out ht)
      have HEs1 := hid (HEs.out ht)
      clear ht HSk HEs
      go_wp2
      go_roundw
      case rel =>
       generalize hW : World.alloc _ _ = W1
       have hg5 := (blk1 hW).2
       exact ⟨q + 1, by omega, by go_num, by rw [HSk1.out]; exact HRow.out.grownBy (grown_grow hg5 (some g)) HNe.out, by rw [HEs1.out]; exact Blk.grow HLi.out hg5, grown_trans HGr.out (grown_grow hg5 (some g))⟩
      case measure => simp [intOf]; omega
     ·have d : ((s.typ : Int) != 1) = true := by simp; omega
      have HA := hid (HA.out ht)
      clear ht
      go_wp2_with fail
      generalize hW : World.alloc _ _ = W1
      obtain ⟨b5, hg5⟩ := blk1 hW
      clear hW t0 t1 t2 t3 t4 t5 t6 t7 t8 t9 d
      have HG5 := hid hg5
      have r6 := b5.at 6
      have r7 := b5.at 7
      have r8 := b5.at 8
      have r9 := b5.at 9
      clear b5 hg5
      go_wp2_with fail
      clear r6 r7 r8 r9
      refine (HA.out _ HG5.out).mono ?_
      rintro en w2 ⟨rfl, hl2, hg2⟩
      have HGr2 := hid (grown_trans HGr.out (grown_trans (grown_grow HG5.out (some g)) hg2))
      have HRow2 := hid (HRow.out.grownBy (grown_trans (grown_grow HG5.out (some g)) hg2) HNe.out)
      have HL2 := hid hl2
      have hc2 := World.rowIs.cell HRow2.out hlt
      have hf2 := World.rowIs.frozen HRow2.out q
      clear hl2 hg2 HA HGr HG5 HRow HLi
      have HRow3 : Hid (Row (w2.setCell ⟨ga, q, none⟩ (.int .u64 (m.P2 q : Nat))) ga k (mixP m (q + 1))) := hid ((World.rowIs.set HRow2.out q _).congr fun j _ => mix_set m q j)
      have HGr3 := hid (grown_own HGr2.out (Nat.le_of_eq HGa.out.symm) q (.int .u64 (m.P2 q : Nat)))
      have HL3 : Hid (Ln (w2.setCell ⟨ga, q, none⟩ (.int .u64 (m.P2 q : Nat))) g (m.eO (q + 1))) := hid (Blk.cellset HL2.out (fun e => HNe.out (by simp [e])) _)
      generalize m.P2 q = R at HRow3 HGr3 HL3 ⊢
      go_wp2
      go_roundw
      case rel => exact ⟨q + 1, by omega, by go_num, HRow3.out, HL3.out, HGr3.out⟩
      case measure => simp [intOf]; omega
    ·have hkn : q = k := by omega
     subst hkn
     have HF := hid (mix_all HRow.out)
     go_wp2
     go_ret
     exact ⟨ga, rfl, Nat.le_of_eq HGa.out.symm, HF.out, HLi.out, HGr.out⟩
end Go.Proofs.YtfglppjilcaafaaGreatDoor
