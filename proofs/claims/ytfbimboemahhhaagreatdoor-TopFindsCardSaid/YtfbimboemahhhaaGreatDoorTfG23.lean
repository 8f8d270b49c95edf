/-
  Several texts in one: The contracts of image; The contract of prog; The contract of image.
-/
import Derived.Test.YtfbimboemahhhaaGreatDoorTfG22
import Derived.Lib.Hide
import Derived.OwnWalk
import Derived.Lib.SmallJoins
import Derived.Test.YtfbimboemahhhaaGreatDoorTfG6
namespace Go.Proofs.YtfbimboemahhhaaGreatDoor
open Go.Lib (hid)
open Go.RowKit
set_option maxRecDepth 100000
set_option linter.unusedVariables false
theorem byteOf_any (r : Rg) (A : Option Addr) (n c : Nat) (x : Nat) (w : World) (h : RB w w.heap.size A n c r.bytes) (hx : x < 18446744073709551616) :
  Calls Tryz.prog 58 #[.agg (rgC r (.slice A n c)), .int .u64 x] w fun e w' => e = .returned (.int .u8 ((r.bytes.getD x 0).toNat : Nat)) ∧ Grow w w' := by
 have hc := h.cap
 have hm := h.max
 unfold maxLen at hm
 have hlen := h.len
 have z1 : IntKind.u64.wrap (n : Int) = (n : Int) := by rw [IntKind.wrap_u64]; omega
 unfold rgC
 by_cases hin : x < n
 ·obtain ⟨b, off, rfl, hb, hcell⟩ := h.pos (by omega)
  have d1 : decide ((x : Int) < (n : Int)) = true := decide_eq_true (by omega)
  have hxl : x < r.bytes.length := by omega
  have c0 := hcell x hxl
  have c1 : (w.alloc (.cells #[.int .u64 (r.addr : Nat), .int .u64 (r.size : Nat), .int .u32 (r.flags : Nat), .slice (some ⟨b, off, none⟩) n c] 144)).cell? ⟨b, off + x, none⟩ = some (.int .u8 (r.bytes[x].toNat : Int)) := by
   rw [Below.cell (Grow.of_alloc w _) hb]; exact c0
  have e0 : r.bytes.getD x 0 = r.bytes[x] := by rw [List.getD_eq_getElem?_getD, List.getElem?_eq_getElem hxl]; rfl
  rw [e0]
  generalize r.bytes[x] = v at c1 ⊢
  have w0 : (0 : Int) ≤ (x : Int) := by omega
  have w1 : (x : Int) < (n : Int) := by omega
  have w2 : (x : Int).toNat = x := by omega
  clear h hcell c0 hlen hxl e0
  go_enter Tryz.func58, Tryz.ntmps58
  go_wp2
  go_ret
  exact ⟨rfl, Grow.of_alloc _ _⟩
 ·have d1 : decide ((x : Int) < (n : Int)) = false := decide_eq_false (by omega)
  have e0 : r.bytes.getD x 0 = 0 := by rw [List.getD_eq_getElem?_getD, List.getElem?_eq_none (by omega)]; rfl
  rw [e0]
  clear h hlen
  go_enter Tryz.func58, Tryz.ntmps58
  go_wp2
  go_ret
  exact ⟨rfl, Grow.of_alloc _ _⟩
set_option maxHeartbeats 4000000 in
theorem at_any (e : Nat) (A : Option Addr) (n c : Nat) (L : List Rg) (x : Nat) (w : World) (h : ZR rgK w w.heap.size A n c L) (hx : x < 18446744073709551616) :
  Calls Tryz.prog 17 #[.agg (imC e (.slice A n c)), .int .u64 x] w fun e' w' => e' = .returned (.tuple #[.int .u8 ((atL L x).1 : Nat), .int .u32 ((atL L x).2.1 : Nat), .bool (atL L x).2.2]) ∧ Grow w w' := by
 have H1 := hid h
 have HLn := hid h.len
 have hc := h.cap
 have hm := h.max
 unfold maxLen at hm
 have HAt := hid (fun k (hk : k < L.length) => atL_drop hk x)
 have HA0 : Hid (atL L x = atL (L.drop 0) x) := hid rfl
 have HAe : Hid (atL (L.drop n) x = (0, 0, false)) := hid (by rw [h.len, List.drop_length]; rfl)
 unfold imC
 clear h
 generalize atL L x = T at HA0 ⊢
 go_enter Tryz.func17, Tryz.ntmps17
 go_wp2_with fail
 go_loopw [13] (fun i wr => ∃ k : Nat, k ≤ n ∧ i = .int .i64 k ∧ Hid (T = atL (L.drop k) x) ∧ Grow w wr) (fun i _ => n - (intOf i).toNat)
 case atStart => exact ⟨0, Nat.zero_le _, rfl, HA0, Grow.of_alloc _ _⟩
 case round =>
  obtain ⟨k, hk, rfl, HT, hg⟩ := hrel
  have HG := hid hg
  clear hg
  by_cases hlt : k < n
  ·have hkl : k < L.length := by rw [← HLn.out]; exact hlt
   obtain ⟨b, off, hAA, hb⟩ := H1.out.pos (by omega)
   subst hAA
   obtain ⟨B1, k1, e1, -, p, g1⟩ := H1.out.at hkl
   have p' : ∀ i v, (rgC L[k] (.slice B1 k1 e1))[i]? = some v → wr.cell? ⟨b, off + k * 4 + i, none⟩ = some v := fun i v hv => (Below.cell HG.out hb).trans (p i v hv)
   have HTk : Hid (T = if L[k].has x then (L[k].at_ x, L[k].flags, true) else atL (L.drop (k + 1)) x) := hid (by rw [HT.out]; exact HAt.out k hkl)
   have HBy := hid (fun W (hW : Grow w W) q hq => byteOf_any L[k] B1 k1 e1 q W ((g1.belowAt hW (Nat.le_refl _)).more hW.size) hq)
   clear p g1 HT
   generalize L[k] = r at p' HTk HBy
   clear hkl
   unfold rgC at p' HBy
   have s0 : wr.cell? ⟨b, off + k * 4, none⟩ = _ := p' 0 _ rfl
   have s1 : wr.cell? ⟨b, off + k * 4 + 1, none⟩ = _ := p' 1 _ rfl
   have s2 : wr.cell? ⟨b, off + k * 4 + 2, none⟩ = _ := p' 2 _ rfl
   have s3 : wr.cell? ⟨b, off + k * 4 + 3, none⟩ = _ := p' 3 _ rfl
   clear p'
   have w0 : (0 : Int) ≤ (k : Int) := by omega
   have w1 : (k : Int) < (n : Int) := by omega
   have d1 : decide ((k : Int) < (n : Int)) = true := decide_eq_true (by omega)
   by_cases ha : r.addr ≤ x
   ·have d2 : decide ((r.addr : Int) ≤ (x : Int)) = true := decide_eq_true (by omega)
    have z1 : IntKind.u64.wrap ((x : Int) - (r.addr : Int)) = ((x - r.addr : Nat) : Int) := by rw [IntKind.wrap_u64]; omega
    by_cases hs : x - r.addr < r.size
    ·have d3 : decide (((x - r.addr : Nat) : Int) < (r.size : Int)) = true := decide_eq_true (by omega)
     go_wp2_with fail
     generalize hW : World.alloc _ _ = W5
     obtain ⟨b5, hgr⟩ := blk1 hW
     clear hW s0 s1 s2 s3 d1 d2 d3 z1
     have HX := hid (b5.drew)
     have HG5 : Hid (Grow w W5.drew) := hid ((HG.out.trans hgr).trans (Grow.of_drew _))
     clear b5 hgr HG
     refine wp_region_chain [(0, true), (1, true), (3, true), (4, true), (2, false), (5, true), (6, true), (7, true)] (by kernel_rfl) (by kernel_rfl) (by kernel_rfl) ?_
     generalize W5.drew = v0 at HX HG5 ⊢
     have q0 : ∀ W, Grow v0 W → W.cell? ⟨wr.heap.size, 0, none⟩ = some (.int .u64 (r.addr : Nat)) := fun W hW => (HX.out.grow hW).at 0
     have q1 : ∀ W, Grow v0 W → W.cell? ⟨wr.heap.size, 1, none⟩ = some (.int .u64 (r.size : Nat)) := fun W hW => (HX.out.grow hW).at 1
     have q2 : ∀ W, Grow v0 W → W.cell? ⟨wr.heap.size, 2, none⟩ = some (.int .u32 (r.flags : Nat)) := fun W hW => (HX.out.grow hW).at 2
     have q3 : ∀ W, Grow v0 W → W.cell? ⟨wr.heap.size, 3, none⟩ = some (.slice B1 k1 e1) := fun W hW => (HX.out.grow hW).at 3
     repeat ((first | (refine chain_take rfl (by rfl) ?_ (fun W hG => ?_) ?_; rotate_left; (go_simp; rfl)) | refine chain_skip rfl (by rfl) ?_); simp only [Act.put, List.setIfInBounds_toArray, List.set_cons_zero, List.set_cons_succ])
     clear q0 q1 q2 q3
     refine chain_only rfl (by rfl) (fun K hK => ?_)
     go_simp
     refine (HBy.out _ HG5.out _ (by omega)).mono ?_
     rintro e2 v1 ⟨rfl, hg⟩
     refine hK _ _ hg ?_
     clear hK K
     have HG6 : Hid (Grow w v1) := hid (HG5.out.trans hg)
     repeat ((first | (refine chain_take rfl (by rfl) ?_ (fun W hG => ?_) ?_; rotate_left; (go_simp; rfl)) | refine chain_skip rfl (by rfl) ?_); simp only [Act.put, List.setIfInBounds_toArray, List.set_cons_zero, List.set_cons_succ])
     refine chain_done ?_
     have hT : T = (r.at_ x, r.flags, true) := by rw [HTk.out, if_pos (by unfold Rg.has; rw [decide_eq_true ha, decide_eq_true hs]; rfl)]
     subst hT
     go_wp2
     go_ret3
     exact ⟨rfl, HG6.out⟩
    ·have d3 : decide (((x - r.addr : Nat) : Int) < (r.size : Int)) = false := decide_eq_false (by omega)
     have hT : T = atL (L.drop (k + 1)) x := by rw [HTk.out, if_neg (by unfold Rg.has; rw [decide_eq_false hs]; simp)]
     have hg := HG.out.trans (Grow.of_alloc wr (.cells #[.int .u64 (r.addr : Nat), .int .u64 (r.size : Nat), .int .u32 (r.flags : Nat), .slice B1 k1 e1] 144))
     go_wp2
     go_roundw
     case rel => exact ⟨k + 1, by omega, by go_num, hid hT, hg⟩
     case measure => simp [intOf]; omega
   ·have d2 : decide ((r.addr : Int) ≤ (x : Int)) = false := decide_eq_false (by omega)
    have hT : T = atL (L.drop (k + 1)) x := by rw [HTk.out, if_neg (by unfold Rg.has; rw [decide_eq_false ha]; simp)]
    have hg := HG.out.trans (Grow.of_alloc wr (.cells #[.int .u64 (r.addr : Nat), .int .u64 (r.size : Nat), .int .u32 (r.flags : Nat), .slice B1 k1 e1] 144))
    go_wp2
    go_roundw
    case rel => exact ⟨k + 1, by omega, by go_num, hid hT, hg⟩
    case measure => simp [intOf]; omega
  ·have d1 : decide ((k : Int) < (n : Int)) = false := decide_eq_false (by omega)
   have hT : T = (0, 0, false) := by
    have := HT.out
    rw [show k = n by omega, HAe.out] at this
    exact this
   subst hT
   go_wp2
   go_ret3
   exact ⟨rfl, HG.out⟩
def PGot (l : List UInt8) (p : Nat) (wide big : Bool) (w : World) (e : Ending) (w' : World) : Prop :=
 (p + pSize wide ≤ l.length ∧ e = .returned (.tuple #[(pgOf l p wide big).V, .nilIface]) ∧ Grow w w') ∨
 (l.length < p + pSize wide ∧ e = .returned (.tuple #[pg0.V, .iface 86 (.int .i64 2)]) ∧ Grow w w')
theorem sz_pg (p : Pg) : (Tryz.prog.info? 167).map (·.size) = some p.C.size := by kernel_rfl
theorem Blk.put {w : World} {g : Nat} {t : TypeId} {l : List Nat} (h : Blk w g t (u64s l)) (i x : Nat) : Blk (w.setCell ⟨g, i, none⟩ (.int .u64 (x : Int))) g t (u64s (l.set i x)) := by
 have := Joins.block_setCell (i := i) h (.int .u64 (x : Int))
 rw [Blk, this]
 simp [u64s, List.map_set]
theorem pgot_ret {K : Ending → World → Prop} {W : World} {tmps : Array Value} {g : Nat} {err : Value} {t : TypeId} {h : Pg} (ht : tmps.getD 6 undef = .pointer (some ⟨g, 0, none⟩)) (he : tmps.getD 7 undef = err)
  (hx : Blk W g t h.C) (hk : K (.returned (.tuple #[h.V, err])) W) : bodyPost Tryz.prog Tryz.f94 K .ret ⟨tmps, []⟩ W := by
 refine bodyPost_ret (v := .tuple #[h.V, err]) ?_ rfl hk
 rw [results_cell_tmp rfl, ht, he]
 simp [asAddr, Result.andThen, hx.var _ _ Tryz.underlying167 rfl (by kernel_rfl)]
 rfl
set_option maxHeartbeats 400000 in
theorem pGet_any (A : Option Addr) (n c : Nat) (l : List UInt8) (p : Nat) (wide big : Bool) (w : World) (h : RB w w.heap.size A n c l) (hp : p < 18446744073709551616) :
  Calls Tryz.prog 94 #[.slice A n c, .int .u64 p, .agg #[.bool wide, .bool big]] w (PGot l p wide big w) := by
 have HR := hid h
 have HLen := hid h.len
 have hcp := h.cap
 have hmx := h.max
 unfold maxLen at hmx
 clear h
 have HSz := hid (fun w => pSize_any wide big w)
 have HOr := hid (fun w => pOrd_any wide big w)
 have HWi := hid (fun i w => pWid_any wide big i w)
 have HAO : Hid (∀ k, k < 8 → (i64s (pOrd wide))[k]? = some (.int .i64 ((pOrd wide).getD k 0 : Nat))) := hid (fun k hk => idx_i64s _ _ (by rw [len_pOrd]; exact hk))
 have HOl := hid (pOrd_lt wide)
 have HOk : Hid (∀ k, k < 8 → (pOrd wide)[k]? = some ((pOrd wide).getD k 0)) := hid (fun k hk => by rw [List.getD_eq_getElem?_getD, List.getElem?_eq_getElem (by rw [len_pOrd]; exact hk)]; rfl)
 have HAt := hid (pgOf_at l p wide big)
 have HNA : Hid (∀ k, k < 8 → (pX l p wide big).getD k 0 = getB ((l.drop (p + sumN ((pRow wide).take k))).take (pWid wide ((pOrd wide).getD k 0))) big) := hid (fun k hk => by
  have h1 : k < (pRow wide).length := by rw [len_pRow]; exact hk
  have := nums_at l big (pRow wide) p k h1
  rw [pX, List.getD_eq_getElem?_getD, this]
  simp only [pRow, List.getElem_map, Option.getD_some]
  rw [List.getD_eq_getElem?_getD, List.getElem?_eq_getElem (by rw [len_pOrd]; exact hk)]
  rfl)
 have HSu : Hid (∀ k, k < 8 → sumN ((pRow wide).take (k + 1)) = sumN ((pRow wide).take k) + pWid wide ((pOrd wide).getD k 0)) := hid (fun k hk => by
  have h1 : k < (pRow wide).length := by rw [len_pRow]; exact hk
  rw [sumN_succ _ k h1]
  simp only [pRow, List.getElem_map]
  rw [List.getD_eq_getElem?_getD, List.getElem?_eq_getElem (by rw [len_pOrd]; exact hk)]
  rfl)
 have HSl : Hid (∀ k, sumN ((pRow wide).take k) ≤ pSize wide) := hid (fun k => by rw [← sum_pRow]; exact sumN_le _ _)
 have HWw := hid (pWid_wid wide)
 have HHd : Hid (∀ w, Calls Tryz.prog 134 #[.agg (u64s (pgOf l p wide big).N)] w fun e w' => e = .returned (pgOf l p wide big).V ∧ Grow w w') := hid (fun w =>
  have ok := pgOf_ok l p wide big
  pHdr_any _ _ _ _ _ _ _ _ w ok.ty ok.fl)
 have HAll : Hid (laidIn (pOrd wide) (pgOf l p wide big).N 8 8 = (pgOf l p wide big).N) := hid (by
  have := laidIn_all (os := pOrd wide) (ns := (pgOf l p wide big).N) (n := 8) (pOrd_all wide) rfl
  rwa [len_pOrd] at this)
 have HSp : Hid (pSize wide ≤ 56) := by cases wide <;> exact hid (by decide)
 have HC : Hid ((pgOf l p wide big).C.size = 8) := hid rfl
 have HC1 := hid (pgOf l p wide big).one
 unfold PGot
 generalize hpg : pgOf l p wide big = pg at HAt HHd HAll HC HC1 ⊢
 clear hpg
 generalize pX l p wide big = xs at HAt HNA
 generalize i64s (pOrd wide) = RO at HOr HAO
 generalize pRow wide = row at HNA HSu HSl
 generalize pOrd wide = os at HAO HOl HOk HAt HNA HSu HAll
 generalize pSize wide = sz at HSz HSp HSl ⊢
 generalize hns : pg.N = ns at HAt HHd HAll
 have HVC : Hid (pg.V = .agg pg.C) := hid rfl
 clear hns
 go_enter Tryz.func94, Tryz.ntmps94
 go_wp2_with fail
 generalize hW : World.alloc _ _ = W0
 obtain ⟨bf, b6, hg0⟩ := blk2 hW
 clear hW
 refine (HSz.out W0).mono ?_
 rintro e w1 ⟨rfl, hg1⟩
 have HBF1 := hid (bf.grow hg1)
 have HB61 : Hid (Blk w1 (w.heap.size + 1) 167 pg0.C) := b6.grow hg1
 have HG1 : Hid (Grow w w1) := hg0.trans hg1
 clear bf b6 hg0 hg1
 have z1 : IntKind.u64.wrap (sz : Int) = (sz : Int) := by rw [IntKind.wrap_u64]; have := HSp.out; omega
 have z2 : IntKind.u64.wrap (n : Int) = (n : Int) := by rw [IntKind.wrap_u64]; omega
 go_wp2_with fail
 refine (within_any p sz n _ (by omega) (by omega) (by omega)).mono ?_
 rintro e w2 ⟨rfl, rfl⟩
 have hwt : wthn (p : Int) (sz : Int) (n : Int) = decide (p + sz ≤ l.length) := by
  have e := HLen.out
  simp only [wthn]
  rw [Bool.eq_iff_iff, decide_eq_true_iff, decide_eq_true_iff]; omega
 rw [hwt]
 clear hwt z1 z2
 by_cases hin : p + sz ≤ l.length
 ·rw [decide_eq_true hin]
  have HIn := hid hin
  have HS1 := HSp.out
  have HSl2 : Hid (∀ k, p + sumN (row.take k) ≤ n) := hid (fun k => by have := HSl.out k; have := HLen.out; omega)
  clear hin
  obtain ⟨y0, y1⟩ := (HBF1.out.alloc (.cells #[.int .u64 0, .int .u64 0, .int .u64 0, .int .u64 0, .int .u64 0, .int .u64 0, .int .u64 0, .int .u64 0] 227)).c2
  go_wp2_with fail
  clear y0 y1
  refine (HOr.out _).mono ?_
  rintro e w3 ⟨rfl, hg3⟩
  have hb8 : Blk w3 w1.heap.size 227 (u64s (List.replicate 8 0)) := (Blk.new w1 227 (u64s (List.replicate 8 0))).grow hg3
  rw [← laidIn_zero os ns 8] at hb8
  have HB8 := hid hb8
  have HBF3 := hid ((HBF1.out.alloc _).grow hg3)
  have HB63 := hid ((HB61.out.alloc _).grow hg3)
  have HG3 : Hid (Grow w w3) := (HG1.out.trans (Grow.of_alloc _ _)).trans hg3
  have HG8 : Hid (w.heap.size + 1 < w1.heap.size) := HB61.out.lt
  generalize w1.heap.size = g8 at HB8 HG8 ⊢
  clear hb8 hg3 HBF1 HB61 HG1
  go_wp2_with fail
  go_loopw [1, 25] (fun a i wr => ∃ (k q : Nat), k ≤ 8 ∧ i = .int .i64 k ∧ a = .int .u64 q ∧ q = p + sumN (row.take k) ∧ Blk wr w.heap.size 23 #[.bool wide, .bool big] ∧ Blk wr (w.heap.size + 1) 167 pg0.C ∧ Blk wr g8 227 (u64s (laidIn os ns 8 k)) ∧ Grow w wr) (fun _ i _ => 8 - (intOf i).toNat)
  case atStart => exact ⟨0, p, by omega, rfl, rfl, rfl, HBF3.out, HB63.out, HB8.out, HG3.out⟩
  case round =>
   obtain ⟨k, q, hk, rfl, rfl, hq, hbf, hb6, hb8, hg⟩ := hrel
   have HBF := hid hbf
   have HB6 := hid hb6
   have HB8k := hid hb8
   have HG := hid hg
   have HQ := hid hq
   have hqn : q ≤ n := by rw [hq]; exact HSl2.out k
   clear hbf hb6 hb8 hg hq HBF3 HB63 HB8 HG3
   by_cases hlt : k < 8
   ·have HK2 := hid (HAO.out k hlt)
    have HKo := hid (HOk.out k hlt)
    have ho8 := HOl.out k hlt
    have HAk := hid (HAt.out k hlt)
    have HNk := hid (HNA.out k hlt)
    have HSk := hid (HSu.out k hlt)
    rw [← HQ.out] at HNk
    have HW2 := hid (fun w => HWi.out (os.getD k 0) w)
    have HWk := hid (HWw.out (os.getD k 0))
    have hqm : q + pWid wide (os.getD k 0) ≤ n := by rw [HQ.out, Nat.add_assoc, ← HSk.out]; exact HSl2.out (k + 1)
    rw [HNk.out] at HAk
    generalize pWid wide (os.getD k 0) = m at HNk HSk HW2 HWk hqm HAk
    generalize os.getD k 0 = i at HK2 HKo ho8 HAk HW2
    have z1 : (0 : Int) ≤ (i : Int) := by omega
    have z2 : (i : Int) < 8 := by omega
    obtain ⟨y0, y1⟩ := HBF.out.c2
    go_wp2_with (refine wpList_index rfl 229 3 (.tmp 24) (.tmp 25) rfl 8 _ Tryz.underlying229 Tryz.underlying3 rfl (by kernel_rfl) RO k (.int .i64 (i : Int)) rfl rfl hlt HK2.out ?_)
    clear y0 y1
    refine (HW2.out _).mono ?_
    rintro e w4 ⟨rfl, hg4⟩
    have HBF4 := hid (HBF.out.grow hg4)
    have HB64 := hid (HB6.out.grow hg4)
    have HB84 := hid (HB8k.out.grow hg4)
    have HG4 : Hid (Grow w w4) := HG.out.trans hg4
    clear hg4 HBF HB6 HB8k HG
    obtain ⟨y0, y1⟩ := HBF4.out.c2
    go_wp2_with fail
    clear y0 y1
    refine (get_any A n c l _ q m big _ (HR.out.belowAt HG4.out (Nat.le_refl _)) (by omega)).mono ?_
    rintro e w5 ⟨rfl, j, hw5⟩
    have hgb : gotB l q m = true := by
     simp only [gotB, HWk.out, Bool.true_and, wthn]
     exact decide_eq_true (by have := HLen.out; omega)
    have hgv : gotV l q m big = getB ((l.drop q).take m) big := by
     simp only [gotV, hgb, if_true, Int.toNat_natCast]
    rw [hgb, hgv]
    generalize getB ((l.drop q).take m) big = v at HAk ⊢
    have HBF5 : Hid (Blk w5 w.heap.size 23 #[.bool wide, .bool big]) := by rw [hw5]; exact HBF4.out
    have HB65 : Hid (Blk w5 (w.heap.size + 1) 167 pg0.C) := by rw [hw5]; exact HB64.out
    have HB85 : Hid (Blk w5 g8 227 (u64s (laidIn os ns 8 k))) := by rw [hw5]; exact HB84.out
    have HG5 : Hid (Grow w w5) := by rw [hw5]; exact HG4.out.trans (Grow.of_drewN _ _)
    clear hgb hgv hw5 HBF4 HB64 HB84 HG4
    have c1 : w5.cell? ⟨g8, i, none⟩ = some (.int .u64 ((laidIn os ns 8 k).getD i 0 : Nat)) := by rw [HB85.out.at, idx_u64s _ _ (by rw [len_laidIn]; exact ho8)]
    have f1 := HB85.out.soft i
    have hB := HB85.out.put i v
    rw [laidIn_succ HKo.out HAk.out] at hB
    have HB86 := hid hB
    have HBF6 := hid (HBF5.out.cellset (a := ⟨g8, i, none⟩) (show w.heap.size ≠ g8 by have := HG8.out; omega) (.int .u64 (v : Int)))
    have HB66 := hid (HB65.out.cellset (a := ⟨g8, i, none⟩) (show w.heap.size + 1 ≠ g8 by have := HG8.out; omega) (.int .u64 (v : Int)))
    have HG6 : Hid (Grow w (w5.setCell ⟨g8, i, none⟩ (.int .u64 (v : Int)))) := Grow.cellset HG5.out (by have := HG8.out; omega) _ _
    have z3 : IntKind.u64.wrap (m : Int) = (m : Int) := by rw [IntKind.wrap_u64]; omega
    have z4 : IntKind.u64.wrap ((q : Int) + (m : Int)) = ((q + m : Nat) : Int) := by rw [IntKind.wrap_u64]; omega
    clear hB
    go_wp2_with fail
    go_roundw
    case rel => exact ⟨k + 1, q + m, by omega, by go_num, rfl, by rw [HSk.out, HQ.out]; omega, HBF6.out, HB66.out, HB86.out, HG6.out⟩
    case measure => simp [intOf]; omega
   ·have e : k = 8 := by omega
    rw [e, HAll.out] at HB8k
    have HNs : Hid ((u64s ns).size = 8) := hid (by rw [← HAll.out]; simp [u64s, len_laidIn])
    generalize u64s ns = RN at HHd HB8k HNs
    clear HSl HSl2 HNA
    go_wp2_with (refine wpList_load_row rfl 227 (.tmp 8) rfl g8 rfl _ RN (0, 0) _ HB8k.out Tryz.underlying227 rfl (by rw [HNs.out]; kernel_rfl) ?_)
    refine (HHd.out _).mono ?_
    rintro e w5 ⟨rfl, hg5⟩
    have HB65 := hid (HB6.out.grow hg5)
    have HG5 : Hid (Grow w w5) := HG.out.trans hg5
    clear hg5
    rw [HVC.out]
    have HB66 := hid (HB65.out.set pg.C)
    have HG6 : Hid (Grow w (w5.setRow (w.heap.size + 1) pg.C)) := Grow.set HG5.out (Nat.le_succ _) _
    obtain ⟨R, hR⟩ : ∃ R, R = pg.C := ⟨_, rfl⟩
    rw [← hR] at HC HC1 HG6 HB66 ⊢
    have HR2 := hid hR
    clear hR
    go_wp2_with (refine wpList_store_row rfl 167 (.tmp 6) (.tmp 48) rfl (w.heap.size + 1) R rfl rfl _ _ HB65.out (by rw [HC.out]; kernel_rfl) (by rw [HC.out]; rfl) HC1.out ?_)
    rw [HR2.out] at HB66 HG6 ⊢
    exact pgot_ret (err := .nilIface) rfl rfl HB66.out (.inl ⟨HIn.out, rfl, HG6.out⟩)
 ·rw [decide_eq_false hin]
  have HIn : Hid (l.length < p + sz) := hid (by omega)
  clear hin
  go_wp2_with (refine wpList_store_row rfl 167 (.tmp 6) (.tmp 21) rfl (w.heap.size + 1) pg0.C rfl rfl _ _ HB61.out (sz_pg pg0) rfl pg0.one ?_; rw [HB61.out.same])
  exact pgot_ret rfl rfl HB61.out (.inr ⟨HIn.out, rfl, HG1.out⟩)
set_option maxRecDepth 100000
set_option linter.unusedVariables false
def HdsR (l : List UInt8) (w : World) (e : Ending) (w' : World) : Prop :=
 (ImIn l ∧ ∃ A c, e = .returned (.tuple #[.slice A (hdOf l).pn c, .nilIface]) ∧ ZS w' w'.heap.size 8 A (hdOf l).pn c (pgR l (hdOf l).pn) ∧ Grow w w') ∨
 (¬ ImIn l ∧ e = .returned (.tuple #[.slice none 0 0, .iface 86 (.int .i64 4)]) ∧ Grow w w')
structure HB (w W : World) (g6 base : Nat) (wide big : Bool) : Prop where
 f : Blk W g6 23 #[.bool wide, .bool big]
 b : base = g6 + 1
 o : w.heap.size ≤ g6
 g : Grow w W
section
variable {w W W' : World} {g6 base : Nat} {wide big : Bool}
theorem HB.grow (h : HB w W g6 base wide big) (hg : Grow W W') : HB w W' g6 base wide big := ⟨h.f.grow hg, h.b, h.o, h.g.trans hg⟩
theorem HB.by_ (h : HB w W g6 base wide big) {row : Option Nat} (hg : W.grownBy W' row) (hr : ∀ k, row = some k → base ≤ k) : HB w W' g6 base wide big :=
 ⟨h.f.grownBy hg (fun e => by have := hr g6 e.symm; have := h.b; omega), h.b, h.o, h.g.trans' ((Below.refl _ W).grown hg h.g.size fun k hk => by have := hr k hk; have := h.b; have := h.o; omega)⟩
theorem HB.base_le (h : HB w W g6 base wide big) : base ≤ W.heap.size := by have := h.f.lt; have := h.b; omega
end
theorem below_alloc_two (w : World) (a b : Obj) : Below w.heap.size (w.alloc a) (w.alloc b) := by
 refine ⟨rfl, rfl, rfl, ?_, fun k hk => ?_⟩
 ·show (w.heap.push a).size ≤ (w.heap.push b).size
  simp
 ·show (w.heap.push b)[k]? = (w.heap.push a)[k]?
  rw [Array.getElem?_push, Array.getElem?_push, if_neg (by omega), if_neg (by omega)]
set_option maxHeartbeats 8000000 in
theorem imHeaders_any (l : List UInt8) (A : Option Addr) (n c : Nat) (w : World) (hr : RB w w.heap.size A n c l) : Calls Tryz.prog 56 #[.slice A n c, (hdOf l).V] w (HdsR l w) := by
 have hlen := hr.len
 have hcap := hr.cap
 have hmax := hr.max
 unfold maxLen at hmax
 have HGet : Hid (∀ k, pAt l k < 18446744073709551616 → ∀ W, Grow w W → Calls Tryz.prog 94 #[.slice A n c, .int .u64 (pAt l k : Nat), .agg #[.bool (lWide l), .bool (lBig l)]] W (PGot l (pAt l k) (lWide l) (lBig l) W)) := hid fun k hk W hg =>
  pGet_any A n c l (pAt l k) (lWide l) (lBig l) W (hr.grow hg) hk
 have HPs := hid (fun W => pSize_any (lWide l) (lBig l) W)
 have HP0 : Hid (pAt l 0 = (hdOf l).ph) := hid (by unfold pAt; rw [Nat.zero_mul]; rfl)
 have HPS : Hid (∀ k, pAt l (k + 1) = pAt l k + pSize (lWide l)) := hid fun k => by unfold pAt; rw [Nat.succ_mul, Nat.add_assoc]
 have HPh : Hid ((hdOf l).ph < 18446744073709551616) := hid (hdOf_ok l).ph
 have HPn : Hid ((hdOf l).pn < 65536) := hid (hdOf_ok l).pn
 have HPc := hid (pgR_succ l)
 have HR0 : Hid (pgR l 0 = []) := hid rfl
 have HIn : Hid (ImIn l ↔ ∀ i, i < (hdOf l).pn → pAt l i + pSize (lWide l) ≤ n) := hid (by rw [hlen]; rfl)
 have HSz : Hid (pSize (lWide l) ≤ 64) := hid (by cases lWide l <;> decide)
 have HV : Hid (∀ k, pgOf l (pAt l k) (lWide l) (lBig l) = pgs l k) := hid fun k => rfl
 unfold HdsR
 unfold PGot at HGet
 rw [← hlen] at HGet
 have HNn : Hid (n ≤ 9223372036854775807) := hid (by omega)
 clear hr hlen hcap hmax
 obtain ⟨y2, y3, y4, y5, y6, y8, y9, y11, y12, hC⟩ : ∃ y2 y3 y4 y5 y6 y8 y9 y11 y12 : Value, (hdOf l).C = #[.bool (lWide l), .bool (lBig l), y2, y3, y4, y5, y6, .int .u64 ((hdOf l).ph : Nat), y8, y9, .int .u16 ((hdOf l).pn : Nat), y11, y12] := ⟨_, _, _, _, _, _, _, _, _, rfl⟩
 unfold Hd.V
 rw [hC]
 clear hC
 simp only [HV.out] at HGet
 generalize (hdOf l).ph = ph at *
 generalize (hdOf l).pn = P at *
 generalize pAt l = pA at *
 generalize pgR l = PR at *
 generalize pgs l = pgF at *
 generalize lWide l = wide at *
 generalize lBig l = big at *
 generalize pSize wide = sz at *
 generalize ImIn l = II at *
 go_enter Tryz.func56, Tryz.ntmps56
 go_wp2_with fail
 generalize hW : World.alloc _ _ = W0
 obtain ⟨b1, hg⟩ := blk1 hW
 clear hW
 have HX := hid b1.drew
 have HG := hid (hg.trans (Grow.of_drew W0))
 clear b1 hg
 refine wp_region_leap (leap_below W0.drew.heap.size) [(0, true), (1, true), (2, true), (3, true), (4, true), (5, false), (6, false), (7, true)] (by kernel_rfl) (by kernel_rfl) (by kernel_rfl) ?_
 generalize W0.drew = v0 at HX HG ⊢
 have hlt := HX.out.lt
 have q0 : ∀ W, Below v0.heap.size v0 W → W.cell? ⟨w.heap.size, 0, none⟩ = some (.bool wide) := fun W hW => (Blk.below HX.out hW hlt).at 0
 have q1 : ∀ W, Below v0.heap.size v0 W → W.cell? ⟨w.heap.size, 1, none⟩ = some (.bool big) := fun W hW => (Blk.below HX.out hW hlt).at 1
 have q7 : ∀ W, Below v0.heap.size v0 W → W.cell? ⟨w.heap.size, 7, none⟩ = some (.int .u64 (ph : Nat)) := fun W hW => (Blk.below HX.out hW hlt).at 7
 repeat ((first | (refine chain_take rfl (by rfl) ?_ (fun W hG => ?_) ?_; rotate_left; (go_simp; rfl)) | refine chain_skip rfl (by rfl) ?_); simp only [Act.put, List.setIfInBounds_toArray, List.set_cons_zero, List.set_cons_succ])
 clear q0 q1 q7
 refine chain_only rfl (by rfl) (fun K hK => ?_)
 go_simp
 refine hK _ _ (Below.alloc (Below.refl _ _) (Nat.le_refl _) _) ?_
 clear hK K
 refine chain_only rfl (by rfl) (fun K hK => ?_)
 go_simp
 refine hK _ _ (below_alloc_two _ _ _) ?_
 clear hK K
 generalize hW : World.alloc _ _ = W1
 obtain ⟨b6, hg⟩ := blk1 hW
 clear hW
 have p17 := (HX.out.grow hg).at 10
 have HB0 : Hid (HB w W1 v0.heap.size (v0.heap.size + 1) wide big) := hid ⟨b6, rfl, HG.out.size, HG.out.trans hg⟩
 clear b6 hg hlt HG HX
 generalize v0.heap.size = g6 at HB0 ⊢
 generalize g6 + 1 = base at HB0
 repeat ((first | (refine chain_take rfl (by rfl) ?_ (fun W hG => ?_) ?_; rotate_left; (go_simp; rfl)) | refine chain_skip rfl (by rfl) ?_); simp only [Act.put, List.setIfInBounds_toArray, List.set_cons_zero, List.set_cons_succ])
 refine chain_done ?_
 go_wp2_with fail
 clear p17
 go_loopw [7, 8, 18] (fun a s i wr => ∃ (k q : Nat) (As : Option Addr) (cs : Nat), k ≤ P ∧ i = .int .u16 k ∧ a = .int .u64 q ∧ s = .slice As k cs ∧ Hid (q = pA k) ∧ Hid (q < 18446744073709551616) ∧ Hid (∀ j, j < k → pA j + sz ≤ n) ∧ ZO wr base 167 8 As k cs (PR k) ∧ HB w wr g6 base wide big) (fun _ _ i _ => P - (intOf i).toNat)
 case atStart => exact ⟨0, ph, none, 0, Nat.zero_le _, rfl, rfl, rfl, hid HP0.out.symm, HPh, hid fun j hj => by omega, by rw [HR0.out]; exact ZO.nil, HB0.out⟩
 case round =>
  obtain ⟨k, q, As, cs, hk, rfl, rfl, rfl, HQ, HQ64, HJ, ho, hb⟩ := hrel
  have HOa := hid ho
  have HBa := hid hb
  clear ho hb HB0
  by_cases hlt : k < P
  ·have d1 : decide ((k : Int) < (P : Int)) = true := decide_eq_true (by omega)
   have HK : Hid (k ≤ 65535) := hid (by have := HPn.out; omega)
   have HLt := hid hlt
   obtain ⟨y0, y1⟩ := HBa.out.f.c2
   go_wp2_with fail
   clear y0 y1 d1
   have HGk := hid (HGet.out k (by rw [← HQ.out]; exact HQ64.out) wr HBa.out.g)
   rw [← HQ.out] at HGk
   refine HGk.out.mono ?_
   rintro e w2 (⟨hin, rfl, hg⟩ | ⟨hout, rfl, hg⟩)
   ·have HB2 := hid (HBa.out.grow hg)
    have HO2 := hid (HOa.out.keep hg)
    have HJ2 : Hid (∀ j, j < k + 1 → pA j + sz ≤ n) := hid fun j hj => by
     rcases Nat.lt_or_ge j k with h | h
     ·exact HJ.out j h
     ·rw [show j = k by omega, ← HQ.out]; exact hin
    have HIq : Hid (q + sz ≤ n) := hid hin
    have HPck := hid (HPc.out k)
    clear hg hin HBa HOa HGk HJ
    generalize pgF k = p at HPck ⊢
    obtain ⟨ty, fl, off, va, pa, fs, ms, al⟩ := p
    unfold Pg.C at HPck
    unfold Pg.V Pg.C
    simp only [] at HPck
    obtain ⟨W5, hW⟩ : ∃ W5, W5 = (w2.alloc (.cells #[.int .u32 (ty : Int), .int .u32 (fl : Int), .int .u64 (off : Int), .int .u64 (va : Int), .int .u64 (pa : Int), .int .u64 (fs : Int), .int .u64 (ms : Int), .int .u64 (al : Int)] 167)).alloc (.cells #[.int .u32 (ty : Int), .int .u32 (fl : Int), .int .u64 (off : Int), .int .u64 (va : Int), .int .u64 (pa : Int), .int .u64 (fs : Int), .int .u64 (ms : Int), .int .u64 (al : Int)] 167) := ⟨_, rfl⟩
    obtain ⟨b5, b7, hg⟩ := blk2 hW.symm
    clear b5
    have HNu := hid b7
    have HBn := hid (HB2.out.grow hg)
    have HOn := hid (HO2.out.keep hg)
    have HBs := hid (HBn.out.base_le)
    clear b7 hg HB2 HO2
    have HWe := hid hW
    clear hW
    go_wp2_with (at_builtin; rw [← HWe.out]; refine wpList_appendZ W5 rfl (.tmp 30) (.tmp 32) 117 rfl base 167 pg0.V 8 56 Tryz.underlying117 (by kernel_rfl) rfl (by omega) As k cs _ rfl HOn.out (w2.heap.size + 1) _ _ rfl HNu.out rfl (by simp [Value.oneCell']) (by have := HK.out; unfold maxLen; omega) (by have := HK.out; omega) HBs.out ?_; intro A5 c5 w9 ho9 hg9 _; refine Hid.out ?_)
    have HB9 := hid (HBn.out.by_ hg9 (fun k e => HOn.out.ge e))
    rw [← HPck.out] at ho9
    have HO9 := hid ho9
    clear ho9 hg9 HOn HBn HBs HNu HWe
    refine hid ?_
    obtain ⟨y0, y1⟩ := HB9.out.f.c2
    go_wp2_with fail
    clear y0 y1
    refine (HPs.out _).mono ?_
    rintro e w10 ⟨rfl, hg⟩
    have HB10 := hid (HB9.out.grow hg)
    have HO10 := hid (HO9.out.keep hg)
    clear hg HB9 HO9
    have HIb : q + sz ≤ n := HIq.out
    have HNb := HNn.out
    have HSb := HSz.out
    have HKb := HK.out
    have z1 : IntKind.u64.wrap (sz : Int) = (sz : Int) := by rw [IntKind.wrap_u64]; omega
    have z2 : IntKind.u64.wrap ((q : Int) + (sz : Int)) = ((q + sz : Nat) : Int) := by rw [IntKind.wrap_u64]; omega
    have Z2 := hid z2
    have Z3 : Hid (IntKind.u16.wrap ((k : Int) + 1) = ((k + 1 : Nat) : Int)) := hid (by have := HLt.out; have := HPn.out; rw [IntKind.wrap_u16]; omega)
    clear z2
    have HQn : Hid (q + sz = pA (k + 1)) := hid (by rw [HPS.out, HQ.out])
    clear HIb HNb HSb
    go_wp2
    go_roundw
    case rel => exact ⟨k + 1, q + sz, A5, c5, HLt.out, by rw [Z3.out], by rw [Z2.out], rfl, HQn, hid (by have := HIq.out; have := HNn.out; omega), HJ2, HO10.out, HB10.out⟩
    case measure =>
     rw [Z3.out]
     have := HLt.out
     simp [intOf]; omega
   ·have HB2 := hid (HBa.out.grow hg)
    have HNo : ¬ II := by
     rw [HIn.out]
     intro h
     have := h k hlt
     rw [← HQ.out] at this
     omega
    clear hg HBa HOa HGk HJ hout
    unfold pg0 Pg.V Pg.C
    simp only []
    go_wp2
    go_ret2
    exact .inr ⟨HNo, rfl, HB2.out.g.trans (Grow.of_alloc _ _)⟩
  ·have e : k = P := by omega
   subst e
   have d1 : decide ((k : Int) < (k : Int)) = false := decide_eq_false (by omega)
   have HI : II := by rw [HIn.out]; exact HJ.out
   clear hlt
   go_wp2
   go_ret2
   exact .inl ⟨HI, As, cs, rfl, HOa.out.zs, HBa.out.g⟩
end Go.Proofs.YtfbimboemahhhaaGreatDoor
