/-
  Several texts in one: The contract of image; The contract of prog.
-/
import Derived.Test.YtaianmonokeimaaIbH19
import Derived.Test.YtaianmonokeimaaIbH17
import Derived.Lib.SmallJoins
namespace Go.Proofs.Ytaianmonokeimaa
open Go.Lib (hid)
open Go.RowKit
set_option maxRecDepth 100000
set_option linter.unusedVariables false
set_option maxHeartbeats 8000000 in
theorem imModel_any (m : Md) (A1 : Option Addr) (n1 c1 : Nat) (S2 : Value) (w : World) (h : ZR sgK w w.heap.size A1 n1 c1 m.segs) (hsm : ∀ s ∈ m.segs, s.pl.own.length ≤ 140737488355328) (hn : n1 ≤ 65536) :
  Calls Try.prog 8 #[.agg (mdC m (.slice A1 n1 c1) S2)] w (ImgR m.entry m.img w) := by
 have H1 := hid h
 have HLn := hid h.len
 have hc := h.cap
 have hm := h.max
 unfold maxLen at hm
 have HSm := hid hsm
 have HSu := hid (fun k (hk : k < m.segs.length) => sgImg_succ hk)
 have HLe := hid (fun k => sgImg_le (l := m.segs) (k := k))
 have HE : Hid (sgImg (m.segs.take n1) = m.img) := hid (by rw [h.len, List.take_length]; rfl)
 have H0 : Hid (sgImg (m.segs.take 0) = []) := hid rfl
 have HN := hid hn
 unfold ImgR
 unfold mdC
 clear h hsm hn
 generalize m.img = IM at HE ⊢
 generalize m.segs = L1 at *
 generalize m.wide = f0
 generalize m.big = f1
 generalize m.osabi = f2
 generalize m.abi = f3
 generalize m.typ = f4
 generalize m.mach = f5
 generalize m.flags = f6
 generalize m.entry = f7
 generalize m.str = f10
 unfold imC
 go_enter Try.func8, Try.ntmps8
 go_wp2_with fail
 generalize hW : World.alloc _ _ = W0
 obtain ⟨b1, b2, b3, hg0⟩ := blk3 hW
 clear hW b1
 have HA : Hid (IBA w (w.heap.size + 1) (w.heap.size + 1 + 1) (w.heap.size + 1 + 1 + 1)) := hid ⟨rfl, by omega, by omega⟩
 have HM : Hid (IB w W0 (w.heap.size + 1) (w.heap.size + 1 + 1) f7 (.slice none 0 0)) := hid ⟨b2, b3, hg0⟩
 clear b2 b3 hg0
 generalize w.heap.size + 1 + 1 + 1 = base at HA
 generalize w.heap.size + 1 + 1 = g3 at HA HM ⊢
 generalize w.heap.size + 1 = g2 at HA HM ⊢
 go_loopw [12] (fun i wr => ∃ (k : Nat) (As : Option Addr) (cs : Nat), k ≤ n1 ∧ i = .int .i64 k ∧ IB w wr g2 g3 f7 (.slice As (sgImg (L1.take k)).length cs) ∧ GR rgK wr base 74 As (sgImg (L1.take k)).length cs (sgImg (L1.take k))) (fun i _ => n1 - (intOf i).toNat)
 case atStart =>
  refine ⟨0, none, 0, Nat.zero_le _, rfl, ?_, ?_⟩
  ·rw [H0.out]; exact HM.out
  ·rw [H0.out]; exact GR.nil trivial
 case round =>
  obtain ⟨k, As, cs, hk, rfl, hm1, hgr⟩ := hrel
  have HMa := hid hm1
  have HGa := hid hgr
  clear hm1 hgr HM
  have HLk := hid (HLe.out k)
  by_cases hlt : k < n1
  ·have hkl : k < L1.length := by rw [← HLn.out]; exact hlt
   obtain ⟨b, off, hAA, hb⟩ := H1.out.pos (by omega)
   subst hAA
   obtain ⟨B1, k1, e1, -, p, g1⟩ := H1.out.at hkl
   have p' : ∀ i v, (sgC L1[k] (.slice B1 k1 e1))[i]? = some v → wr.cell? ⟨b, off + k * 10 + i, none⟩ = some v := fun i v hv => (Below.cell HMa.out.g hb).trans (p i v hv)
   have HSk := hid (HSu.out k hkl)
   have HCl := hid (fun W (hW : Grow w W) => clone_any B1 k1 e1 L1[k].pl.own w.heap.size W (g1.belowAt hW (Nat.le_refl _)) hW.size (by have h1 := HSm.out L1[k] (List.getElem_mem hkl); have h2 := g1.len; change k1 = L1[k].pl.own.length at h2; omega))
   have HRk : Hid (∀ (Ax : Option Addr) (nx cx : Nat), (#[.int .u64 (L1[k].vaddr : Nat), .int .u64 (L1[k].memsz : Nat), .int .u32 (L1[k].flags : Nat), .slice Ax nx cx] : Array Value) = rgK.cs (sgRg L1[k]) (.slice Ax nx cx)) := hid fun _ _ _ => rfl
   have HBy : Hid (L1[k].pl.own = rgK.by_ (sgRg L1[k])) := hid rfl
   clear p g1
   generalize hRg : sgRg L1[k] = rg at HSk HRk HBy
   clear hRg
   generalize L1[k] = s at p' HSk HCl HRk HBy
   clear hkl
   unfold NewB at HCl
   unfold sgC at p'
   have s0 : wr.cell? ⟨b, off + k * 10, none⟩ = _ := p' 0 _ rfl
   have s1 : wr.cell? ⟨b, off + k * 10 + 1, none⟩ = _ := p' 1 _ rfl
   have s2 : wr.cell? ⟨b, off + k * 10 + 2, none⟩ = _ := p' 2 _ rfl
   have s3 : wr.cell? ⟨b, off + k * 10 + 3, none⟩ = _ := p' 3 _ rfl
   have s4 : wr.cell? ⟨b, off + k * 10 + 4, none⟩ = _ := p' 4 _ rfl
   have s5 : wr.cell? ⟨b, off + k * 10 + 5, none⟩ = _ := p' 5 _ rfl
   have s6 : wr.cell? ⟨b, off + k * 10 + 6, none⟩ = _ := p' 6 _ rfl
   have s7 : wr.cell? ⟨b, off + k * 10 + 7, none⟩ = _ := p' 7 _ rfl
   have s8 : wr.cell? ⟨b, off + k * 10 + 8, none⟩ = _ := p' 8 _ rfl
   have s9 : wr.cell? ⟨b, off + k * 10 + 9, none⟩ = _ := p' 9 _ rfl
   clear p'
   have w0 : (0 : Int) ≤ (k : Int) := by omega
   have w1 : (k : Int) < (n1 : Int) := by omega
   have d1 : decide ((k : Int) < (n1 : Int)) = true := decide_eq_true (by omega)
   by_cases ht : s.typ = 1
   ·have d2 : ((s.typ : Int) == 1) = true := by simp [ht]
    rw [if_pos ht] at HSk
    clear ht
    go_wp2_with fail
    generalize hW : World.alloc _ _ = W5
    obtain ⟨b5, hg⟩ := blk1 hW
    obtain ⟨g5, hg5⟩ : ∃ g, g = wr.heap.size := ⟨_, rfl⟩
    rw [← hg5] at b5 ⊢
    clear hW s0 s1 s2 s3 s4 s5 s6 s7 s8 s9
    have HKe : Hid (∀ i, own As = some i → ¬ (i = g3 ∨ i = g5)) := hid (by
     obtain ⟨Rw0, hzo0, _, _⟩ := HGa.out
     exact IB.apart HA.out hzo0 (show wr.heap.size ≤ g5 by omega))
    have hgd := hg.trans (Grow.of_drew W5)
    have HM0 := hid (HMa.out.grow hgd)
    have HG0 := hid (HGa.out.keep hgd)
    have HP0 := hid b5.drew
    clear b5 hg hgd hg5 HMa HGa
    refine wp_region_last (leap_kept (fun j => j = g3 ∨ j = g5)) [(0, true), (1, true), (2, true), (3, true), (4, true), (5, true), (6, true), (7, true), (8, true), (9, true), (10, true), (11, false), (12, true), (13, false), (14, false), (15, true)] 16 (by kernel_rfl) (by kernel_rfl) (by kernel_rfl) ?_
    generalize W5.drew = v0 at HM0 HG0 HP0 ⊢
    have q0 : ∀ W, Kept (fun j => j = g3 ∨ j = g5) v0 W → W.cell? ⟨g5, 0, none⟩ = some (.int .u32 (s.typ : Nat)) := fun W hW => (HP0.out.kept hW (.inr rfl)).at 0
    have q1 : ∀ W, Kept (fun j => j = g3 ∨ j = g5) v0 W → W.cell? ⟨g5, 1, none⟩ = some (.int .u32 (s.flags : Nat)) := fun W hW => (HP0.out.kept hW (.inr rfl)).at 1
    have q2 : ∀ W, Kept (fun j => j = g3 ∨ j = g5) v0 W → W.cell? ⟨g5, 2, none⟩ = some (.int .u64 (s.vaddr : Nat)) := fun W hW => (HP0.out.kept hW (.inr rfl)).at 2
    have q4 : ∀ W, Kept (fun j => j = g3 ∨ j = g5) v0 W → W.cell? ⟨g5, 4, none⟩ = some (.int .u64 (s.memsz : Nat)) := fun W hW => (HP0.out.kept hW (.inr rfl)).at 4
    have q9 : ∀ W, Kept (fun j => j = g3 ∨ j = g5) v0 W → W.cell? ⟨g5, 9, none⟩ = some (.slice B1 k1 e1) := fun W hW => (HP0.out.kept hW (.inr rfl)).at 9
    have r1 : ∀ W, Kept (fun j => j = g3 ∨ j = g5) v0 W → W.cell? ⟨g3, 1, none⟩ = some (.slice As (sgImg (L1.take k)).length cs) := fun W hW => (HM0.out.x.kept hW (.inl rfl)).at 1
    repeat ((first | (refine chain_take rfl (by rfl) ?_ (fun W hG => ?_) ?_; rotate_left; (go_simp; rfl)) | refine chain_skip rfl (by rfl) ?_); simp only [Act.put, List.setIfInBounds_toArray, List.set_cons_zero, List.set_cons_succ])
    clear q0 q1 q2 q4 q9 r1 HP0
    refine chain_only rfl (by rfl) (fun K hK => ?_)
    go_simp
    refine (HCl.out _ HM0.out.g).mono ?_
    rintro e v1 ⟨Ax, cx, rfl, ho, hg⟩
    refine hK _ _ (Kept.of_grow hg) ?_
    clear hK K
    have HO1 := hid (ho.mono (HM0.out.base_le HA.out))
    have HM1 := hid (HM0.out.grow hg)
    have HG1 := hid (HG0.out.keep hg)
    clear ho HM0 HG0 hg
    repeat ((first | (refine chain_take rfl (by rfl) ?_ (fun W hG => ?_) ?_; rotate_left; (go_simp; rfl)) | refine chain_skip rfl (by rfl) ?_); simp only [Act.put, List.setIfInBounds_toArray, List.set_cons_zero, List.set_cons_succ])
    refine chain_only rfl (by rfl) (fun K hK => ?_)
    go_simp
    refine hK _ _ (Kept.of_grow (Grow.of_alloc _ _)) ?_
    clear hK K
    generalize hW : World.alloc _ _ = v3
    obtain ⟨bn, hg⟩ := blk1 hW
    clear hW
    have HN3 := hid bn
    have HM3 := hid (HM1.out.grow hg)
    have HG3 := hid (HG1.out.keep hg)
    have HO3 := hid (HO1.out.keep hg)
    clear bn HM1 HG1 HO1 hg
    refine chain_only rfl (by rfl) (fun K hK => ?_)
    obtain ⟨Rw, hzo, hlr, hro⟩ := HG3.out
    have HBs := hid (HM3.out.base_le HA.out)
    refine wp_appendZ _ (.tmp 20) (.tmp 32) 40 rfl base 74 (.agg #[.int .u64 0, .int .u64 0, .int .u32 0, .slice none 0 0]) 4 48 Try.underlying40 (by kernel_rfl) rfl (by omega) As _ cs Rw rfl hzo _ _ _ rfl HN3.out rfl (by simp [Value.oneCell']) (by have := HLk.out; have := HN.out; unfold maxLen; omega) (by have := HLk.out; have := HN.out; omega) HBs.out ?_
    intro A5 c5 v4 ho9 hg9 _
    refine hK _ _ (kept_row hg9 HKe.out) ?_
    clear hK K
    have HM4 := hid (HM3.out.by_ HA.out hg9 (fun i e => hzo.ge e))
    have HG4 : Hid (GR rgK v4 base 74 A5 ((sgImg (L1.take k)).length + 1) c5 (sgImg (L1.take (k + 1)))) := hid (by
     rw [HSk.out]
     exact GR.snoc hzo hlr hro ⟨Ax, _, cx, HRk.out Ax _ cx, HBy.out ▸ HO3.out⟩ (by decide) ho9 hg9)
    clear ho9 hg9 hzo hlr hro HBs HM3 HG3 HO3 HN3
    have hle : (sgImg (L1.take k)).length + 1 = (sgImg (L1.take (k + 1))).length := by rw [HSk.out, List.length_append]; rfl
    rw [hle] at HG4 ⊢
    clear hle
    repeat ((first | (refine chain_take rfl (by rfl) ?_ (fun W hG => ?_) ?_; rotate_left; (go_simp; rfl)) | refine chain_skip rfl (by rfl) ?_); simp only [Act.put, List.setIfInBounds_toArray, List.set_cons_zero, List.set_cons_succ])
    refine chain_done (last_op rfl (by rfl) (fun K hK => ?_))
    have c9 := HM4.out.x.at 1
    have s9 := HM4.out.x.soft 1
    go_simp
    refine hK _ _ ?_
    clear hK K c9 s9
    have e9 := setCell_eq_setRow v4 g3 1 _ 42 (0, 0) (.slice A5 (sgImg (L1.take (k + 1))).length c5) HM4.out.x
    have HM5 := hid (HM4.out.set HA.out (.slice A5 (sgImg (L1.take (k + 1))).length c5))
    have HG5 := hid (HG4.out.set (show g3 < base by have := HA.out.b; omega) #[.int .u64 (f7 : Nat), .slice A5 (sgImg (L1.take (k + 1))).length c5])
    rw [e9]
    clear e9 HM4 HG4
    go_wp2
    go_roundw
    case rel => exact ⟨k + 1, A5, c5, by omega, by go_num, HM5.out, HG5.out⟩
    case measure => simp [intOf]; omega
   ·have d2 : ((s.typ : Int) == 1) = false := by simp; omega
    rw [if_neg ht, List.append_nil] at HSk
    have hgr := Grow.of_alloc wr (.cells #[.int .u32 (s.typ : Nat), .int .u32 (s.flags : Nat), .int .u64 (s.vaddr : Nat), .int .u64 (s.paddr : Nat), .int .u64 (s.memsz : Nat), .int .u64 (s.align : Nat), .int .i64 s.pl.inn, .int .u64 (s.pl.off : Nat), .int .u64 (s.pl.size : Nat), .slice B1 k1 e1] 53)
    have HM5 := hid (HMa.out.grow hgr)
    have HG5 := hid (HGa.out.keep hgr)
    rw [← HSk.out] at HM5 HG5
    clear hgr ht
    go_wp2
    go_roundw
    case rel => exact ⟨k + 1, As, cs, by omega, by go_num, HM5.out, HG5.out⟩
    case measure => simp [intOf]; omega
  ·have e : k = n1 := by omega
   rw [e, HE.out] at HMa HGa
   have d1 : decide ((k : Int) < (n1 : Int)) = false := decide_eq_false (by omega)
   clear e HLk
   obtain ⟨x0, x1⟩ := HMa.out.x.c2
   go_wp2_with (refine wpList_store_row rfl 42 (.tmp 2) (.tmp 36) rfl g2 _ rfl rfl _ _ HMa.out.z (by kernel_rfl) rfl (by simp [Value.oneCell']) ?_)
   clear x0 x1
   refine bodyPost_ret (results_cell_row rfl _ _ g2 _ _ (0, 0) _ rfl (HMa.out.z.set _) Try.underlying42 rfl (by kernel_rfl)) rfl ?_
   exact ⟨As, cs, rfl, (HGa.out.set (show g2 < base by have := HA.out.b; have := HA.out.a2; omega) _).mono (by have := HA.out.b; have := HA.out.a2; have := HA.out.w2; omega), Grow.set HMa.out.g HA.out.w2 _⟩
def PGot (l : List UInt8) (p : Nat) (wide big : Bool) (w : World) (e : Ending) (w' : World) : Prop :=
 (p + pSize wide ≤ l.length ∧ e = .returned (.tuple #[(pgOf l p wide big).V, .nilIface]) ∧ Grow w w') ∨
 (l.length < p + pSize wide ∧ e = .returned (.tuple #[pg0.V, .iface 67 (.int .i64 2)]) ∧ Grow w w')
theorem sz_pg (p : Pg) : (Try.prog.info? 82).map (·.size) = some p.C.size := by kernel_rfl
theorem Blk.put {w : World} {g : Nat} {t : TypeId} {l : List Nat} (h : Blk w g t (u64s l)) (i x : Nat) : Blk (w.setCell ⟨g, i, none⟩ (.int .u64 (x : Int))) g t (u64s (l.set i x)) := by
 have := Joins.block_setCell (i := i) h (.int .u64 (x : Int))
 rw [Blk, this]
 simp [u64s, List.map_set]
theorem pgot_ret {K : Ending → World → Prop} {W : World} {tmps : Array Value} {g : Nat} {err : Value} {t : TypeId} {h : Pg} (ht : tmps.getD 6 undef = .pointer (some ⟨g, 0, none⟩)) (he : tmps.getD 7 undef = err)
  (hx : Blk W g t h.C) (hk : K (.returned (.tuple #[h.V, err])) W) : bodyPost Try.prog Try.f36 K .ret ⟨tmps, []⟩ W := by
 refine bodyPost_ret (v := .tuple #[h.V, err]) ?_ rfl hk
 rw [results_cell_tmp rfl, ht, he]
 simp [asAddr, Result.andThen, hx.var _ _ Try.underlying82 rfl (by kernel_rfl)]
 rfl
set_option maxHeartbeats 400000 in
theorem pGet_any (A : Option Addr) (n c : Nat) (l : List UInt8) (p : Nat) (wide big : Bool) (w : World) (h : RB w w.heap.size A n c l) (hp : p < 18446744073709551616) :
  Calls Try.prog 36 #[.slice A n c, .int .u64 p, .agg #[.bool wide, .bool big]] w (PGot l p wide big w) := by
 have HR := hid h
 have HLen := hid h.len
 have hcp := h.cap
 have hmx := h.max
 unfold maxLen at hmx
 clear h
 have HSz := hid (fun w => pSize_any wide big w)
 have HOr := hid (fun w => pOrd_any wide big w)
 have HWi := hid (fun i w => pWid_any wide big i w)
 have HAO : Hid (∀ k, k < 8 → (i64s (pOrd wide))[k]? = some (.int .i64 ((pOrd wide).getD k 0 : Nat))) := hid (fun k hk => idx_i64s _ _ (by rw [len_pOrd]; exact hk))
 have HOl := hid (pOrd_lt wide)
 have HOk : Hid (∀ k, k < 8 → (pOrd wide)[k]? = some ((pOrd wide).getD k 0)) := hid (fun k hk => by rw [List.getD_eq_getElem?_getD, List.getElem?_eq_getElem (by rw [len_pOrd]; exact hk)]; rfl)
 have HAt := hid (pgOf_at l p wide big)
 have HNA : Hid (∀ k, k < 8 → (pX l p wide big).getD k 0 = getB ((l.drop (p + sumN ((pRow wide).take k))).take (pWid wide ((pOrd wide).getD k 0))) big) := hid (fun k hk => by
  have h1 : k < (pRow wide).length := by rw [len_pRow]; exact hk
  have := nums_at l big (pRow wide) p k h1
  rw [pX, List.getD_eq_getElem?_getD, this]
  simp only [pRow, List.getElem_map, Option.getD_some]
  rw [List.getD_eq_getElem?_getD, List.getElem?_eq_getElem (by rw [len_pOrd]; exact hk)]
  rfl)
 have HSu : Hid (∀ k, k < 8 → sumN ((pRow wide).take (k + 1)) = sumN ((pRow wide).take k) + pWid wide ((pOrd wide).getD k 0)) := hid (fun k hk => by
  have h1 : k < (pRow wide).length := by rw [len_pRow]; exact hk
  rw [sumN_succ _ k h1]
  simp only [pRow, List.getElem_map]
  rw [List.getD_eq_getElem?_getD, List.getElem?_eq_getElem (by rw [len_pOrd]; exact hk)]
  rfl)
 have HSl : Hid (∀ k, sumN ((pRow wide).take k) ≤ pSize wide) := hid (fun k => by rw [← sum_pRow]; exact sumN_le _ _)
 have HWw := hid (pWid_wid wide)
 have HHd : Hid (∀ w, Calls Try.prog 61 #[.agg (u64s (pgOf l p wide big).N)] w fun e w' => e = .returned (pgOf l p wide big).V ∧ Grow w w') := hid (fun w =>
  have ok := pgOf_ok l p wide big
  pHdr_any _ _ _ _ _ _ _ _ w ok.ty ok.fl)
 have HAll : Hid (laidIn (pOrd wide) (pgOf l p wide big).N 8 8 = (pgOf l p wide big).N) := hid (by
  have := laidIn_all (os := pOrd wide) (ns := (pgOf l p wide big).N) (n := 8) (pOrd_all wide) rfl
  rwa [len_pOrd] at this)
 have HSp : Hid (pSize wide ≤ 56) := by cases wide <;> exact hid (by decide)
 have HC : Hid ((pgOf l p wide big).C.size = 8) := hid rfl
 have HC1 := hid (pgOf l p wide big).one
 unfold PGot
 generalize hpg : pgOf l p wide big = pg at HAt HHd HAll HC HC1 ⊢
 clear hpg
 generalize pX l p wide big = xs at HAt HNA
 generalize i64s (pOrd wide) = RO at HOr HAO
 generalize pRow wide = row at HNA HSu HSl
 generalize pOrd wide = os at HAO HOl HOk HAt HNA HSu HAll
 generalize pSize wide = sz at HSz HSp HSl ⊢
 generalize hns : pg.N = ns at HAt HHd HAll
 have HVC : Hid (pg.V = .agg pg.C) := hid rfl
 clear hns
 go_enter Try.func36, Try.ntmps36
 go_wp2_with fail
 generalize hW : World.alloc _ _ = W0
 obtain ⟨bf, b6, hg0⟩ := blk2 hW
 clear hW
 refine (HSz.out W0).mono ?_
 rintro e w1 ⟨rfl, hg1⟩
 have HBF1 := hid (bf.grow hg1)
 have HB61 : Hid (Blk w1 (w.heap.size + 1) 82 pg0.C) := b6.grow hg1
 have HG1 : Hid (Grow w w1) := hg0.trans hg1
 clear bf b6 hg0 hg1
 have z1 : IntKind.u64.wrap (sz : Int) = (sz : Int) := by rw [IntKind.wrap_u64]; have := HSp.out; omega
 have z2 : IntKind.u64.wrap (n : Int) = (n : Int) := by rw [IntKind.wrap_u64]; omega
 go_wp2_with fail
 refine (within_any p sz n _ (by omega) (by omega) (by omega)).mono ?_
 rintro e w2 ⟨rfl, rfl⟩
 have hwt : wthn (p : Int) (sz : Int) (n : Int) = decide (p + sz ≤ l.length) := by
  have e := HLen.out
  simp only [wthn]
  rw [Bool.eq_iff_iff, decide_eq_true_iff, decide_eq_true_iff]; omega
 rw [hwt]
 clear hwt z1 z2
 by_cases hin : p + sz ≤ l.length
 ·rw [decide_eq_true hin]
  have HIn := hid hin
  have HS1 := HSp.out
  have HSl2 : Hid (∀ k, p + sumN (row.take k) ≤ n) := hid (fun k => by have := HSl.out k; have := HLen.out; omega)
  clear hin
  obtain ⟨y0, y1⟩ := (HBF1.out.alloc (.cells #[.int .u64 0, .int .u64 0, .int .u64 0, .int .u64 0, .int .u64 0, .int .u64 0, .int .u64 0, .int .u64 0] 117)).c2
  go_wp2_with fail
  clear y0 y1
  refine (HOr.out _).mono ?_
  rintro e w3 ⟨rfl, hg3⟩
  have hb8 : Blk w3 w1.heap.size 117 (u64s (List.replicate 8 0)) := (Blk.new w1 117 (u64s (List.replicate 8 0))).grow hg3
  rw [← laidIn_zero os ns 8] at hb8
  have HB8 := hid hb8
  have HBF3 := hid ((HBF1.out.alloc _).grow hg3)
  have HB63 := hid ((HB61.out.alloc _).grow hg3)
  have HG3 : Hid (Grow w w3) := (HG1.out.trans (Grow.of_alloc _ _)).trans hg3
  have HG8 : Hid (w.heap.size + 1 < w1.heap.size) := HB61.out.lt
  generalize w1.heap.size = g8 at HB8 HG8 ⊢
  clear hb8 hg3 HBF1 HB61 HG1
  go_wp2_with fail
  go_loopw [1, 25] (fun a i wr => ∃ (k q : Nat), k ≤ 8 ∧ i = .int .i64 k ∧ a = .int .u64 q ∧ q = p + sumN (row.take k) ∧ Blk wr w.heap.size 23 #[.bool wide, .bool big] ∧ Blk wr (w.heap.size + 1) 82 pg0.C ∧ Blk wr g8 117 (u64s (laidIn os ns 8 k)) ∧ Grow w wr) (fun _ i _ => 8 - (intOf i).toNat)
  case atStart => exact ⟨0, p, by omega, rfl, rfl, rfl, HBF3.out, HB63.out, HB8.out, HG3.out⟩
  case round =>
   obtain ⟨k, q, hk, rfl, rfl, hq, hbf, hb6, hb8, hg⟩ := hrel
   have HBF := hid hbf
   have HB6 := hid hb6
   have HB8k := hid hb8
   have HG := hid hg
   have HQ := hid hq
   have hqn : q ≤ n := by rw [hq]; exact HSl2.out k
   clear hbf hb6 hb8 hg hq HBF3 HB63 HB8 HG3
   by_cases hlt : k < 8
   ·have HK2 := hid (HAO.out k hlt)
    have HKo := hid (HOk.out k hlt)
    have ho8 := HOl.out k hlt
    have HAk := hid (HAt.out k hlt)
    have HNk := hid (HNA.out k hlt)
    have HSk := hid (HSu.out k hlt)
    rw [← HQ.out] at HNk
    have HW2 := hid (fun w => HWi.out (os.getD k 0) w)
    have HWk := hid (HWw.out (os.getD k 0))
    have hqm : q + pWid wide (os.getD k 0) ≤ n := by rw [HQ.out, Nat.add_assoc, ← HSk.out]; exact HSl2.out (k + 1)
    rw [HNk.out] at HAk
    generalize pWid wide (os.getD k 0) = m at HNk HSk HW2 HWk hqm HAk
    generalize os.getD k 0 = i at HK2 HKo ho8 HAk HW2
    have z1 : (0 : Int) ≤ (i : Int) := by omega
    have z2 : (i : Int) < 8 := by omega
    obtain ⟨y0, y1⟩ := HBF.out.c2
    go_wp2_with (refine wpList_index rfl 119 3 (.tmp 24) (.tmp 25) rfl 8 _ Try.underlying119 Try.underlying3 rfl (by kernel_rfl) RO k (.int .i64 (i : Int)) rfl rfl hlt HK2.out ?_)
    clear y0 y1
    refine (HW2.out _).mono ?_
    rintro e w4 ⟨rfl, hg4⟩
    have HBF4 := hid (HBF.out.grow hg4)
    have HB64 := hid (HB6.out.grow hg4)
    have HB84 := hid (HB8k.out.grow hg4)
    have HG4 : Hid (Grow w w4) := HG.out.trans hg4
    clear hg4 HBF HB6 HB8k HG
    obtain ⟨y0, y1⟩ := HBF4.out.c2
    go_wp2_with fail
    clear y0 y1
    refine (get_any A n c l _ q m big _ (HR.out.belowAt HG4.out (Nat.le_refl _)) (by omega)).mono ?_
    rintro e w5 ⟨rfl, j, hw5⟩
    have hgb : gotB l q m = true := by
     simp only [gotB, HWk.out, Bool.true_and, wthn]
     exact decide_eq_true (by have := HLen.out; omega)
    have hgv : gotV l q m big = getB ((l.drop q).take m) big := by
     simp only [gotV, hgb, if_true, Int.toNat_natCast]
    rw [hgb, hgv]
    generalize getB ((l.drop q).take m) big = v at HAk ⊢
    have HBF5 : Hid (Blk w5 w.heap.size 23 #[.bool wide, .bool big]) := by rw [hw5]; exact HBF4.out
    have HB65 : Hid (Blk w5 (w.heap.size + 1) 82 pg0.C) := by rw [hw5]; exact HB64.out
    have HB85 : Hid (Blk w5 g8 117 (u64s (laidIn os ns 8 k))) := by rw [hw5]; exact HB84.out
    have HG5 : Hid (Grow w w5) := by rw [hw5]; exact HG4.out.trans (Grow.of_drewN _ _)
    clear hgb hgv hw5 HBF4 HB64 HB84 HG4
    have c1 : w5.cell? ⟨g8, i, none⟩ = some (.int .u64 ((laidIn os ns 8 k).getD i 0 : Nat)) := by rw [HB85.out.at, idx_u64s _ _ (by rw [len_laidIn]; exact ho8)]
    have f1 := HB85.out.soft i
    have hB := HB85.out.put i v
    rw [laidIn_succ HKo.out HAk.out] at hB
    have HB86 := hid hB
    have HBF6 := hid (HBF5.out.cellset (a := ⟨g8, i, none⟩) (show w.heap.size ≠ g8 by have := HG8.out; omega) (.int .u64 (v : Int)))
    have HB66 := hid (HB65.out.cellset (a := ⟨g8, i, none⟩) (show w.heap.size + 1 ≠ g8 by have := HG8.out; omega) (.int .u64 (v : Int)))
    have HG6 : Hid (Grow w (w5.setCell ⟨g8, i, none⟩ (.int .u64 (v : Int)))) := Grow.cellset HG5.out (by have := HG8.out; omega) _ _
    have z3 : IntKind.u64.wrap (m : Int) = (m : Int) := by rw [IntKind.wrap_u64]; omega
    have z4 : IntKind.u64.wrap ((q : Int) + (m : Int)) = ((q + m : Nat) : Int) := by rw [IntKind.wrap_u64]; omega
    clear hB
    go_wp2_with fail
    go_roundw
    case rel => exact ⟨k + 1, q + m, by omega, by go_num, rfl, by rw [HSk.out, HQ.out]; omega, HBF6.out, HB66.out, HB86.out, HG6.out⟩
    case measure => simp [intOf]; omega
   ·have e : k = 8 := by omega
    rw [e, HAll.out] at HB8k
    have HNs : Hid ((u64s ns).size = 8) := hid (by rw [← HAll.out]; simp [u64s, len_laidIn])
    generalize u64s ns = RN at HHd HB8k HNs
    clear HSl HSl2 HNA
    go_wp2_with (refine wpList_load_row rfl 117 (.tmp 8) rfl g8 rfl _ RN (0, 0) _ HB8k.out Try.underlying117 rfl (by rw [HNs.out]; kernel_rfl) ?_)
    refine (HHd.out _).mono ?_
    rintro e w5 ⟨rfl, hg5⟩
    have HB65 := hid (HB6.out.grow hg5)
    have HG5 : Hid (Grow w w5) := HG.out.trans hg5
    clear hg5
    rw [HVC.out]
    have HB66 := hid (HB65.out.set pg.C)
    have HG6 : Hid (Grow w (w5.setRow (w.heap.size + 1) pg.C)) := Grow.set HG5.out (Nat.le_succ _) _
    obtain ⟨R, hR⟩ : ∃ R, R = pg.C := ⟨_, rfl⟩
    rw [← hR] at HC HC1 HG6 HB66 ⊢
    have HR2 := hid hR
    clear hR
    go_wp2_with (refine wpList_store_row rfl 82 (.tmp 6) (.tmp 48) rfl (w.heap.size + 1) R rfl rfl _ _ HB65.out (by rw [HC.out]; kernel_rfl) (by rw [HC.out]; rfl) HC1.out ?_)
    rw [HR2.out] at HB66 HG6 ⊢
    exact pgot_ret (err := .nilIface) rfl rfl HB66.out (.inl ⟨HIn.out, rfl, HG6.out⟩)
 ·rw [decide_eq_false hin]
  have HIn : Hid (l.length < p + sz) := hid (by omega)
  clear hin
  go_wp2_with (refine wpList_store_row rfl 82 (.tmp 6) (.tmp 21) rfl (w.heap.size + 1) pg0.C rfl rfl _ _ HB61.out (sz_pg pg0) rfl pg0.one ?_; rw [HB61.out.same])
  exact pgot_ret rfl rfl HB61.out (.inr ⟨HIn.out, rfl, HG1.out⟩)
end Go.Proofs.Ytaianmonokeimaa
