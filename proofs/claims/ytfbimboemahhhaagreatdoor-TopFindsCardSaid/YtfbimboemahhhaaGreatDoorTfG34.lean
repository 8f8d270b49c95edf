/-
  Several texts in one: The contract of (tables).
-/
import Derived.Test.YtfbimboemahhhaaGreatDoorTfG33
import Derived.Test.YtfbimboemahhhaaGreatDoorTfG17
namespace Go.Proofs.YtfbimboemahhhaaGreatDoor
open Go.Lib (hid)
open Go.RowKit
set_option maxRecDepth 100000
set_option linter.unusedVariables false
def MdlR (m : Md) (w : World) (e : Ending) (w' : World) : Prop :=
 ∃ A1 n1 c1 A2 n2 c2, e = .returned (.agg (mdC m (.slice A1 n1 c1) (.slice A2 n2 c2))) ∧ GR sgK w' w.heap.size 70 A1 n1 c1 m.segs ∧ GR seK w' w.heap.size 57 A2 n2 c2 m.secs ∧ Grow w w'
set_option maxHeartbeats 20000000 in
theorem flModel_any (l : List UInt8) (A : Option Addr) (n c : Nat) (A1 : Option Addr) (c1 : Nat) (A2 : Option Addr) (c2 : Nat) (w : World) (hr : RB w w.heap.size A n c l) (hc0 : (cntE l).1 = 0) (ht0 : (tabE l).1 = 0) (hlen : l.length ≤ 65536)
  (hz : ZS w w.heap.size 8 A1 (nP l) c1 (pgR l (nP l))) (hy : ZS w w.heap.size 10 A2 (nS l - 1) c2 (scR l (nS l - 1))) :
  Calls Tryz.prog 44 #[.agg #[.slice A n c, .slice A1 (nP l) c1, .slice A2 (nS l - 1) c2, .int .u64 (nI l : Nat)], (hdOf l).V] w (MdlR (mdF l) w) := by
 have hn := hr.len
 have hP : nP l ≤ 16 := (pg_ok (cnt_ok hc0).2.1).1
 have hS : nS l ≤ 65 := by rcases sc_ok (cnt_ok hc0).1 with h | h <;> omega
 have hok := hdOf_ok l
 have fok : (fst_ l).Ok := by
  unfold fst_
  split
  ·exact ⟨by decide, by decide, by decide, by decide, by decide, by decide, by decide, by decide, by decide, by decide⟩
  ·exact scOf_ok _ _ _ _
 have hI : nI l < 4294967296 := by
  unfold nI
  split
  ·exact fok.li
  ·have := hok.st; omega
 obtain ⟨ht1, ht2⟩ : fstC (pBad l) (List.range (nP l)) = 0 ∧ fstC (sBad l) (List.range (nS l - 1)) = 0 := by
  unfold tabE at ht0
  split at ht0
  ·simp at ht0
  split at ht0
  ·simp at ht0
  ·rename_i h1 h2
   exact ⟨by omega, by omega⟩
 have HPl : Hid (∀ k, k < nP l → ∀ W, Grow w W → Calls Tryz.prog 98 #[.agg #[.slice A n c, .slice A1 (nP l) c1, .slice A2 (nS l - 1) c2, .int .u64 (nI l : Nat)], (pgs l k).V] W (PlaceR (pgPl l (pgs l k)) W)) := hid fun k hk W hg =>
  progPlace_any l A n c A1 c1 _ _ (pgs l k) (pgOf_ok _ _ _ _) W (hr.grow hg) (hz.grow hg) (by
   have h := fstC_zero.1 ht1 k (List.mem_range.2 hk)
   unfold pBad at h
   rw [hn]
   split at h
   ·assumption
   ·omega) (by omega) hP
 have HSl : Hid (∀ k, k < nS l - 1 → ∀ W, Grow w W → Calls Tryz.prog 100 #[.agg #[.slice A n c, .slice A1 (nP l) c1, .slice A2 (nS l - 1) c2, .int .u64 (nI l : Nat)], .int .i64 (k : Int)] W (PlaceR (scPl l k (scs l (k + 1))) W)) := hid fun k hk W hg =>
  sectPlace_any l A n c A1 c1 A2 c2 k W (hr.grow hg) (hz.grow hg) (hy.grow hg) hk (by
   have h := fstC_zero.1 ht2 k (List.mem_range.2 hk)
   unfold sBad at h
   rw [hn]
   split at h
   ·assumption
   ·omega) (by omega) hP hS (by omega)
 have HSg := hid (fun k q (B : Option Addr) (n c : Nat) W => segOf_any (pgs l k) q B n c W)
 have HSe := hid (fun k q (B : Option Addr) (n c : Nat) W => secOf_any (scs l (k + 1)) q B n c W)
 have HA1 := hid (fun k h h' => pgR_at l (nP l) k h h')
 have HA2 := hid (fun k h h' => scR_at l (nS l - 1) k h h')
 have HL1 : Hid ((pgR l (nP l)).length = nP l) := hid (by simp [pgR])
 have HL2 : Hid ((scR l (nS l - 1)).length = nS l - 1) := hid (by simp [scR])
 have HF1 : Hid (∀ k, segF l k = ⟨(pgs l k).ty, (pgs l k).fl, (pgs l k).va, (pgs l k).pa, (pgs l k).ms, (pgs l k).al, pgPl l (pgs l k)⟩) := hid fun k => rfl
 have HF2 : Hid (∀ k, secF l k = ⟨(scs l (k + 1)).na, (scs l (k + 1)).ty, (scs l (k + 1)).fl, (scs l (k + 1)).ad, (scs l (k + 1)).sz, (scs l (k + 1)).li, (scs l (k + 1)).inf, (scs l (k + 1)).al, (scs l (k + 1)).en, scPl l k (scs l (k + 1))⟩) := hid fun k => rfl
 have HM1 := hid (range_map (segF l))
 have HM2 := hid (range_map (secF l))
 have HZ1 := hid hz
 have HZ2 := hid hy
 have hz1 := hz.cap
 have hz2 := hz.max
 have hy1 := hy.cap
 have hy2 := hy.max
 unfold maxLen at hz2 hy2
 have z1 : IntKind.i64.wrap (nI l : Int) = (nI l : Int) := by rw [IntKind.wrap_i64]; omega
 have HMd : Hid (mdF l = ⟨lWide l, lBig l, (l.getD 7 0).toNat, (l.getD 8 0).toNat, (hdOf l).ty, (hdOf l).ma, (hdOf l).fl, (hdOf l).en, (List.range (nP l)).map (segF l), (List.range (nS l - 1)).map (secF l), (nI l : Int)⟩) := hid rfl
 have HPb : Hid (nP l ≤ 16 ∧ nS l - 1 ≤ 64) := hid ⟨hP, by omega⟩
 unfold PlaceR at HPl HSl
 unfold MdlR
 obtain ⟨y7, y8, y10, y11, y12, hC⟩ : ∃ y7 y8 y10 y11 y12 : Value, (hdOf l).C = #[.bool (lWide l), .bool (lBig l), .int .u8 ((l.getD 7 0).toNat : Int), .int .u8 ((l.getD 8 0).toNat : Int), .int .u16 ((hdOf l).ty : Int), .int .u16 ((hdOf l).ma : Int), .int .u64 ((hdOf l).en : Int), y7, y8, .int .u32 ((hdOf l).fl : Int), y10, y11, y12] := ⟨_, _, _, _, _, rfl⟩
 unfold Hd.V
 rw [hC]
 rw [HMd.out]
 clear hC hr hc0 ht0 hlen hz hy hn hP hS hok fok hI ht1 ht2 HMd
 unfold mdC
 simp only []
 generalize nP l = P at *
 generalize nS l - 1 = S at *
 generalize nI l = I at *
 generalize lWide l = wide at *
 generalize lBig l = big at *
 generalize (l.getD 7 0).toNat = hO at *
 generalize (l.getD 8 0).toNat = hA at *
 generalize (hdOf l).ty = ty at *
 generalize (hdOf l).ma = ma at *
 generalize (hdOf l).fl = fl at *
 generalize (hdOf l).en = en at *
 generalize segF l = sF at *
 generalize secF l = eF at *
 generalize pgR l P = R1 at *
 generalize scR l S = R2 at *
 generalize pgPl l = pP at *
 generalize scPl l = sP at *
 generalize pgs l = pgF at *
 generalize scs l = scF at *
 go_enter Tryz.func44, Tryz.ntmps44
 go_wp2_with fail
 clear z1
 generalize hW : World.alloc _ _ = W0
 obtain ⟨b0, b1, b2, b3, hg⟩ := blk4 hW
 clear hW
 have HA : Hid (MBA w w.heap.size (w.heap.size + 1) (w.heap.size + 1 + 1) (w.heap.size + 1 + 1 + 1) (w.heap.size + 1 + 1 + 1 + 1)) := hid ⟨rfl, by omega, by omega, by omega, by omega, by omega, by omega, by omega, by omega⟩
 have HM : Hid (MB w W0 w.heap.size (w.heap.size + 1) (w.heap.size + 1 + 1) (w.heap.size + 1 + 1 + 1) #[.slice A n c, .slice A1 P c1, .slice A2 S c2, .int .u64 (I : Int)] #[.bool wide, .bool big, .int .u8 (hO : Int), .int .u8 (hA : Int), .int .u16 (ty : Int), .int .u16 (ma : Int), .int .u64 (en : Int), y7, y8, .int .u32 (fl : Int), y10, y11, y12] #[.bool false, .bool false, .int .u8 0, .int .u8 0, .int .u16 0, .int .u16 0, .int .u32 0, .int .u64 0, .slice none 0 0, .slice none 0 0, .int .i64 0] (fun x y => #[.bool wide, .bool big, .int .u8 (hO : Int), .int .u8 (hA : Int), .int .u16 (ty : Int), .int .u16 (ma : Int), .int .u32 (fl : Int), .int .u64 (en : Int), x, y, .int .i64 (I : Int)]) (.slice none 0 0) (.slice none 0 0)) := hid ⟨b0, b1, b2, b3, hg⟩
 clear b0 b1 b2 b3 hg
 generalize w.heap.size + 1 + 1 + 1 + 1 = base at HA
 generalize w.heap.size + 1 + 1 + 1 = g3 at HA HM ⊢
 generalize w.heap.size + 1 + 1 = g2 at HA HM ⊢
 generalize w.heap.size + 1 = g1 at HA HM ⊢
 obtain ⟨g0, hg0⟩ : ∃ g, g = w.heap.size := ⟨_, rfl⟩
 rw [← hg0] at HA HM ⊢
 clear hg0
 go_loopw [27] (fun i wr => ∃ (k : Nat) (As : Option Addr) (cs : Nat), k ≤ P ∧ i = .int .i64 k ∧ MB w wr g0 g1 g2 g3 #[.slice A n c, .slice A1 P c1, .slice A2 S c2, .int .u64 (I : Int)] #[.bool wide, .bool big, .int .u8 (hO : Int), .int .u8 (hA : Int), .int .u16 (ty : Int), .int .u16 (ma : Int), .int .u64 (en : Int), y7, y8, .int .u32 (fl : Int), y10, y11, y12] #[.bool false, .bool false, .int .u8 0, .int .u8 0, .int .u16 0, .int .u16 0, .int .u32 0, .int .u64 0, .slice none 0 0, .slice none 0 0, .int .i64 0] (fun x y => #[.bool wide, .bool big, .int .u8 (hO : Int), .int .u8 (hA : Int), .int .u16 (ty : Int), .int .u16 (ma : Int), .int .u32 (fl : Int), .int .u64 (en : Int), x, y, .int .i64 (I : Int)]) (.slice As k cs) (.slice none 0 0) ∧ GR sgK wr base 70 As k cs ((List.range k).map sF)) (fun i _ => P - (intOf i).toNat)
 case atStart => exact ⟨0, none, 0, by omega, rfl, HM.out, GR.nil trivial⟩
 case round =>
  obtain ⟨k, As, cs, hk, rfl, hm, hgr⟩ := hrel
  have HMa := hid hm
  have HGa := hid hgr
  clear hm hgr HM
  by_cases hlt : k < P
  ·have HLt := hid hlt
   have HK : Hid (k ≤ 64) := hid (by have := HPb.out.1; omega)
   obtain ⟨b, o, hAA, hb, hcell⟩ := HZ1.out.pos (by omega)
   subst hAA
   have hkR : k < R1.length := by rw [HL1.out]; exact hlt
   have hcell' : ∀ i v, (pgF k).C[i]? = some v → wr.cell? ⟨b, o + k * 8 + i, none⟩ = some v := fun i v hv => (Below.cell HMa.out.g hb).trans (hcell k hkR i v (by rw [HA1.out k hlt hkR]; exact hv))
   have HCk := hid (fun W hg => HPl.out k hlt W hg)
   have HOk := hid (fun (B : Option Addr) (n c : Nat) W => HSg.out k (pP (pgF k)) B n c W)
   have HFk := hid (HF1.out k)
   have HMk := hid (HM1.out k)
   clear hkR hcell hk
   generalize pP (pgF k) = q at HCk HOk HFk
   generalize pgF k = p at hcell' HCk HOk HFk
   obtain ⟨pty, pfl, poff, pva, ppa, pfs, pms, pal⟩ := p
   unfold Pg.C at hcell'
   unfold Pg.V Pg.C at HCk
   unfold Pg.V Pg.C at HOk
   unfold plC sgC at HOk
   unfold plC at HCk
   simp only [] at hcell' HCk HOk HFk
   have HRk : Hid (∀ (Ax : Option Addr) (nx cx : Nat), (#[.int .u32 (pty : Int), .int .u32 (pfl : Int), .int .u64 (pva : Int), .int .u64 (ppa : Int), .int .u64 (pms : Int), .int .u64 (pal : Int), .int .i64 q.inn, .int .u64 (q.off : Int), .int .u64 (q.size : Int), .slice Ax nx cx] : Array Value) = sgK.cs (sF k) (.slice Ax nx cx)) := hid fun Ax nx cx => by rw [HFk.out]; rfl
   have HBy : Hid (q.own = sgK.by_ (sF k)) := hid (by rw [HFk.out]; rfl)
   have t0 : wr.cell? ⟨b, o + k * 8, none⟩ = _ := hcell' 0 _ rfl
   have t1 := hcell' 1 _ rfl
   have t2 := hcell' 2 _ rfl
   have t3 := hcell' 3 _ rfl
   have t4 := hcell' 4 _ rfl
   have t5 := hcell' 5 _ rfl
   have t6 := hcell' 6 _ rfl
   have t7 := hcell' 7 _ rfl
   clear hcell'
   go_wp2_with fail
   obtain ⟨g5, hg5⟩ : ∃ g, g = wr.heap.size := ⟨_, rfl⟩
   have HS5 : Hid (g3 < g5) := hid (by rw [hg5]; exact HMa.out.m.lt)
   refine wp_region_tree (leap_kept (fun j => j = g0 ∨ j = g5)) (.chain [(0, true), (2, true), (3, true), (4, true)] (.both 1 (.chain [(5, false), (6, false), (7, false), (8, false), (9, true), (10, false)] .done) 5 (.both 1 (.chain [(6, false), (7, false), (8, false), (9, true), (10, false)] .done) 6 (.both 1 (.chain [(7, false), (8, false), (9, true), (10, false)] .done) 7 (.chain [(1, false), (8, false), (9, true), (10, false)] .done))))) (by kernel_rfl) (by kernel_rfl) (by kernel_rfl) ?_
   generalize hW : World.alloc _ _ = W5
   obtain ⟨b5, hg⟩ := blk1 hW
   rw [← hg5] at b5 ⊢
   clear hW t0 t1 t2 t3 t4 t5 t6 t7
   have HKe : Hid (∀ (Rw : List (Array Value)) (i : Nat) {v : World}, ZO v base 70 10 As k cs Rw → own As = some i → ¬ (i = g0 ∨ i = g5)) := hid fun Rw i v hzo e => by
    obtain ⟨Ra, hza, _⟩ := HGa.out
    have h1 := hza.ge e
    have h2 := HA.out.a0
    have h3 : i < wr.heap.size := by
     rcases hza.1.2 with ⟨hv, _⟩ | ⟨g', cap, cur, hv, _, hh, _⟩
     ·injection hv with e1 _ _; subst e1; cases e
     ·injection hv with e1 _ _; subst e1
      have e3 : g' = i := Option.some.inj e
      subst e3
      rcases Nat.lt_or_ge g' wr.heap.size with h | h
      ·exact h
      ·rw [Array.getElem?_eq_none h] at hh; cases hh
    omega
   have HKg : Hid (¬ (g3 = g0 ∨ g3 = g5)) := hid (by have := HA.out.n0; have := HS5.out; omega)
   have hgd := hg.trans (Grow.of_drew W5)
   have HM0 := hid (HMa.out.grow hgd)
   have HG0 := hid (HGa.out.keep hgd)
   have HP0 := hid b5.drew
   clear b5 hg hgd hg5 HMa HGa
   generalize W5.drew = v0 at HM0 HG0 HP0 ⊢
   have q0 : ∀ W, Kept (fun j => j = g0 ∨ j = g5) v0 W → W.cell? ⟨g5, 0, none⟩ = some (.int .u32 (pty : Int)) := fun W hW => (HP0.out.kept hW (.inr rfl)).at 0
   have q1 : ∀ W, Kept (fun j => j = g0 ∨ j = g5) v0 W → W.cell? ⟨g5, 1, none⟩ = some (.int .u32 (pfl : Int)) := fun W hW => (HP0.out.kept hW (.inr rfl)).at 1
   have q2 : ∀ W, Kept (fun j => j = g0 ∨ j = g5) v0 W → W.cell? ⟨g5, 2, none⟩ = some (.int .u64 (poff : Int)) := fun W hW => (HP0.out.kept hW (.inr rfl)).at 2
   have q3 : ∀ W, Kept (fun j => j = g0 ∨ j = g5) v0 W → W.cell? ⟨g5, 3, none⟩ = some (.int .u64 (pva : Int)) := fun W hW => (HP0.out.kept hW (.inr rfl)).at 3
   have q4 : ∀ W, Kept (fun j => j = g0 ∨ j = g5) v0 W → W.cell? ⟨g5, 4, none⟩ = some (.int .u64 (ppa : Int)) := fun W hW => (HP0.out.kept hW (.inr rfl)).at 4
   have q5 : ∀ W, Kept (fun j => j = g0 ∨ j = g5) v0 W → W.cell? ⟨g5, 5, none⟩ = some (.int .u64 (pfs : Int)) := fun W hW => (HP0.out.kept hW (.inr rfl)).at 5
   have q6 : ∀ W, Kept (fun j => j = g0 ∨ j = g5) v0 W → W.cell? ⟨g5, 6, none⟩ = some (.int .u64 (pms : Int)) := fun W hW => (HP0.out.kept hW (.inr rfl)).at 6
   have q7 : ∀ W, Kept (fun j => j = g0 ∨ j = g5) v0 W → W.cell? ⟨g5, 7, none⟩ = some (.int .u64 (pal : Int)) := fun W hW => (HP0.out.kept hW (.inr rfl)).at 7
   have r0 : ∀ W, Kept (fun j => j = g0 ∨ j = g5) v0 W → W.cell? ⟨g0, 0, none⟩ = some (.slice A n c) := fun W hW => (HM0.out.t.kept hW (.inl rfl)).at 0
   have r1 : ∀ W, Kept (fun j => j = g0 ∨ j = g5) v0 W → W.cell? ⟨g0, 1, none⟩ = some (.slice (some ⟨b, o, none⟩) P c1) := fun W hW => (HM0.out.t.kept hW (.inl rfl)).at 1
   have r2 : ∀ W, Kept (fun j => j = g0 ∨ j = g5) v0 W → W.cell? ⟨g0, 2, none⟩ = some (.slice A2 S c2) := fun W hW => (HM0.out.t.kept hW (.inl rfl)).at 2
   have r3 : ∀ W, Kept (fun j => j = g0 ∨ j = g5) v0 W → W.cell? ⟨g0, 3, none⟩ = some (.int .u64 (I : Int)) := fun W hW => (HM0.out.t.kept hW (.inl rfl)).at 3
   refine tr_chain ?_
   repeat ((first | (refine chain_take rfl (by rfl) ?_ (fun W hG => ?_) ?_; rotate_left; (go_simp; rfl)) | refine chain_skip rfl (by rfl) ?_); simp only [Act.put, List.setIfInBounds_toArray, List.set_cons_zero, List.set_cons_succ])
   clear q0 q1 q2 q3 q4 q5 q6 q7 r0 r1 r2 r3 HP0
   refine chain_done (tr_both (step_op rfl (by rfl) ?A1) (step_op rfl (by rfl) ?B1))
   case' A1 =>
    intro K hK
    have c8 := HM0.out.m.at 8
    go_simp
    refine hK _ _ ((leap_kept _).refl _) ?_
    clear hK K c8
    refine tr_chain ?_
    refine chain_only rfl (by rfl) (fun K hK => ?_)
    go_simp
    refine (HCk.out _ HM0.out.g).mono ?_
    rintro e v1 ⟨Ax, nx, cx, rfl, ho, hg⟩
    refine hK _ _ (Kept.of_grow hg) ?_
    clear hK K
    have HO1 := hid (ho.mono (HM0.out.base_le HA.out))
    clear ho
    have HM1 := hid (HM0.out.grow hg)
    have HG1 := hid (HG0.out.keep hg)
    clear HM0 HG0
    clear hg
    refine chain_only rfl (by rfl) (fun K hK => ?_)
    go_simp
    refine (HOk.out Ax nx cx _).mono ?_
    rintro e v2 ⟨rfl, hg⟩
    refine hK _ _ (Kept.of_grow hg) ?_
    clear hK K
    have HM2 := hid (HM1.out.grow hg)
    have HG2 := hid (HG1.out.keep hg)
    have HO2 := hid (HO1.out.keep hg)
    clear HM1 HG1 HO1
    clear hg
    refine chain_only rfl (by rfl) (fun K hK => ?_)
    go_simp
    refine hK _ _ (Kept.of_grow (Grow.of_alloc _ _)) ?_
    clear hK K
    generalize hW : World.alloc _ _ = v3
    obtain ⟨bn, hg⟩ := blk1 hW
    clear hW
    have HN3 := hid bn
    clear bn
    have HM3 := hid (HM2.out.grow hg)
    have HG3 := hid (HG2.out.keep hg)
    have HO3 := hid (HO2.out.keep hg)
    clear HM2 HG2 HO2
    clear hg
    refine chain_only rfl (by rfl) (fun K hK => ?_)
    obtain ⟨Rw, hzo, hlr, hro⟩ := HG3.out
    have HBs := hid (HM3.out.base_le HA.out)
    refine wp_appendZ _ (.tmp 32) (.tmp 38) 48 rfl base 70 (.agg #[.int .u32 0, .int .u32 0, .int .u64 0, .int .u64 0, .int .u64 0, .int .u64 0, .int .i64 0, .int .u64 0, .int .u64 0, .slice none 0 0]) 10 88 Tryz.underlying48 (by kernel_rfl) rfl (by omega) As k cs Rw rfl hzo _ _ _ rfl HN3.out rfl (by simp [Value.oneCell']) (by have := HK.out; unfold maxLen; omega) (by have := HK.out; omega) HBs.out ?_
    intro A5 c5 v4 ho9 hg9 _
    refine hK _ _ (kept_row hg9 (fun i e => HKe.out Rw i hzo e)) ?_
    clear hK K
    have HM4 := hid (HM3.out.by_ HA.out hg9 (fun i e => hzo.ge e))
    have HG4 : Hid (GR sgK v4 base 70 A5 (k + 1) c5 ((List.range (k + 1)).map sF)) := hid (by
     rw [HMk.out]
     exact GR.snoc hzo hlr hro ⟨Ax, nx, cx, HRk.out Ax nx cx, HBy.out ▸ HO3.out⟩ (by decide) ho9 hg9)
    clear ho9 hg9 hzo hlr hro HBs
    clear HM3 HG3 HO3 HN3
    repeat ((first | (refine chain_take rfl (by rfl) ?_ (fun W hG => ?_) ?_; rotate_left; (go_simp; rfl)) | refine chain_skip rfl (by rfl) ?_); simp only [Act.put, List.setIfInBounds_toArray, List.set_cons_zero, List.set_cons_succ])
    refine chain_only rfl (by rfl) (fun K hK => ?_)
    have c9 := HM4.out.m.at 8
    have s9 := HM4.out.m.soft 8
    go_simp
    refine hK _ _ (kept_set _ _ _ (fun h => HKg.out h)) ?_
    clear hK K c9 s9
    have e9 := setCell_eq_setRow v4 g3 8 _ 51 (0, 0) (.slice A5 (k + 1) c5) HM4.out.m
    have HM5 := hid (HM4.out.set HA.out (.slice A5 (k + 1) c5) (.slice none 0 0))
    have HG5 := hid (HG4.out.set (show g3 < base by have := HA.out.b; omega) (#[.bool wide, .bool big, .int .u8 (hO : Int), .int .u8 (hA : Int), .int .u16 (ty : Int), .int .u16 (ma : Int), .int .u32 (fl : Int), .int .u64 (en : Int), (.slice A5 (k + 1) c5), (.slice none 0 0), .int .i64 (I : Int)]))
    rw [e9]
    clear e9
    clear HM4 HG4
    refine chain_done (tr_done ?_)
    have hk16 := HK.out
    have hlt := HLt.out
    go_wp2
    go_roundw
    case rel => exact ⟨k + 1, A5, c5, by omega, by go_num, HM5.out, HG5.out⟩
    case measure => simp [intOf]; omega
   case' B1 =>
    intro K hK
    go_simp
    refine (HCk.out _ HM0.out.g).mono ?_
    rintro e v6 ⟨Ax, nx, cx, rfl, ho, hg⟩
    refine hK _ _ (Kept.of_grow hg) ?_
    clear hK K
    have HO6 := hid (ho.mono (HM0.out.base_le HA.out))
    clear ho
    have HM6 := hid (HM0.out.grow hg)
    have HG6 := hid (HG0.out.keep hg)
    clear HM0 HG0
    clear hg
    refine tr_both (step_op rfl (by rfl) ?A2) (step_op rfl (by rfl) ?B2)
    case' A2 =>
     intro K hK
     have c8 := HM6.out.m.at 8
     go_simp
     refine hK _ _ ((leap_kept _).refl _) ?_
     clear hK K c8
     refine tr_chain ?_
     refine chain_only rfl (by rfl) (fun K hK => ?_)
     go_simp
     refine (HOk.out Ax nx cx _).mono ?_
     rintro e v7 ⟨rfl, hg⟩
     refine hK _ _ (Kept.of_grow hg) ?_
     clear hK K
     have HM7 := hid (HM6.out.grow hg)
     have HG7 := hid (HG6.out.keep hg)
     have HO7 := hid (HO6.out.keep hg)
     clear HM6 HG6 HO6
     clear hg
     refine chain_only rfl (by rfl) (fun K hK => ?_)
     go_simp
     refine hK _ _ (Kept.of_grow (Grow.of_alloc _ _)) ?_
     clear hK K
     generalize hW : World.alloc _ _ = v8
     obtain ⟨bn, hg⟩ := blk1 hW
     clear hW
     have HN8 := hid bn
     clear bn
     have HM8 := hid (HM7.out.grow hg)
     have HG8 := hid (HG7.out.keep hg)
     have HO8 := hid (HO7.out.keep hg)
     clear HM7 HG7 HO7
     clear hg
     refine chain_only rfl (by rfl) (fun K hK => ?_)
     obtain ⟨Rw, hzo, hlr, hro⟩ := HG8.out
     have HBs := hid (HM8.out.base_le HA.out)
     refine wp_appendZ _ (.tmp 32) (.tmp 38) 48 rfl base 70 (.agg #[.int .u32 0, .int .u32 0, .int .u64 0, .int .u64 0, .int .u64 0, .int .u64 0, .int .i64 0, .int .u64 0, .int .u64 0, .slice none 0 0]) 10 88 Tryz.underlying48 (by kernel_rfl) rfl (by omega) As k cs Rw rfl hzo _ _ _ rfl HN8.out rfl (by simp [Value.oneCell']) (by have := HK.out; unfold maxLen; omega) (by have := HK.out; omega) HBs.out ?_
     intro A5 c5 v9 ho9 hg9 _
     refine hK _ _ (kept_row hg9 (fun i e => HKe.out Rw i hzo e)) ?_
     clear hK K
     have HM9 := hid (HM8.out.by_ HA.out hg9 (fun i e => hzo.ge e))
     have HG9 : Hid (GR sgK v9 base 70 A5 (k + 1) c5 ((List.range (k + 1)).map sF)) := hid (by
      rw [HMk.out]
      exact GR.snoc hzo hlr hro ⟨Ax, nx, cx, HRk.out Ax nx cx, HBy.out ▸ HO8.out⟩ (by decide) ho9 hg9)
     clear ho9 hg9 hzo hlr hro HBs
     clear HM8 HG8 HO8 HN8
     repeat ((first | (refine chain_take rfl (by rfl) ?_ (fun W hG => ?_) ?_; rotate_left; (go_simp; rfl)) | refine chain_skip rfl (by rfl) ?_); simp only [Act.put, List.setIfInBounds_toArray, List.set_cons_zero, List.set_cons_succ])
     refine chain_only rfl (by rfl) (fun K hK => ?_)
     have c9 := HM9.out.m.at 8
     have s9 := HM9.out.m.soft 8
     go_simp
     refine hK _ _ (kept_set _ _ _ (fun h => HKg.out h)) ?_
     clear hK K c9 s9
     have e9 := setCell_eq_setRow v9 g3 8 _ 51 (0, 0) (.slice A5 (k + 1) c5) HM9.out.m
     have HM10 := hid (HM9.out.set HA.out (.slice A5 (k + 1) c5) (.slice none 0 0))
     have HG10 := hid (HG9.out.set (show g3 < base by have := HA.out.b; omega) (#[.bool wide, .bool big, .int .u8 (hO : Int), .int .u8 (hA : Int), .int .u16 (ty : Int), .int .u16 (ma : Int), .int .u32 (fl : Int), .int .u64 (en : Int), (.slice A5 (k + 1) c5), (.slice none 0 0), .int .i64 (I : Int)]))
     rw [e9]
     clear e9
     clear HM9 HG9
     refine chain_done (tr_done ?_)
     have hk16 := HK.out
     have hlt := HLt.out
     go_wp2
     go_roundw
     case rel => exact ⟨k + 1, A5, c5, by omega, by go_num, HM10.out, HG10.out⟩
     case measure => simp [intOf]; omega
    case' B2 =>
     intro K hK
     go_simp
     refine (HOk.out Ax nx cx _).mono ?_
     rintro e v11 ⟨rfl, hg⟩
     refine hK _ _ (Kept.of_grow hg) ?_
     clear hK K
     have HM11 := hid (HM6.out.grow hg)
     have HG11 := hid (HG6.out.keep hg)
     have HO11 := hid (HO6.out.keep hg)
     clear HM6 HG6 HO6
     clear hg
     refine tr_both (step_op rfl (by rfl) ?A3) (step_op rfl (by rfl) ?B3)
     case' A3 =>
      intro K hK
      have c8 := HM11.out.m.at 8
      go_simp
      refine hK _ _ ((leap_kept _).refl _) ?_
      clear hK K c8
      refine tr_chain ?_
      refine chain_only rfl (by rfl) (fun K hK => ?_)
      go_simp
      refine hK _ _ (Kept.of_grow (Grow.of_alloc _ _)) ?_
      clear hK K
      generalize hW : World.alloc _ _ = v12
      obtain ⟨bn, hg⟩ := blk1 hW
      clear hW
      have HN12 := hid bn
      clear bn
      have HM12 := hid (HM11.out.grow hg)
      have HG12 := hid (HG11.out.keep hg)
      have HO12 := hid (HO11.out.keep hg)
      clear HM11 HG11 HO11
      clear hg
      refine chain_only rfl (by rfl) (fun K hK => ?_)
      obtain ⟨Rw, hzo, hlr, hro⟩ := HG12.out
      have HBs := hid (HM12.out.base_le HA.out)
      refine wp_appendZ _ (.tmp 32) (.tmp 38) 48 rfl base 70 (.agg #[.int .u32 0, .int .u32 0, .int .u64 0, .int .u64 0, .int .u64 0, .int .u64 0, .int .i64 0, .int .u64 0, .int .u64 0, .slice none 0 0]) 10 88 Tryz.underlying48 (by kernel_rfl) rfl (by omega) As k cs Rw rfl hzo _ _ _ rfl HN12.out rfl (by simp [Value.oneCell']) (by have := HK.out; unfold maxLen; omega) (by have := HK.out; omega) HBs.out ?_
      intro A5 c5 v13 ho9 hg9 _
      refine hK _ _ (kept_row hg9 (fun i e => HKe.out Rw i hzo e)) ?_
      clear hK K
      have HM13 := hid (HM12.out.by_ HA.out hg9 (fun i e => hzo.ge e))
      have HG13 : Hid (GR sgK v13 base 70 A5 (k + 1) c5 ((List.range (k + 1)).map sF)) := hid (by
       rw [HMk.out]
       exact GR.snoc hzo hlr hro ⟨Ax, nx, cx, HRk.out Ax nx cx, HBy.out ▸ HO12.out⟩ (by decide) ho9 hg9)
      clear ho9 hg9 hzo hlr hro HBs
      clear HM12 HG12 HO12 HN12
      repeat ((first | (refine chain_take rfl (by rfl) ?_ (fun W hG => ?_) ?_; rotate_left; (go_simp; rfl)) | refine chain_skip rfl (by rfl) ?_); simp only [Act.put, List.setIfInBounds_toArray, List.set_cons_zero, List.set_cons_succ])
      refine chain_only rfl (by rfl) (fun K hK => ?_)
      have c9 := HM13.out.m.at 8
      have s9 := HM13.out.m.soft 8
      go_simp
      refine hK _ _ (kept_set _ _ _ (fun h => HKg.out h)) ?_
      clear hK K c9 s9
      have e9 := setCell_eq_setRow v13 g3 8 _ 51 (0, 0) (.slice A5 (k + 1) c5) HM13.out.m
      have HM14 := hid (HM13.out.set HA.out (.slice A5 (k + 1) c5) (.slice none 0 0))
      have HG14 := hid (HG13.out.set (show g3 < base by have := HA.out.b; omega) (#[.bool wide, .bool big, .int .u8 (hO : Int), .int .u8 (hA : Int), .int .u16 (ty : Int), .int .u16 (ma : Int), .int .u32 (fl : Int), .int .u64 (en : Int), (.slice A5 (k + 1) c5), (.slice none 0 0), .int .i64 (I : Int)]))
      rw [e9]
      clear e9
      clear HM13 HG13
      refine chain_done (tr_done ?_)
      have hk16 := HK.out
      have hlt := HLt.out
      go_wp2
      go_roundw
      case rel => exact ⟨k + 1, A5, c5, by omega, by go_num, HM14.out, HG14.out⟩
      case measure => simp [intOf]; omega
     case' B3 =>
      intro K hK
      go_simp
      refine hK _ _ (Kept.of_grow (Grow.of_alloc _ _)) ?_
      clear hK K
      generalize hW : World.alloc _ _ = v15
      obtain ⟨bn, hg⟩ := blk1 hW
      clear hW
      have HN15 := hid bn
      clear bn
      have HM15 := hid (HM11.out.grow hg)
      have HG15 := hid (HG11.out.keep hg)
      have HO15 := hid (HO11.out.keep hg)
      clear HM11 HG11 HO11
      clear hg
      refine tr_chain ?_
      refine chain_only rfl (by rfl) (fun K hK => ?_)
      have c8 := HM15.out.m.at 8
      go_simp
      refine hK _ _ ((leap_kept _).refl _) ?_
      clear hK K c8
      refine chain_only rfl (by rfl) (fun K hK => ?_)
      obtain ⟨Rw, hzo, hlr, hro⟩ := HG15.out
      have HBs := hid (HM15.out.base_le HA.out)
      refine wp_appendZ _ (.tmp 32) (.tmp 38) 48 rfl base 70 (.agg #[.int .u32 0, .int .u32 0, .int .u64 0, .int .u64 0, .int .u64 0, .int .u64 0, .int .i64 0, .int .u64 0, .int .u64 0, .slice none 0 0]) 10 88 Tryz.underlying48 (by kernel_rfl) rfl (by omega) As k cs Rw rfl hzo _ _ _ rfl HN15.out rfl (by simp [Value.oneCell']) (by have := HK.out; unfold maxLen; omega) (by have := HK.out; omega) HBs.out ?_
      intro A5 c5 v16 ho9 hg9 _
      refine hK _ _ (kept_row hg9 (fun i e => HKe.out Rw i hzo e)) ?_
      clear hK K
      have HM16 := hid (HM15.out.by_ HA.out hg9 (fun i e => hzo.ge e))
      have HG16 : Hid (GR sgK v16 base 70 A5 (k + 1) c5 ((List.range (k + 1)).map sF)) := hid (by
       rw [HMk.out]
       exact GR.snoc hzo hlr hro ⟨Ax, nx, cx, HRk.out Ax nx cx, HBy.out ▸ HO15.out⟩ (by decide) ho9 hg9)
      clear ho9 hg9 hzo hlr hro HBs
      clear HM15 HG15 HO15 HN15
      repeat ((first | (refine chain_take rfl (by rfl) ?_ (fun W hG => ?_) ?_; rotate_left; (go_simp; rfl)) | refine chain_skip rfl (by rfl) ?_); simp only [Act.put, List.setIfInBounds_toArray, List.set_cons_zero, List.set_cons_succ])
      refine chain_only rfl (by rfl) (fun K hK => ?_)
      have c9 := HM16.out.m.at 8
      have s9 := HM16.out.m.soft 8
      go_simp
      refine hK _ _ (kept_set _ _ _ (fun h => HKg.out h)) ?_
      clear hK K c9 s9
      have e9 := setCell_eq_setRow v16 g3 8 _ 51 (0, 0) (.slice A5 (k + 1) c5) HM16.out.m
      have HM17 := hid (HM16.out.set HA.out (.slice A5 (k + 1) c5) (.slice none 0 0))
      have HG17 := hid (HG16.out.set (show g3 < base by have := HA.out.b; omega) (#[.bool wide, .bool big, .int .u8 (hO : Int), .int .u8 (hA : Int), .int .u16 (ty : Int), .int .u16 (ma : Int), .int .u32 (fl : Int), .int .u64 (en : Int), (.slice A5 (k + 1) c5), (.slice none 0 0), .int .i64 (I : Int)]))
      rw [e9]
      clear e9
      clear HM16 HG16
      refine chain_done (tr_done ?_)
      have hk16 := HK.out
      have hlt := HLt.out
      go_wp2
      go_roundw
      case rel => exact ⟨k + 1, A5, c5, by omega, by go_num, HM17.out, HG17.out⟩
      case measure => simp [intOf]; omega
  ·obtain rfl : P = k := by omega
   generalize wr = wz at HMa HGa ⊢
   have HM := HMa
   have HQ := HGa
   clear HMa HGa
   generalize As = Aq at HM HQ ⊢
   generalize cs = cq at HM HQ ⊢
   have v9 := HM.out.t.at 2
   go_wp2_with fail
   clear v9
   go_loopw [45] (fun i wr => ∃ (k : Nat) (As : Option Addr) (cs : Nat), k ≤ S ∧ i = .int .i64 k ∧ MB w wr g0 g1 g2 g3 #[.slice A n c, .slice A1 P c1, .slice A2 S c2, .int .u64 (I : Int)] #[.bool wide, .bool big, .int .u8 (hO : Int), .int .u8 (hA : Int), .int .u16 (ty : Int), .int .u16 (ma : Int), .int .u64 (en : Int), y7, y8, .int .u32 (fl : Int), y10, y11, y12] #[.bool false, .bool false, .int .u8 0, .int .u8 0, .int .u16 0, .int .u16 0, .int .u32 0, .int .u64 0, .slice none 0 0, .slice none 0 0, .int .i64 0] (fun x y => #[.bool wide, .bool big, .int .u8 (hO : Int), .int .u8 (hA : Int), .int .u16 (ty : Int), .int .u16 (ma : Int), .int .u32 (fl : Int), .int .u64 (en : Int), x, y, .int .i64 (I : Int)]) (.slice Aq P cq) (.slice As k cs) ∧ GR seK wr base 57 As k cs ((List.range k).map eF) ∧ GR sgK wr base 70 Aq P cq ((List.range P).map sF)) (fun i _ => S - (intOf i).toNat)
   case atStart => exact ⟨0, none, 0, by omega, rfl, HM.out, GR.nil trivial, HQ.out⟩
   case round =>
    obtain ⟨k, As, cs, hk, rfl, hm, hgr, hq⟩ := hrel
    have HMa := hid hm
    have HGa := hid hgr
    have HQa := hid hq
    clear HQ hq
    clear hm hgr HM
    by_cases hlt : k < S
    ·have HLt := hid hlt
     have HK : Hid (k ≤ 64) := hid (by have := HPb.out.2; omega)
     obtain ⟨b, o, hAA, hb, hcell⟩ := HZ2.out.pos (by omega)
     subst hAA
     have hkR : k < R2.length := by rw [HL2.out]; exact hlt
     have hcell' : ∀ i v, (scF (k + 1)).C[i]? = some v → wr.cell? ⟨b, o + k * 10 + i, none⟩ = some v := fun i v hv => (Below.cell HMa.out.g hb).trans (hcell k hkR i v (by rw [HA2.out k hlt hkR]; exact hv))
     have HCk := hid (fun W hg => HSl.out k hlt W hg)
     have HOk := hid (fun (B : Option Addr) (n c : Nat) W => HSe.out k (sP k (scF (k + 1))) B n c W)
     have HFk := hid (HF2.out k)
     have HMk := hid (HM2.out k)
     clear hkR hcell hk
     generalize sP k (scF (k + 1)) = q at HCk HOk HFk
     generalize scF (k + 1) = p at hcell' HOk HFk
     obtain ⟨pna, pty, pfl, pad, poff, psz, pli, pinf, pal, pen⟩ := p
     unfold Sc.C at hcell'
     unfold Sc.V Sc.C at HOk
     unfold plC seC at HOk
     unfold plC at HCk
     simp only [] at hcell' HCk HOk HFk
     have HRk : Hid (∀ (Ax : Option Addr) (nx cx : Nat), (#[.int .u32 (pna : Int), .int .u32 (pty : Int), .int .u64 (pfl : Int), .int .u64 (pad : Int), .int .u64 (psz : Int), .int .u32 (pli : Int), .int .u32 (pinf : Int), .int .u64 (pal : Int), .int .u64 (pen : Int), .int .i64 q.inn, .int .u64 (q.off : Int), .int .u64 (q.size : Int), .slice Ax nx cx] : Array Value) = seK.cs (eF k) (.slice Ax nx cx)) := hid fun Ax nx cx => by rw [HFk.out]; rfl
     have HBy : Hid (q.own = seK.by_ (eF k)) := hid (by rw [HFk.out]; rfl)
     have t0 : wr.cell? ⟨b, o + k * 10, none⟩ = _ := hcell' 0 _ rfl
     have t1 := hcell' 1 _ rfl
     have t2 := hcell' 2 _ rfl
     have t3 := hcell' 3 _ rfl
     have t4 := hcell' 4 _ rfl
     have t5 := hcell' 5 _ rfl
     have t6 := hcell' 6 _ rfl
     have t7 := hcell' 7 _ rfl
     have t8 := hcell' 8 _ rfl
     have t9 := hcell' 9 _ rfl
     clear hcell'
     go_wp2_with fail
     obtain ⟨g5, hg5⟩ : ∃ g, g = wr.heap.size := ⟨_, rfl⟩
     have HS5 : Hid (g3 < g5) := hid (by rw [hg5]; exact HMa.out.m.lt)
     refine wp_region_tree (leap_kept (fun j => j = g0 ∨ j = g5)) (.chain [(0, true), (2, true), (3, true), (4, true)] (.both 1 (.chain [(5, false), (6, false), (7, false), (8, false), (9, true), (10, false)] .done) 5 (.both 1 (.chain [(6, false), (7, false), (8, false), (9, true), (10, false)] .done) 6 (.both 1 (.chain [(7, false), (8, false), (9, true), (10, false)] .done) 7 (.chain [(1, false), (8, false), (9, true), (10, false)] .done))))) (by kernel_rfl) (by kernel_rfl) (by kernel_rfl) ?_
     generalize hW : World.alloc _ _ = W5
     obtain ⟨b5, hg⟩ := blk1 hW
     rw [← hg5] at b5 ⊢
     clear hW t0 t1 t2 t3 t4 t5 t6 t7 t8 t9
     have HKe : Hid (∀ (Rw : List (Array Value)) (i : Nat) {v : World}, ZO v base 57 13 As k cs Rw → own As = some i → ¬ (i = g0 ∨ i = g5)) := hid fun Rw i v hzo e => by
      obtain ⟨Ra, hza, _⟩ := HGa.out
      have h1 := hza.ge e
      have h2 := HA.out.a0
      have h3 : i < wr.heap.size := by
       rcases hza.1.2 with ⟨hv, _⟩ | ⟨g', cap, cur, hv, _, hh, _⟩
       ·injection hv with e1 _ _; subst e1; cases e
       ·injection hv with e1 _ _; subst e1
        have e3 : g' = i := Option.some.inj e
        subst e3
        rcases Nat.lt_or_ge g' wr.heap.size with h | h
        ·exact h
        ·rw [Array.getElem?_eq_none h] at hh; cases hh
      omega
     have HKg : Hid (¬ (g3 = g0 ∨ g3 = g5)) := hid (by have := HA.out.n0; have := HS5.out; omega)
     have hgd := hg.trans (Grow.of_drew W5)
     have HM0 := hid (HMa.out.grow hgd)
     have HG0 := hid (HGa.out.keep hgd)
     have HP0 := hid b5.drew
     have HQ0 := hid (HQa.out.keep hgd)
     clear b5 hg hgd hg5 HMa HGa HQa
     generalize W5.drew = v0 at HM0 HG0 HP0 HQ0 ⊢
     have q0 : ∀ W, Kept (fun j => j = g0 ∨ j = g5) v0 W → W.cell? ⟨g5, 0, none⟩ = some (.int .u32 (pna : Int)) := fun W hW => (HP0.out.kept hW (.inr rfl)).at 0
     have q1 : ∀ W, Kept (fun j => j = g0 ∨ j = g5) v0 W → W.cell? ⟨g5, 1, none⟩ = some (.int .u32 (pty : Int)) := fun W hW => (HP0.out.kept hW (.inr rfl)).at 1
     have q2 : ∀ W, Kept (fun j => j = g0 ∨ j = g5) v0 W → W.cell? ⟨g5, 2, none⟩ = some (.int .u64 (pfl : Int)) := fun W hW => (HP0.out.kept hW (.inr rfl)).at 2
     have q3 : ∀ W, Kept (fun j => j = g0 ∨ j = g5) v0 W → W.cell? ⟨g5, 3, none⟩ = some (.int .u64 (pad : Int)) := fun W hW => (HP0.out.kept hW (.inr rfl)).at 3
     have q4 : ∀ W, Kept (fun j => j = g0 ∨ j = g5) v0 W → W.cell? ⟨g5, 4, none⟩ = some (.int .u64 (poff : Int)) := fun W hW => (HP0.out.kept hW (.inr rfl)).at 4
     have q5 : ∀ W, Kept (fun j => j = g0 ∨ j = g5) v0 W → W.cell? ⟨g5, 5, none⟩ = some (.int .u64 (psz : Int)) := fun W hW => (HP0.out.kept hW (.inr rfl)).at 5
     have q6 : ∀ W, Kept (fun j => j = g0 ∨ j = g5) v0 W → W.cell? ⟨g5, 6, none⟩ = some (.int .u32 (pli : Int)) := fun W hW => (HP0.out.kept hW (.inr rfl)).at 6
     have q7 : ∀ W, Kept (fun j => j = g0 ∨ j = g5) v0 W → W.cell? ⟨g5, 7, none⟩ = some (.int .u32 (pinf : Int)) := fun W hW => (HP0.out.kept hW (.inr rfl)).at 7
     have q8 : ∀ W, Kept (fun j => j = g0 ∨ j = g5) v0 W → W.cell? ⟨g5, 8, none⟩ = some (.int .u64 (pal : Int)) := fun W hW => (HP0.out.kept hW (.inr rfl)).at 8
     have q9 : ∀ W, Kept (fun j => j = g0 ∨ j = g5) v0 W → W.cell? ⟨g5, 9, none⟩ = some (.int .u64 (pen : Int)) := fun W hW => (HP0.out.kept hW (.inr rfl)).at 9
     have r0 : ∀ W, Kept (fun j => j = g0 ∨ j = g5) v0 W → W.cell? ⟨g0, 0, none⟩ = some (.slice A n c) := fun W hW => (HM0.out.t.kept hW (.inl rfl)).at 0
     have r1 : ∀ W, Kept (fun j => j = g0 ∨ j = g5) v0 W → W.cell? ⟨g0, 1, none⟩ = some (.slice A1 P c1) := fun W hW => (HM0.out.t.kept hW (.inl rfl)).at 1
     have r2 : ∀ W, Kept (fun j => j = g0 ∨ j = g5) v0 W → W.cell? ⟨g0, 2, none⟩ = some (.slice (some ⟨b, o, none⟩) S c2) := fun W hW => (HM0.out.t.kept hW (.inl rfl)).at 2
     have r3 : ∀ W, Kept (fun j => j = g0 ∨ j = g5) v0 W → W.cell? ⟨g0, 3, none⟩ = some (.int .u64 (I : Int)) := fun W hW => (HM0.out.t.kept hW (.inl rfl)).at 3
     refine tr_chain ?_
     repeat ((first | (refine chain_take rfl (by rfl) ?_ (fun W hG => ?_) ?_; rotate_left; (go_simp; rfl)) | refine chain_skip rfl (by rfl) ?_); simp only [Act.put, List.setIfInBounds_toArray, List.set_cons_zero, List.set_cons_succ])
     clear q0 q1 q2 q3 q4 q5 q6 q7 q8 q9 r0 r1 r2 r3 HP0
     refine chain_done (tr_both (step_op rfl (by rfl) ?A1s) (step_op rfl (by rfl) ?B1s))
     case' A1s =>
      intro K hK
      have c8 := HM0.out.m.at 9
      go_simp
      refine hK _ _ ((leap_kept _).refl _) ?_
      clear hK K c8
      refine tr_chain ?_
      refine chain_only rfl (by rfl) (fun K hK => ?_)
      go_simp
      refine (HCk.out _ HM0.out.g).mono ?_
      rintro e v18 ⟨Ax, nx, cx, rfl, ho, hg⟩
      refine hK _ _ (Kept.of_grow hg) ?_
      clear hK K
      have HO18 := hid (ho.mono (HM0.out.base_le HA.out))
      clear ho
      have HM18 := hid (HM0.out.grow hg)
      have HG18 := hid (HG0.out.keep hg)
      have HQ18 := hid (HQ0.out.keep hg)
      clear HM0 HG0 HQ0
      clear hg
      refine chain_only rfl (by rfl) (fun K hK => ?_)
      go_simp
      refine (HOk.out Ax nx cx _).mono ?_
      rintro e v19 ⟨rfl, hg⟩
      refine hK _ _ (Kept.of_grow hg) ?_
      clear hK K
      have HM19 := hid (HM18.out.grow hg)
      have HG19 := hid (HG18.out.keep hg)
      have HQ19 := hid (HQ18.out.keep hg)
      have HO19 := hid (HO18.out.keep hg)
      clear HM18 HG18 HQ18 HO18
      clear hg
      refine chain_only rfl (by rfl) (fun K hK => ?_)
      go_simp
      refine hK _ _ (Kept.of_grow (Grow.of_alloc _ _)) ?_
      clear hK K
      generalize hW : World.alloc _ _ = v20
      obtain ⟨bn, hg⟩ := blk1 hW
      clear hW
      have HN20 := hid bn
      clear bn
      have HM20 := hid (HM19.out.grow hg)
      have HG20 := hid (HG19.out.keep hg)
      have HQ20 := hid (HQ19.out.keep hg)
      have HO20 := hid (HO19.out.keep hg)
      clear HM19 HG19 HQ19 HO19
      clear hg
      refine chain_only rfl (by rfl) (fun K hK => ?_)
      obtain ⟨Rw, hzo, hlr, hro⟩ := HG20.out
      have HBs := hid (HM20.out.base_le HA.out)
      refine wp_appendZ _ (.tmp 51) (.tmp 57) 49 rfl base 57 (.agg #[.int .u32 0, .int .u32 0, .int .u64 0, .int .u64 0, .int .u64 0, .int .u32 0, .int .u32 0, .int .u64 0, .int .u64 0, .int .i64 0, .int .u64 0, .int .u64 0, .slice none 0 0]) 13 104 Tryz.underlying49 (by kernel_rfl) rfl (by omega) As k cs Rw rfl hzo _ _ _ rfl HN20.out rfl (by simp [Value.oneCell']) (by have := HK.out; unfold maxLen; omega) (by have := HK.out; omega) HBs.out ?_
      intro A5 c5 v21 ho9 hg9 _
      refine hK _ _ (kept_row hg9 (fun i e => HKe.out Rw i hzo e)) ?_
      clear hK K
      have HM21 := hid (HM20.out.by_ HA.out hg9 (fun i e => hzo.ge e))
      have HQ21 := hid (HQ20.out.past hzo (by decide) (by decide) hg9)
      have HG21 : Hid (GR seK v21 base 57 A5 (k + 1) c5 ((List.range (k + 1)).map eF)) := hid (by
       rw [HMk.out]
       exact GR.snoc hzo hlr hro ⟨Ax, nx, cx, HRk.out Ax nx cx, HBy.out ▸ HO20.out⟩ (by decide) ho9 hg9)
      clear ho9 hg9 hzo hlr hro HBs
      clear HM20 HG20 HQ20 HO20 HN20
      repeat ((first | (refine chain_take rfl (by rfl) ?_ (fun W hG => ?_) ?_; rotate_left; (go_simp; rfl)) | refine chain_skip rfl (by rfl) ?_); simp only [Act.put, List.setIfInBounds_toArray, List.set_cons_zero, List.set_cons_succ])
      refine chain_only rfl (by rfl) (fun K hK => ?_)
      have c9 := HM21.out.m.at 9
      have s9 := HM21.out.m.soft 9
      go_simp
      refine hK _ _ (kept_set _ _ _ (fun h => HKg.out h)) ?_
      clear hK K c9 s9
      have e9 := setCell_eq_setRow v21 g3 9 _ 51 (0, 0) (.slice A5 (k + 1) c5) HM21.out.m
      have HM22 := hid (HM21.out.set HA.out (.slice Aq P cq) (.slice A5 (k + 1) c5))
      have HG22 := hid (HG21.out.set (show g3 < base by have := HA.out.b; omega) (#[.bool wide, .bool big, .int .u8 (hO : Int), .int .u8 (hA : Int), .int .u16 (ty : Int), .int .u16 (ma : Int), .int .u32 (fl : Int), .int .u64 (en : Int), (.slice Aq P cq), (.slice A5 (k + 1) c5), .int .i64 (I : Int)]))
      have HQ22 := hid (HQ21.out.set (show g3 < base by have := HA.out.b; omega) (#[.bool wide, .bool big, .int .u8 (hO : Int), .int .u8 (hA : Int), .int .u16 (ty : Int), .int .u16 (ma : Int), .int .u32 (fl : Int), .int .u64 (en : Int), (.slice Aq P cq), (.slice A5 (k + 1) c5), .int .i64 (I : Int)]))
      rw [e9]
      clear e9
      clear HM21 HG21 HQ21
      refine chain_done (tr_done ?_)
      have hk16 := HK.out
      have hlt := HLt.out
      go_wp2
      go_roundw
      case rel => exact ⟨k + 1, A5, c5, by omega, by go_num, HM22.out, HG22.out, HQ22.out⟩
      case measure => simp [intOf]; omega
     case' B1s =>
      intro K hK
      go_simp
      refine (HCk.out _ HM0.out.g).mono ?_
      rintro e v23 ⟨Ax, nx, cx, rfl, ho, hg⟩
      refine hK _ _ (Kept.of_grow hg) ?_
      clear hK K
      have HO23 := hid (ho.mono (HM0.out.base_le HA.out))
      clear ho
      have HM23 := hid (HM0.out.grow hg)
      have HG23 := hid (HG0.out.keep hg)
      have HQ23 := hid (HQ0.out.keep hg)
      clear HM0 HG0 HQ0
      clear hg
      refine tr_both (step_op rfl (by rfl) ?A2s) (step_op rfl (by rfl) ?B2s)
      case' A2s =>
       intro K hK
       have c8 := HM23.out.m.at 9
       go_simp
       refine hK _ _ ((leap_kept _).refl _) ?_
       clear hK K c8
       refine tr_chain ?_
       refine chain_only rfl (by rfl) (fun K hK => ?_)
       go_simp
       refine (HOk.out Ax nx cx _).mono ?_
       rintro e v24 ⟨rfl, hg⟩
       refine hK _ _ (Kept.of_grow hg) ?_
       clear hK K
       have HM24 := hid (HM23.out.grow hg)
       have HG24 := hid (HG23.out.keep hg)
       have HQ24 := hid (HQ23.out.keep hg)
       have HO24 := hid (HO23.out.keep hg)
       clear HM23 HG23 HQ23 HO23
       clear hg
       refine chain_only rfl (by rfl) (fun K hK => ?_)
       go_simp
       refine hK _ _ (Kept.of_grow (Grow.of_alloc _ _)) ?_
       clear hK K
       generalize hW : World.alloc _ _ = v25
       obtain ⟨bn, hg⟩ := blk1 hW
       clear hW
       have HN25 := hid bn
       clear bn
       have HM25 := hid (HM24.out.grow hg)
       have HG25 := hid (HG24.out.keep hg)
       have HQ25 := hid (HQ24.out.keep hg)
       have HO25 := hid (HO24.out.keep hg)
       clear HM24 HG24 HQ24 HO24
       clear hg
       refine chain_only rfl (by rfl) (fun K hK => ?_)
       obtain ⟨Rw, hzo, hlr, hro⟩ := HG25.out
       have HBs := hid (HM25.out.base_le HA.out)
       refine wp_appendZ _ (.tmp 51) (.tmp 57) 49 rfl base 57 (.agg #[.int .u32 0, .int .u32 0, .int .u64 0, .int .u64 0, .int .u64 0, .int .u32 0, .int .u32 0, .int .u64 0, .int .u64 0, .int .i64 0, .int .u64 0, .int .u64 0, .slice none 0 0]) 13 104 Tryz.underlying49 (by kernel_rfl) rfl (by omega) As k cs Rw rfl hzo _ _ _ rfl HN25.out rfl (by simp [Value.oneCell']) (by have := HK.out; unfold maxLen; omega) (by have := HK.out; omega) HBs.out ?_
       intro A5 c5 v26 ho9 hg9 _
       refine hK _ _ (kept_row hg9 (fun i e => HKe.out Rw i hzo e)) ?_
       clear hK K
       have HM26 := hid (HM25.out.by_ HA.out hg9 (fun i e => hzo.ge e))
       have HQ26 := hid (HQ25.out.past hzo (by decide) (by decide) hg9)
       have HG26 : Hid (GR seK v26 base 57 A5 (k + 1) c5 ((List.range (k + 1)).map eF)) := hid (by
        rw [HMk.out]
        exact GR.snoc hzo hlr hro ⟨Ax, nx, cx, HRk.out Ax nx cx, HBy.out ▸ HO25.out⟩ (by decide) ho9 hg9)
       clear ho9 hg9 hzo hlr hro HBs
       clear HM25 HG25 HQ25 HO25 HN25
       repeat ((first | (refine chain_take rfl (by rfl) ?_ (fun W hG => ?_) ?_; rotate_left; (go_simp; rfl)) | refine chain_skip rfl (by rfl) ?_); simp only [Act.put, List.setIfInBounds_toArray, List.set_cons_zero, List.set_cons_succ])
       refine chain_only rfl (by rfl) (fun K hK => ?_)
       have c9 := HM26.out.m.at 9
       have s9 := HM26.out.m.soft 9
       go_simp
       refine hK _ _ (kept_set _ _ _ (fun h => HKg.out h)) ?_
       clear hK K c9 s9
       have e9 := setCell_eq_setRow v26 g3 9 _ 51 (0, 0) (.slice A5 (k + 1) c5) HM26.out.m
       have HM27 := hid (HM26.out.set HA.out (.slice Aq P cq) (.slice A5 (k + 1) c5))
       have HG27 := hid (HG26.out.set (show g3 < base by have := HA.out.b; omega) (#[.bool wide, .bool big, .int .u8 (hO : Int), .int .u8 (hA : Int), .int .u16 (ty : Int), .int .u16 (ma : Int), .int .u32 (fl : Int), .int .u64 (en : Int), (.slice Aq P cq), (.slice A5 (k + 1) c5), .int .i64 (I : Int)]))
       have HQ27 := hid (HQ26.out.set (show g3 < base by have := HA.out.b; omega) (#[.bool wide, .bool big, .int .u8 (hO : Int), .int .u8 (hA : Int), .int .u16 (ty : Int), .int .u16 (ma : Int), .int .u32 (fl : Int), .int .u64 (en : Int), (.slice Aq P cq), (.slice A5 (k + 1) c5), .int .i64 (I : Int)]))
       rw [e9]
       clear e9
       clear HM26 HG26 HQ26
       refine chain_done (tr_done ?_)
       have hk16 := HK.out
       have hlt := HLt.out
       go_wp2
       go_roundw
       case rel => exact ⟨k + 1, A5, c5, by omega, by go_num, HM27.out, HG27.out, HQ27.out⟩
       case measure => simp [intOf]; omega
      case' B2s =>
       intro K hK
       go_simp
       refine (HOk.out Ax nx cx _).mono ?_
       rintro e v28 ⟨rfl, hg⟩
       refine hK _ _ (Kept.of_grow hg) ?_
       clear hK K
       have HM28 := hid (HM23.out.grow hg)
       have HG28 := hid (HG23.out.keep hg)
       have HQ28 := hid (HQ23.out.keep hg)
       have HO28 := hid (HO23.out.keep hg)
       clear HM23 HG23 HQ23 HO23
       clear hg
       refine tr_both (step_op rfl (by rfl) ?A3s) (step_op rfl (by rfl) ?B3s)
       case' A3s =>
        intro K hK
        have c8 := HM28.out.m.at 9
        go_simp
        refine hK _ _ ((leap_kept _).refl _) ?_
        clear hK K c8
        refine tr_chain ?_
        refine chain_only rfl (by rfl) (fun K hK => ?_)
        go_simp
        refine hK _ _ (Kept.of_grow (Grow.of_alloc _ _)) ?_
        clear hK K
        generalize hW : World.alloc _ _ = v29
        obtain ⟨bn, hg⟩ := blk1 hW
        clear hW
        have HN29 := hid bn
        clear bn
        have HM29 := hid (HM28.out.grow hg)
        have HG29 := hid (HG28.out.keep hg)
        have HQ29 := hid (HQ28.out.keep hg)
        have HO29 := hid (HO28.out.keep hg)
        clear HM28 HG28 HQ28 HO28
        clear hg
        refine chain_only rfl (by rfl) (fun K hK => ?_)
        obtain ⟨Rw, hzo, hlr, hro⟩ := HG29.out
        have HBs := hid (HM29.out.base_le HA.out)
        refine wp_appendZ _ (.tmp 51) (.tmp 57) 49 rfl base 57 (.agg #[.int .u32 0, .int .u32 0, .int .u64 0, .int .u64 0, .int .u64 0, .int .u32 0, .int .u32 0, .int .u64 0, .int .u64 0, .int .i64 0, .int .u64 0, .int .u64 0, .slice none 0 0]) 13 104 Tryz.underlying49 (by kernel_rfl) rfl (by omega) As k cs Rw rfl hzo _ _ _ rfl HN29.out rfl (by simp [Value.oneCell']) (by have := HK.out; unfold maxLen; omega) (by have := HK.out; omega) HBs.out ?_
        intro A5 c5 v30 ho9 hg9 _
        refine hK _ _ (kept_row hg9 (fun i e => HKe.out Rw i hzo e)) ?_
        clear hK K
        have HM30 := hid (HM29.out.by_ HA.out hg9 (fun i e => hzo.ge e))
        have HQ30 := hid (HQ29.out.past hzo (by decide) (by decide) hg9)
        have HG30 : Hid (GR seK v30 base 57 A5 (k + 1) c5 ((List.range (k + 1)).map eF)) := hid (by
         rw [HMk.out]
         exact GR.snoc hzo hlr hro ⟨Ax, nx, cx, HRk.out Ax nx cx, HBy.out ▸ HO29.out⟩ (by decide) ho9 hg9)
        clear ho9 hg9 hzo hlr hro HBs
        clear HM29 HG29 HQ29 HO29 HN29
        repeat ((first | (refine chain_take rfl (by rfl) ?_ (fun W hG => ?_) ?_; rotate_left; (go_simp; rfl)) | refine chain_skip rfl (by rfl) ?_); simp only [Act.put, List.setIfInBounds_toArray, List.set_cons_zero, List.set_cons_succ])
        refine chain_only rfl (by rfl) (fun K hK => ?_)
        have c9 := HM30.out.m.at 9
        have s9 := HM30.out.m.soft 9
        go_simp
        refine hK _ _ (kept_set _ _ _ (fun h => HKg.out h)) ?_
        clear hK K c9 s9
        have e9 := setCell_eq_setRow v30 g3 9 _ 51 (0, 0) (.slice A5 (k + 1) c5) HM30.out.m
        have HM31 := hid (HM30.out.set HA.out (.slice Aq P cq) (.slice A5 (k + 1) c5))
        have HG31 := hid (HG30.out.set (show g3 < base by have := HA.out.b; omega) (#[.bool wide, .bool big, .int .u8 (hO : Int), .int .u8 (hA : Int), .int .u16 (ty : Int), .int .u16 (ma : Int), .int .u32 (fl : Int), .int .u64 (en : Int), (.slice Aq P cq), (.slice A5 (k + 1) c5), .int .i64 (I : Int)]))
        have HQ31 := hid (HQ30.out.set (show g3 < base by have := HA.out.b; omega) (#[.bool wide, .bool big, .int .u8 (hO : Int), .int .u8 (hA : Int), .int .u16 (ty : Int), .int .u16 (ma : Int), .int .u32 (fl : Int), .int .u64 (en : Int), (.slice Aq P cq), (.slice A5 (k + 1) c5), .int .i64 (I : Int)]))
        rw [e9]
        clear e9
        clear HM30 HG30 HQ30
        refine chain_done (tr_done ?_)
        have hk16 := HK.out
        have hlt := HLt.out
        go_wp2
        go_roundw
        case rel => exact ⟨k + 1, A5, c5, by omega, by go_num, HM31.out, HG31.out, HQ31.out⟩
        case measure => simp [intOf]; omega
       case' B3s =>
        intro K hK
        go_simp
        refine hK _ _ (Kept.of_grow (Grow.of_alloc _ _)) ?_
        clear hK K
        generalize hW : World.alloc _ _ = v32
        obtain ⟨bn, hg⟩ := blk1 hW
        clear hW
        have HN32 := hid bn
        clear bn
        have HM32 := hid (HM28.out.grow hg)
        have HG32 := hid (HG28.out.keep hg)
        have HQ32 := hid (HQ28.out.keep hg)
        have HO32 := hid (HO28.out.keep hg)
        clear HM28 HG28 HQ28 HO28
        clear hg
        refine tr_chain ?_
        refine chain_only rfl (by rfl) (fun K hK => ?_)
        have c8 := HM32.out.m.at 9
        go_simp
        refine hK _ _ ((leap_kept _).refl _) ?_
        clear hK K c8
        refine chain_only rfl (by rfl) (fun K hK => ?_)
        obtain ⟨Rw, hzo, hlr, hro⟩ := HG32.out
        have HBs := hid (HM32.out.base_le HA.out)
        refine wp_appendZ _ (.tmp 51) (.tmp 57) 49 rfl base 57 (.agg #[.int .u32 0, .int .u32 0, .int .u64 0, .int .u64 0, .int .u64 0, .int .u32 0, .int .u32 0, .int .u64 0, .int .u64 0, .int .i64 0, .int .u64 0, .int .u64 0, .slice none 0 0]) 13 104 Tryz.underlying49 (by kernel_rfl) rfl (by omega) As k cs Rw rfl hzo _ _ _ rfl HN32.out rfl (by simp [Value.oneCell']) (by have := HK.out; unfold maxLen; omega) (by have := HK.out; omega) HBs.out ?_
        intro A5 c5 v33 ho9 hg9 _
        refine hK _ _ (kept_row hg9 (fun i e => HKe.out Rw i hzo e)) ?_
        clear hK K
        have HM33 := hid (HM32.out.by_ HA.out hg9 (fun i e => hzo.ge e))
        have HQ33 := hid (HQ32.out.past hzo (by decide) (by decide) hg9)
        have HG33 : Hid (GR seK v33 base 57 A5 (k + 1) c5 ((List.range (k + 1)).map eF)) := hid (by
         rw [HMk.out]
         exact GR.snoc hzo hlr hro ⟨Ax, nx, cx, HRk.out Ax nx cx, HBy.out ▸ HO32.out⟩ (by decide) ho9 hg9)
        clear ho9 hg9 hzo hlr hro HBs
        clear HM32 HG32 HQ32 HO32 HN32
        repeat ((first | (refine chain_take rfl (by rfl) ?_ (fun W hG => ?_) ?_; rotate_left; (go_simp; rfl)) | refine chain_skip rfl (by rfl) ?_); simp only [Act.put, List.setIfInBounds_toArray, List.set_cons_zero, List.set_cons_succ])
        refine chain_only rfl (by rfl) (fun K hK => ?_)
        have c9 := HM33.out.m.at 9
        have s9 := HM33.out.m.soft 9
        go_simp
        refine hK _ _ (kept_set _ _ _ (fun h => HKg.out h)) ?_
        clear hK K c9 s9
        have e9 := setCell_eq_setRow v33 g3 9 _ 51 (0, 0) (.slice A5 (k + 1) c5) HM33.out.m
        have HM34 := hid (HM33.out.set HA.out (.slice Aq P cq) (.slice A5 (k + 1) c5))
        have HG34 := hid (HG33.out.set (show g3 < base by have := HA.out.b; omega) (#[.bool wide, .bool big, .int .u8 (hO : Int), .int .u8 (hA : Int), .int .u16 (ty : Int), .int .u16 (ma : Int), .int .u32 (fl : Int), .int .u64 (en : Int), (.slice Aq P cq), (.slice A5 (k + 1) c5), .int .i64 (I : Int)]))
        have HQ34 := hid (HQ33.out.set (show g3 < base by have := HA.out.b; omega) (#[.bool wide, .bool big, .int .u8 (hO : Int), .int .u8 (hA : Int), .int .u16 (ty : Int), .int .u16 (ma : Int), .int .u32 (fl : Int), .int .u64 (en : Int), (.slice Aq P cq), (.slice A5 (k + 1) c5), .int .i64 (I : Int)]))
        rw [e9]
        clear e9
        clear HM33 HG33 HQ33
        refine chain_done (tr_done ?_)
        have hk16 := HK.out
        have hlt := HLt.out
        go_wp2
        go_roundw
        case rel => exact ⟨k + 1, A5, c5, by omega, by go_num, HM34.out, HG34.out, HQ34.out⟩
        case measure => simp [intOf]; omega
    ·obtain rfl : S = k := by omega
     obtain ⟨m0, m1, m2, m3, m4, m5, m6, m7, m8, m9, m10⟩ := Blk.c11 HMa.out.m
     go_wp2_with (refine wpList_store_row rfl 51 (.tmp 4) (.tmp 61) rfl g2 (#[.bool wide, .bool big, .int .u8 (hO : Int), .int .u8 (hA : Int), .int .u16 (ty : Int), .int .u16 (ma : Int), .int .u32 (fl : Int), .int .u64 (en : Int), .slice Aq P cq, .slice As S cs, .int .i64 (I : Int)]) rfl rfl _ _ HMa.out.z (by kernel_rfl) rfl (by simp [Value.oneCell']) ?_)
     refine bodyPost_ret (results_cell_row rfl _ _ g2 _ _ (0, 0) _ rfl (HMa.out.z.set _) Tryz.underlying51 rfl (by kernel_rfl)) rfl ?_
     exact ⟨Aq, P, cq, As, S, cs, rfl, (HQa.out.set HA.out.a2 _).mono (by have := HA.out.b; have := HA.out.w3; omega), (HGa.out.set HA.out.a2 _).mono (by have := HA.out.b; have := HA.out.w3; omega), Grow.set HMa.out.g HA.out.w2 _⟩
end Go.Proofs.YtfbimboemahhhaaGreatDoor
