/-
  Several texts in one: The contract of image; The contract of head.
-/
import Derived.Test.YtfbimboemahhhaaGreatDoorTfG24
import Derived.Laws.ResultCell
import Derived.Test.YtfbimboemahhhaaGreatDoorTfG13
namespace Go.Proofs.YtfbimboemahhhaaGreatDoor
open Go.Lib (hid)
open Go.RowKit
set_option maxRecDepth 100000
set_option linter.unusedVariables false
def OwnIn (l : List UInt8) (P : Nat) : Prop := ∀ i, i < P → (pgs l i).ty = 1 → inB l.length (pgs l i).off (pgs l i).fs = true
def LdR (l : List UInt8) (P en : Nat) (w : World) (e : Ending) (w' : World) : Prop :=
 (OwnIn l P ∧ ∃ A c, e = .returned (.tuple #[.agg (imC en (.slice A (fImg l P).length c)), .nilIface]) ∧ GR rgK w' w.heap.size 144 A (fImg l P).length c (fImg l P) ∧ Grow w w') ∨
 (¬ OwnIn l P ∧ e = .returned (.tuple #[.agg (imC 0 (.slice none 0 0)), .iface 86 (.int .i64 4)]) ∧ Grow w w')
theorem ld_ret {K : Ending → World → Prop} {W : World} {tmps : Array Value} {g : Nat} {ev a b : Value} (ht : tmps.getD 6 undef = .pointer (some ⟨g, 0, none⟩)) (he : tmps.getD 7 undef = ev)
  (hx : Blk W g 73 #[a, b]) (hk : K (.returned (.tuple #[.agg #[a, b], ev])) W) : bodyPost Tryz.prog Tryz.f57 K .ret ⟨tmps, []⟩ W := by
 refine bodyPost_ret (v := .tuple #[.agg #[a, b], ev]) ?_ rfl hk
 rw [results_cell_tmp rfl, ht, he]
 simp [asAddr, Result.andThen, hx.var _ _ Tryz.underlying73 rfl (by kernel_rfl)]
set_option maxHeartbeats 8000000 in
theorem imLoaded_any (l : List UInt8) (A : Option Addr) (n c en : Nat) (A1 : Option Addr) (P c1 : Nat) (w : World) (hr : RB w w.heap.size A n c l) (hz : ZS w w.heap.size 8 A1 P c1 (pgR l P)) (hP : P ≤ 65536) (hn : n ≤ 140737488355328) :
  Calls Tryz.prog 57 #[.slice A n c, .int .u64 en, .slice A1 P c1] w (LdR l P en w) := by
 have hlen := hr.len
 have hnm : n ≤ maxLen := Nat.le_trans hr.cap hr.max
 have hc := hz.cap
 have hm := hz.max
 unfold maxLen at hm
 have H1 := hid hz
 have HIn := hid (fun p W => imWithin_any p A n c W hnm)
 have HBy := hid (fun p W (hW : Grow w W) hi => bytesOf_any l p A n c W (hr.grow hW) hi hn)
 have HAt := hid (fun k (hk : k < P) h' => pgR_at l P k hk h')
 have HLn : Hid ((pgR l P).length = P) := hid (by simp [pgR])
 have HSu := hid (fun k => fImg_succ l k)
 have HLe := hid (fun k => fImg_le l k)
 have H0 : Hid (fImg l 0 = []) := hid rfl
 have HN := hid hP
 have HOw : Hid (OwnIn l P ↔ ∀ i, i < P → (pgs l i).ty = 1 → inB n (pgs l i).off (pgs l i).fs = true) := hid (by rw [hlen]; rfl)
 have HRg : Hid (∀ p : Pg, pgRg l p = ⟨p.va, p.ms, p.fl, (l.drop p.off).take p.fs⟩) := hid fun _ => rfl
 unfold LdR imC
 clear hr hlen hnm hz hn hP
 generalize OwnIn l P = OI at *
 generalize pgR l P = PR at *
 generalize fImg l = FI at *
 generalize pgRg l = RG at *
 generalize pgs l = pgF at *
 go_enter Tryz.func57, Tryz.ntmps57
 go_wp2_with fail
 generalize hW : World.alloc _ _ = W0
 obtain ⟨b1, hg0⟩ := blk1 hW
 clear hW
 have HZ := hid b1
 have HG := hid hg0
 clear b1 hg0
 obtain ⟨g2, hg2⟩ : ∃ g, g = w.heap.size := ⟨_, rfl⟩
 rw [← hg2] at HZ ⊢
 have HG2 : Hid (w.heap.size ≤ g2) := hid (by omega)
 clear hg2
 go_loopw [15] (fun i wr => ∃ k : Nat, k ≤ P ∧ i = .int .i64 k ∧ Hid (∀ j, j < k → (pgF j).ty = 1 → inB n (pgF j).off (pgF j).fs = true) ∧ Blk wr g2 73 #[.int .u64 0, .slice none 0 0] ∧ Grow w wr) (fun i _ => P - (intOf i).toNat)
 case atStart => exact ⟨0, Nat.zero_le _, rfl, hid fun j hj => by omega, HZ.out, HG.out⟩
 case round =>
  obtain ⟨k, hk, rfl, HJ, hz, hg⟩ := hrel
  have HZa := hid hz
  have HGa := hid hg
  clear hz hg HZ HG
  by_cases hlt : k < P
  ·have hkl : k < PR.length := by rw [HLn.out]; exact hlt
   obtain ⟨b, off0, hAA, hb, hcell⟩ := H1.out.pos (by omega)
   subst hAA
   have p' : ∀ i v, (pgF k).C[i]? = some v → wr.cell? ⟨b, off0 + k * 8 + i, none⟩ = some v := fun i v hv => (Below.cell HGa.out hb).trans (hcell k hkl i v (by rw [HAt.out k hlt hkl]; exact hv))
   have HIk := hid (fun W => HIn.out (pgF k) W)
   have HJk : Hid (∀ q, q = pgF k → (q.ty = 1 → inB n q.off q.fs = true) → ∀ j, j < k + 1 → (pgF j).ty = 1 → inB n (pgF j).off (pgF j).fs = true) := hid fun q hq h j hj => by
    rcases Nat.lt_or_ge j k with h1 | h1
    ·exact HJ.out j h1
    ·rw [show j = k by omega, ← hq]; exact h
   have HJn : Hid (∀ q, q = pgF k → q.ty = 1 → inB n q.off q.fs = false → ¬ OI) := hid fun q hq h1 h2 h => by
    have := (HOw.out.1 h) k hlt
    rw [← hq] at this
    rw [this h1] at h2
    cases h2
   clear hkl hcell
   generalize hp : pgF k = p at p' HIk
   have HJk := hid (HJk.out p hp.symm)
   have HJn := hid (HJn.out p hp.symm)
   clear hp
   obtain ⟨ty, fl, off, va, pa, fs, ms, al⟩ := p
   unfold Pg.C at p'
   unfold Pg.V Pg.C at HIk
   simp only [] at p' HIk HJk HJn
   have s0 : wr.cell? ⟨b, off0 + k * 8, none⟩ = _ := p' 0 _ rfl
   have s1 : wr.cell? ⟨b, off0 + k * 8 + 1, none⟩ = _ := p' 1 _ rfl
   have s2 : wr.cell? ⟨b, off0 + k * 8 + 2, none⟩ = _ := p' 2 _ rfl
   have s3 : wr.cell? ⟨b, off0 + k * 8 + 3, none⟩ = _ := p' 3 _ rfl
   have s4 : wr.cell? ⟨b, off0 + k * 8 + 4, none⟩ = _ := p' 4 _ rfl
   have s5 : wr.cell? ⟨b, off0 + k * 8 + 5, none⟩ = _ := p' 5 _ rfl
   have s6 : wr.cell? ⟨b, off0 + k * 8 + 6, none⟩ = _ := p' 6 _ rfl
   have s7 : wr.cell? ⟨b, off0 + k * 8 + 7, none⟩ = _ := p' 7 _ rfl
   clear p'
   have w0 : (0 : Int) ≤ (k : Int) := by omega
   have w1 : (k : Int) < (P : Int) := by omega
   have d1 : decide ((k : Int) < (P : Int)) = true := decide_eq_true (by omega)
   have hal := Grow.of_alloc wr (.cells #[.int .u32 (ty : Int), .int .u32 (fl : Int), .int .u64 (off : Int), .int .u64 (va : Int), .int .u64 (pa : Int), .int .u64 (fs : Int), .int .u64 (ms : Int), .int .u64 (al : Int)] 167)
   have HZb := hid (HZa.out.grow hal)
   have HGb : Hid (Grow w (wr.alloc (.cells #[.int .u32 (ty : Int), .int .u32 (fl : Int), .int .u64 (off : Int), .int .u64 (va : Int), .int .u64 (pa : Int), .int .u64 (fs : Int), .int .u64 (ms : Int), .int .u64 (al : Int)] 167))) := hid (HGa.out.trans hal)
   clear hal
   by_cases ht : ty = 1
   ·have d2 : ((ty : Int) == 1) = true := by simp [ht]
    have HT := hid ht
    clear ht
    go_wp2_with fail
    refine (HIk.out _).mono ?_
    rintro e w2 ⟨rfl, hg⟩
    have HZc := hid (HZb.out.grow hg)
    have HGc : Hid (Grow w w2) := hid (HGb.out.trans hg)
    clear hg HZb HGb s0 s1 s2 s3 s4 s5 s6 s7
    cases hin : inB n off fs with
    | true =>
     have HJ2 := hid (HJk.out fun _ => hin)
     clear hin
     go_wp2
     go_roundw
     case rel => exact ⟨k + 1, by omega, by go_num, HJ2, HZc.out, HGc.out⟩
     case measure => simp [intOf]; omega
    | false =>
     have HNo := hid (HJn.out HT.out hin)
     clear hin
     go_wp2_with (refine wpList_store_row rfl 73 (.tmp 6) (.tmp 28) rfl g2 #[.int .u64 0, .slice none 0 0] rfl rfl _ _ HZc.out (by kernel_rfl) rfl (by simp [Value.oneCell']) ?_)
     refine ld_ret (by rfl) (by rfl) (HZc.out.set _) ?_
     exact .inr ⟨HNo.out, rfl, Grow.set HGc.out HG2.out _⟩
   ·have d2 : ((ty : Int) == 1) = false := by simp; omega
    have HJ2 := hid (HJk.out fun h => absurd h ht)
    clear ht
    go_wp2
    go_roundw
    case rel => exact ⟨k + 1, by omega, by go_num, HJ2, HZb.out, HGb.out⟩
    case measure => simp [intOf]; omega
  ·have e : P = k := by omega
   subst e
   have HOk : Hid OI := hid (HOw.out.2 HJ.out)
   have d1 : decide ((P : Int) < (P : Int)) = false := decide_eq_false (by omega)
   clear hlt HJ hk
   generalize wr = wz at *
   go_wp2_with fail
   clear d1
   generalize hW : World.alloc _ _ = W1
   obtain ⟨b3, hg3⟩ := blk1 hW
   clear hW
   have HA : Hid (IBA w g2 wz.heap.size (wz.heap.size + 1)) := hid ⟨rfl, HZa.out.lt, HG2.out⟩
   have HM : Hid (IB w W1 g2 wz.heap.size en (.slice none 0 0)) := hid ⟨HZa.out.grow hg3, b3, HGa.out.trans hg3⟩
   clear b3 hg3 HZa HGa
   generalize wz.heap.size + 1 = base at HA
   generalize wz.heap.size = g3 at HA HM ⊢
   clear wz
   go_loopw [35] (fun i wr => ∃ (k : Nat) (As : Option Addr) (cs : Nat), k ≤ P ∧ i = .int .i64 k ∧ IB w wr g2 g3 en (.slice As (FI k).length cs) ∧ GR rgK wr base 144 As (FI k).length cs (FI k)) (fun i _ => P - (intOf i).toNat)
   case atStart =>
    refine ⟨0, none, 0, Nat.zero_le _, rfl, ?_, ?_⟩
    ·rw [H0.out]; exact HM.out
    ·rw [H0.out]; exact GR.nil trivial
   case round =>
    obtain ⟨k, As, cs, hk, rfl, hm1, hgr⟩ := hrel
    have HMa := hid hm1
    have HGa := hid hgr
    clear hm1 hgr HM
    have HLk := hid (HLe.out k)
    by_cases hlt : k < P
    ·have hkl : k < PR.length := by rw [HLn.out]; exact hlt
     obtain ⟨b, off0, hAA, hb, hcell⟩ := H1.out.pos (by omega)
     subst hAA
     have p' : ∀ i v, (pgF k).C[i]? = some v → wr.cell? ⟨b, off0 + k * 8 + i, none⟩ = some v := fun i v hv => (Below.cell HMa.out.g hb).trans (hcell k hkl i v (by rw [HAt.out k hlt hkl]; exact hv))
     have HSk := hid (HSu.out k)
     have HBk := hid (fun W hW hi => HBy.out (pgF k) W hW hi)
     have HIk := hid ((HOw.out.1 HOk.out) k hlt)
     have HRk := hid (HRg.out (pgF k))
     clear hkl hcell
     generalize pgF k = p at p' HSk HBk HIk HRk
     obtain ⟨ty, fl, off, va, pa, fs, ms, al⟩ := p
     unfold Pg.C at p'
     unfold Pg.V Pg.C at HBk
     unfold NewB at HBk
     simp only [] at p' HSk HBk HIk HRk
     have s0 : wr.cell? ⟨b, off0 + k * 8, none⟩ = _ := p' 0 _ rfl
     have s1 : wr.cell? ⟨b, off0 + k * 8 + 1, none⟩ = _ := p' 1 _ rfl
     have s2 : wr.cell? ⟨b, off0 + k * 8 + 2, none⟩ = _ := p' 2 _ rfl
     have s3 : wr.cell? ⟨b, off0 + k * 8 + 3, none⟩ = _ := p' 3 _ rfl
     have s4 : wr.cell? ⟨b, off0 + k * 8 + 4, none⟩ = _ := p' 4 _ rfl
     have s5 : wr.cell? ⟨b, off0 + k * 8 + 5, none⟩ = _ := p' 5 _ rfl
     have s6 : wr.cell? ⟨b, off0 + k * 8 + 6, none⟩ = _ := p' 6 _ rfl
     have s7 : wr.cell? ⟨b, off0 + k * 8 + 7, none⟩ = _ := p' 7 _ rfl
     clear p'
     have w0 : (0 : Int) ≤ (k : Int) := by omega
     have w1 : (k : Int) < (P : Int) := by omega
     have d1 : decide ((k : Int) < (P : Int)) = true := decide_eq_true (by omega)
     by_cases ht : ty = 1
     ·have d2 : ((ty : Int) == 1) = true := by simp [ht]
      rw [if_pos ht] at HSk
      have HBo := hid (fun W hW => HBk.out W hW (HIk.out ht))
      clear ht HBk HIk
      have HRr : Hid (∀ (Ax : Option Addr) (nx cx : Nat), (#[.int .u64 (va : Nat), .int .u64 (ms : Nat), .int .u32 (fl : Nat), .slice Ax nx cx] : Array Value) = rgK.cs (RG ⟨ty, fl, off, va, pa, fs, ms, al⟩) (.slice Ax nx cx)) := hid fun Ax nx cx => by rw [HRk.out]; rfl
      have HBy2 : Hid ((l.drop off).take fs = rgK.by_ (RG ⟨ty, fl, off, va, pa, fs, ms, al⟩)) := hid (by rw [HRk.out]; rfl)
      generalize RG ⟨ty, fl, off, va, pa, fs, ms, al⟩ = rg at HSk HRr HBy2
      generalize (l.drop off).take fs = bs at HBo HBy2
      clear HRk
      go_wp2_with fail
      generalize hW : World.alloc _ _ = W5
      obtain ⟨b5, hg⟩ := blk1 hW
      obtain ⟨g5, hg5⟩ : ∃ g, g = wr.heap.size := ⟨_, rfl⟩
      rw [← hg5] at b5 ⊢
      clear hW s0 s1 s2 s3 s4 s5 s6 s7
      have HKe : Hid (∀ i, own As = some i → ¬ (i = g3 ∨ i = g5)) := hid (by
       obtain ⟨Rw0, hzo0, _, _⟩ := HGa.out
       exact IB.apart HA.out hzo0 (show wr.heap.size ≤ g5 by omega))
      have hgd := hg.trans (Grow.of_drew W5)
      have HM0 := hid (HMa.out.grow hgd)
      have HG0 := hid (HGa.out.keep hgd)
      have HP0 := hid b5.drew
      clear b5 hg hgd hg5 HMa HGa
      refine wp_region_last (leap_kept (fun j => j = g3 ∨ j = g5)) [(0, true), (1, true), (2, true), (3, true), (4, true), (5, true), (6, true), (7, true), (8, true), (9, true), (10, false), (11, true), (12, false), (13, false), (14, true)] 15 (by kernel_rfl) (by kernel_rfl) (by kernel_rfl) ?_
      generalize W5.drew = v0 at HM0 HG0 HP0 ⊢
      have q0 : ∀ W, Kept (fun j => j = g3 ∨ j = g5) v0 W → W.cell? ⟨g5, 0, none⟩ = some (.int .u32 (ty : Int)) := fun W hW => (HP0.out.kept hW (.inr rfl)).at 0
      have q1 : ∀ W, Kept (fun j => j = g3 ∨ j = g5) v0 W → W.cell? ⟨g5, 1, none⟩ = some (.int .u32 (fl : Int)) := fun W hW => (HP0.out.kept hW (.inr rfl)).at 1
      have q2 : ∀ W, Kept (fun j => j = g3 ∨ j = g5) v0 W → W.cell? ⟨g5, 2, none⟩ = some (.int .u64 (off : Int)) := fun W hW => (HP0.out.kept hW (.inr rfl)).at 2
      have q3 : ∀ W, Kept (fun j => j = g3 ∨ j = g5) v0 W → W.cell? ⟨g5, 3, none⟩ = some (.int .u64 (va : Int)) := fun W hW => (HP0.out.kept hW (.inr rfl)).at 3
      have q4 : ∀ W, Kept (fun j => j = g3 ∨ j = g5) v0 W → W.cell? ⟨g5, 4, none⟩ = some (.int .u64 (pa : Int)) := fun W hW => (HP0.out.kept hW (.inr rfl)).at 4
      have q5 : ∀ W, Kept (fun j => j = g3 ∨ j = g5) v0 W → W.cell? ⟨g5, 5, none⟩ = some (.int .u64 (fs : Int)) := fun W hW => (HP0.out.kept hW (.inr rfl)).at 5
      have q6 : ∀ W, Kept (fun j => j = g3 ∨ j = g5) v0 W → W.cell? ⟨g5, 6, none⟩ = some (.int .u64 (ms : Int)) := fun W hW => (HP0.out.kept hW (.inr rfl)).at 6
      have q7 : ∀ W, Kept (fun j => j = g3 ∨ j = g5) v0 W → W.cell? ⟨g5, 7, none⟩ = some (.int .u64 (al : Int)) := fun W hW => (HP0.out.kept hW (.inr rfl)).at 7
      have r1 : ∀ W, Kept (fun j => j = g3 ∨ j = g5) v0 W → W.cell? ⟨g3, 1, none⟩ = some (.slice As (FI k).length cs) := fun W hW => (HM0.out.x.kept hW (.inl rfl)).at 1
      repeat ((first | (refine chain_take rfl (by rfl) ?_ (fun W hG => ?_) ?_; rotate_left; (go_simp; rfl)) | refine chain_skip rfl (by rfl) ?_); simp only [Act.put, List.setIfInBounds_toArray, List.set_cons_zero, List.set_cons_succ])
      clear q0 q1 q2 q3 q4 q5 q6 q7 r1 HP0
      refine chain_only rfl (by rfl) (fun K hK => ?_)
      go_simp
      refine (HBo.out _ HM0.out.g).mono ?_
      rintro e v1 ⟨Ax, cx, rfl, ho, hg⟩
      refine hK _ _ (Kept.of_grow hg) ?_
      clear hK K
      have HO1 := hid (ho.mono (HM0.out.base_le HA.out))
      have HM1 := hid (HM0.out.grow hg)
      have HG1 := hid (HG0.out.keep hg)
      clear ho HM0 HG0 hg
      repeat ((first | (refine chain_take rfl (by rfl) ?_ (fun W hG => ?_) ?_; rotate_left; (go_simp; rfl)) | refine chain_skip rfl (by rfl) ?_); simp only [Act.put, List.setIfInBounds_toArray, List.set_cons_zero, List.set_cons_succ])
      refine chain_only rfl (by rfl) (fun K hK => ?_)
      go_simp
      refine hK _ _ (Kept.of_grow (Grow.of_alloc _ _)) ?_
      clear hK K
      generalize hW : World.alloc _ _ = v3
      obtain ⟨bn, hg⟩ := blk1 hW
      clear hW
      have HN3 := hid bn
      have HM3 := hid (HM1.out.grow hg)
      have HG3 := hid (HG1.out.keep hg)
      have HO3 := hid (HO1.out.keep hg)
      clear bn HM1 HG1 HO1 hg
      refine chain_only rfl (by rfl) (fun K hK => ?_)
      obtain ⟨Rw, hzo, hlr, hro⟩ := HG3.out
      have HBs := hid (HM3.out.base_le HA.out)
      refine wp_appendZ _ (.tmp 43) (.tmp 54) 71 rfl base 144 (.agg #[.int .u64 0, .int .u64 0, .int .u32 0, .slice none 0 0]) 4 48 Tryz.underlying71 (by kernel_rfl) rfl (by omega) As _ cs Rw rfl hzo _ _ _ rfl HN3.out rfl (by simp [Value.oneCell']) (by have := HLk.out; have := HN.out; unfold maxLen; omega) (by have := HLk.out; have := HN.out; omega) HBs.out ?_
      intro A5 c5 v4 ho9 hg9 _
      refine hK _ _ (kept_row hg9 HKe.out) ?_
      clear hK K
      have HM4 := hid (HM3.out.by_ HA.out hg9 (fun i e => hzo.ge e))
      have HG4 : Hid (GR rgK v4 base 144 A5 ((FI k).length + 1) c5 (FI (k + 1))) := hid (by
       rw [HSk.out]
       exact GR.snoc hzo hlr hro ⟨Ax, _, cx, HRr.out Ax _ cx, HBy2.out ▸ HO3.out⟩ (by decide) ho9 hg9)
      clear ho9 hg9 hzo hlr hro HBs HM3 HG3 HO3 HN3
      have hle : (FI k).length + 1 = (FI (k + 1)).length := by rw [HSk.out, List.length_append]; rfl
      rw [hle] at HG4 ⊢
      clear hle
      repeat ((first | (refine chain_take rfl (by rfl) ?_ (fun W hG => ?_) ?_; rotate_left; (go_simp; rfl)) | refine chain_skip rfl (by rfl) ?_); simp only [Act.put, List.setIfInBounds_toArray, List.set_cons_zero, List.set_cons_succ])
      refine chain_done (last_op rfl (by rfl) (fun K hK => ?_))
      have c9 := HM4.out.x.at 1
      have s9 := HM4.out.x.soft 1
      go_simp
      refine hK _ _ ?_
      clear hK K c9 s9
      have e9 := setCell_eq_setRow v4 g3 1 _ 73 (0, 0) (.slice A5 (FI (k + 1)).length c5) HM4.out.x
      have HM5 := hid (HM4.out.set HA.out (.slice A5 (FI (k + 1)).length c5))
      have HG5 := hid (HG4.out.set (show g3 < base by have := HA.out.b; omega) #[.int .u64 (en : Nat), .slice A5 (FI (k + 1)).length c5])
      rw [e9]
      clear e9 HM4 HG4
      go_wp2
      go_roundw
      case rel => exact ⟨k + 1, A5, c5, by omega, by go_num, HM5.out, HG5.out⟩
      case measure => simp [intOf]; omega
     ·have d2 : ((ty : Int) == 1) = false := by simp; omega
      rw [if_neg ht, List.append_nil] at HSk
      have hgr := Grow.of_alloc wr (.cells #[.int .u32 (ty : Int), .int .u32 (fl : Int), .int .u64 (off : Int), .int .u64 (va : Int), .int .u64 (pa : Int), .int .u64 (fs : Int), .int .u64 (ms : Int), .int .u64 (al : Int)] 167)
      have HM5 := hid (HMa.out.grow hgr)
      have HG5 := hid (HGa.out.keep hgr)
      rw [← HSk.out] at HM5 HG5
      clear hgr ht
      go_wp2
      go_roundw
      case rel => exact ⟨k + 1, As, cs, by omega, by go_num, HM5.out, HG5.out⟩
      case measure => simp [intOf]; omega
    ·have e : P = k := by omega
     subst e
     have d1 : decide ((P : Int) < (P : Int)) = false := decide_eq_false (by omega)
     clear hlt hk HLk
     obtain ⟨x0, x1⟩ := HMa.out.x.c2
     go_wp2_with (refine wpList_store_row rfl 73 (.tmp 6) (.tmp 58) rfl g2 _ rfl rfl _ _ HMa.out.z (by kernel_rfl) rfl (by simp [Value.oneCell']) ?_)
     clear x0 x1
     refine ld_ret (by rfl) (by rfl) (HMa.out.z.set _) ?_
     exact .inl ⟨HOk.out, As, cs, rfl, (HGa.out.set (show g2 < base by have := HA.out.b; have := HA.out.a2; omega) _).mono (by have := HA.out.b; have := HA.out.a2; have := HA.out.w2; omega), Grow.set HMa.out.g HA.out.w2 _⟩
set_option maxRecDepth 100000
def HGot (l : List UInt8) (w : World) (e : Ending) (w' : World) : Prop :=
 ∃ c p v err, e = .returned (.tuple #[v, err]) ∧ HTold l c p v ∧ Err w' err c p ∧ Grow w w'
theorem hgot_ret {l : List UInt8} {w W : World} {tmps : Array Value} {g c p : Nat} {err : Value} {t : TypeId} {h : Hd} (ht : tmps.getD 2 undef = .pointer (some ⟨g, 0, none⟩)) (he : tmps.getD 3 undef = err)
  (hx : Blk W g t h.C) (h1 : HTold l c p h.V) (h2 : Err W err c p) (h3 : Grow w W) : bodyPost Tryz.prog Tryz.f41 (HGot l w) .ret ⟨tmps, []⟩ W := by
 refine bodyPost_ret (v := .tuple #[h.V, err]) ?_ rfl ⟨c, p, h.V, err, rfl, h1, h2, h3⟩
 rw [results_cell_tmp rfl, ht, he]
 simp [asAddr, Result.andThen, hx.var _ _ Tryz.underlying110 rfl (by kernel_rfl)]
 rfl
theorem sz_head (h : Hd) : (Tryz.prog.info? 110).map (·.size) = some h.C.size := by kernel_rfl
set_option maxHeartbeats 800000 in
theorem hGet_any (A : Option Addr) (n c : Nat) (l : List UInt8) (w : World) (h : RB w w.heap.size A n c l) : Calls Tryz.prog 41 #[.slice A n c] w (HGot l w) := by
 have HR := hid h
 have HLen := hid h.len
 have hcp := h.cap
 have hmx := h.max
 unfold maxLen at hmx
 clear h
 go_enter Tryz.func41, Tryz.ntmps41
 go_wp2_with fail
 generalize hW : World.alloc _ _ = W0
 obtain ⟨b2, hg0⟩ := blk1 hW
 clear hW
 refine (idGet_any A n c l W0 ((HR.out.belowAt hg0 (Nat.le_refl _)).more hg0.size)).mono ?_
 rintro e w1 ⟨c0, p0, err, rfl, ht, he, hg1⟩
 have HT := hid ht
 have HE := hid he
 have HB2 : Hid (Blk w1 w.heap.size 110 hd0.C) := b2.grow hg1
 have HG1 : Hid (Grow w w1) := hg0.trans hg1
 have HS : Hid (w.heap.size ≤ w.heap.size) := Nat.le_refl _
 clear b2 hg0 ht he hg1
 rcases HE.out with ⟨rfl, rfl, rfl⟩ | ⟨h0, b, rfl, hb, hc1, hc2⟩
 ·have hi := idOf_zero l
  rw [hi]
  clear hi
  have HN : Hid (∀ w, Calls Tryz.prog 87 #[.agg (hdOf l).C] w fun e w' => e = .returned (.agg (u64s (hdOf l).N)) ∧ Grow w w') := fun w => numbers_any (hdOf l) (hdOf_ok l) w
  have HMB : Hid (∀ (k : Nat) w, Calls Tryz.prog 88 #[.int .i64 k, .agg (hdOf l).C] w fun e w' => e = .returned (.bool (mayAny k (hdOf l).pn (hdOf l).sh)) ∧ Grow w w') := fun k w => mayBeAny_any (hdOf l) k w
  have HHd : Hid (∀ w, Calls Tryz.prog 86 #[.agg #[.bool (lWide l), .bool (lBig l), .int .u8 ((l.getD 7 0).toNat : Int), .int .u8 ((l.getD 8 0).toNat : Int)], .agg (u64s (hdX l))] w fun e w' => e = .returned (.agg (hdOf l).C) ∧ Grow w w') := fun w => by
   obtain ⟨x0, x1, x2, x3, x4, x5, x6, x7, x8, x9, x10, x11, x12, hx⟩ := list13 (hdX_len l)
   have ok := hdOf_ok l
   rw [hdOf_eq hx] at ok ⊢
   rw [hx]
   exact header_any (lWide l) (lBig l) (l.getD 7 0) (l.getD 8 0) x0 x1 x2 x3 x4 x5 x6 x7 x8 x9 x10 x11 x12 w ok.ty ok.ma ok.fl ok.pn ok.sn ok.st
  have HRd : Hid (∀ w, RB w w.heap.size A n c l → hSize (lWide l) ≤ l.length → Calls Tryz.prog 85 #[.slice A n c, .agg #[.bool (lWide l), .bool (lBig l)]] w fun e w' => e = .returned (.tuple #[.agg (u64s (hdX l)), .agg (i64s (hPl (lWide l)))]) ∧ Grow w w') :=
   fun w h1 h2 => hRead_any A n c l (lWide l) (lBig l) w h1 h2
  have HSz : Hid (∀ w, Calls Tryz.prog 84 #[.agg #[.bool (lWide l), .bool (lBig l)]] w fun e w' => e = .returned (.int .i64 (hSize (lWide l) : Nat)) ∧ Grow w w') := fun w => hSize_any _ _ w
  have HXk := hid (fun k (hk : k < 13) => idx_u64s (hdX l) k (by rw [hdX_len]; exact hk))
  have HNk := hid (fun k (hk : k < 13) => idx_u64s (hdOf l).N k hk)
  have HPk := hid (fun k (hk : k < 13) => (idx_i64s (hPl (lWide l)) k (by simpa [hPl] using hk)))
  have HXs : Hid ((u64s (hdX l)).size = 13) := hid (by simp [u64s, hdX_len])
  have HPs : Hid ((i64s (hPl (lWide l))).size = 13) := hid (by simp [i64s, hPl])
  have HXo := hid (one_u64s (hdX l))
  have HPo := hid (one_i64s (hPl (lWide l)))
  have HBd : Hid (∀ k, HBad l k ↔ (hdX l).getD k 0 ≠ (hdOf l).N.getD k 0 ∧ mayAny k (hdOf l).pn (hdOf l).sh = false) := fun k => Iff.rfl
  have HPl : Hid (∀ k, k < 13 → (hPl (lWide l)).getD k 0 = 16 + sumN ((hRow (lWide l)).take k)) := fun k hk => by rw [List.getD_eq_getElem?_getD, hPl_at _ _ hk]; exact rfl
  have HC1 : Hid ((hdOf l).C.size = 13) := hid rfl
  have HC2 := hid (hdOf l).one
  have HTo : Hid (∀ c p, hdTold l c p → HTold l c p (if c = 0 then (hdOf l).V else hd0.V)) := fun c p h => .inr ⟨HT.out, h, rfl⟩
  generalize hR : (hdOf l).C = R at HN HMB HHd HC1 HC2
  have HRC := hid hR
  clear hR
  generalize u64s (hdOf l).N = RN at HN HNk
  generalize u64s (hdX l) = RX at HHd HRd HXk HXs HXo
  generalize i64s (hPl (lWide l)) = RP at HRd HPk HPs HPo
  unfold idV
  generalize ((l.getD 7 0).toNat : Int) = ov at HHd ⊢
  generalize ((l.getD 8 0).toNat : Int) = av at HHd ⊢
  obtain ⟨wide, hwide⟩ : ∃ b, b = lWide l := ⟨_, rfl⟩
  obtain ⟨big, hbig⟩ : ∃ b, b = lBig l := ⟨_, rfl⟩
  rw [← hwide, ← hbig] at HHd HRd HSz ⊢
  have HWide := hid hwide
  clear hwide hbig
  go_wp2_with fail
  refine (HSz.out _).mono ?_
  rintro e w2 ⟨rfl, hg2⟩
  have HB4 := hid ((Blk.new w1 47 #[.bool wide, .bool big, .int .u8 ov, .int .u8 av]).grow hg2)
  have HB2' := hid ((HB2.out.alloc (.cells #[.bool wide, .bool big, .int .u8 ov, .int .u8 av] 47)).grow hg2)
  have HG2 : Hid (Grow w w2) := (HG1.out.trans (Grow.of_alloc _ _)).trans hg2
  have HLt : Hid (w.heap.size < w1.heap.size) := HB2.out.lt
  generalize w1.heap.size = g4 at HB4 HLt ⊢
  clear hg2 HG1 HB2 HE HT
  generalize hsz : hSize wide = sz at HRd ⊢
  have HSzz := hid hsz
  have hsz1 : sz < 100 := by rw [← hsz]; cases wide <;> decide
  clear hsz HSz
  by_cases hshort : n < sz
  ·have HT3 : Hid (HTold l 2 n hd0.V) := HTo.out 2 n (.inl ⟨by rw [← HLen.out, ← HWide.out, HSzz.out]; exact hshort, rfl, HLen.out⟩)
   go_wp2_with (refine wpList_store_row rfl 110 (.tmp 2) (.tmp 26) rfl w.heap.size hd0.C rfl rfl _ _ (HB2'.out.alloc _) (sz_head hd0) rfl hd0.one ?_; rw [(HB2'.out.alloc _).same])
   exact hgot_ret (err := .iface 126 (.pointer (some ⟨w2.heap.size, 0, none⟩))) (c := 2) rfl rfl (HB2'.out.alloc _) HT3.out (Err.box w2 2 n _ (by omega)) (HG2.out.trans (Grow.of_alloc _ _))
  ·have hll : sz ≤ l.length := by have := HLen.out; omega
   have HLL : Hid (hSize (lWide l) ≤ l.length) := by rw [← HWide.out, HSzz.out]; exact hll
   have HRr : Hid (RB w2 w2.heap.size A n c l) := (HR.out.belowAt HG2.out (Nat.le_refl _)).more HG2.out.size
   obtain ⟨y0, y1, y2, y3⟩ := HB4.out.c4
   have HLz := hid hll
   clear hll
   go_wp2_with fail
   clear y0 y1 y2 y3
   refine (HRd.out w2 HRr.out HLz.out).mono ?_
   rintro e w3 ⟨rfl, hg3⟩
   have HB4' := hid ((HB4.out.grow hg3))
   have HB2 := hid ((HB2'.out.grow hg3))
   have HG3 : Hid (Grow w w3) := HG2.out.trans hg3
   clear hg3 HB4 HB2' HG2 HRr HRd HSzz hsz1 hshort
   go_wp2_with (first
    | (refine wpList_store_row rfl 176 (.tmp 6) (.tmp 37) rfl w3.heap.size RX rfl rfl _ _ (blk2 rfl).1 (by rw [HXs.out]; kernel_rfl) (by rw [HXs.out]; rfl) HXo.out ?_)
    | (refine wpList_store_row rfl 177 (.tmp 7) (.tmp 38) rfl (w3.heap.size + 1) RP rfl rfl _ _ ((blk2 rfl).2.1.other (by omega) _) (by rw [HPs.out]; kernel_rfl) (by rw [HPs.out]; rfl) HPo.out ?_
       generalize hW4 : World.setRow (World.setRow _ _ _) _ _ = w4
       have HB6 : Hid (Blk w4 w3.heap.size 176 RX) := by rw [← hW4]; exact ((blk2 rfl).1.set RX).other (by omega) _
       have HB7 : Hid (Blk w4 (w3.heap.size + 1) 177 RP) := by rw [← hW4]; exact ((blk2 rfl).2.1.other (by omega) _).set RP
       have HG4 : Hid (Grow w3 w4) := by rw [← hW4]; exact Grow.set (Grow.set (blk2 rfl).2.2 (Nat.le_refl _) _) (Nat.le_succ _) _
       have y := (HB4'.out.grow HG4.out).c4
       obtain ⟨y0, y1, y2, y3⟩ := y
       clear hW4)
    | (refine wpList_load_row rfl 176 (.tmp 6) rfl w3.heap.size rfl _ RX (0, 0) _ HB6.out Tryz.underlying176 rfl (by rw [HXs.out]; kernel_rfl) ?_))
   clear y0 y1 y2 y3
   have HB2b := hid (HB2.out.grow HG4.out)
   have HG4b : Hid (Grow w w4) := HG3.out.trans HG4.out
   have HL6 : Hid (w.heap.size < w3.heap.size) := HB2.out.lt
   generalize w3.heap.size = g6 at HB6 HB7 HL6 ⊢
   clear HB4' HB2 HG3 HG4
   refine (HHd.out w4).mono ?_
   rintro e w5 ⟨rfl, hg5⟩
   have HB2c := hid (HB2b.out.grow hg5)
   have HB6c := hid (HB6.out.grow hg5)
   have HB7c := hid (HB7.out.grow hg5)
   have HG5 : Hid (Grow w w5) := HG4b.out.trans hg5
   clear hg5 HB2b HB6 HB7 HG4b HHd
   go_wp2_with (first
    | (refine wpList_store_row rfl 110 (.tmp 8) (.tmp 41) rfl w5.heap.size R rfl rfl _ _ (Blk.new _ _ _) (by rw [HC1.out]; kernel_rfl) (by rw [HC1.out]; rfl) HC2.out ?_; rw [World.setRow_alloc_new])
    | (refine wpList_load_row rfl 110 (.tmp 8) rfl w5.heap.size rfl _ R (0, 0) _ (Blk.new _ _ _) Tryz.underlying110 rfl (by rw [HC1.out]; kernel_rfl) ?_))
   refine (HN.out _).mono ?_
   rintro e w6 ⟨rfl, hg6⟩
   have HB2 := hid ((HB2c.out.alloc _).grow hg6)
   have HB6 := hid ((HB6c.out.alloc _).grow hg6)
   have HB7 := hid ((HB7c.out.alloc _).grow hg6)
   have HB8 := hid ((Blk.new w5 110 R).grow hg6)
   have HG6 : Hid (Grow w w6) := (HG5.out.trans (Grow.of_alloc _ _)).trans hg6
   generalize w5.heap.size = g8 at HB8 ⊢
   clear hg6 HB2c HB6c HB7c HG5 HN
   go_wp2_with fail
   go_loopw [44] (fun i wr => ∃ k : Nat, k ≤ 13 ∧ i = .int .i64 k ∧ (∀ j, j < k → ¬ HBad l j) ∧ Blk wr w.heap.size 110 hd0.C ∧ Blk wr g6 176 RX ∧ Blk wr (g6 + 1) 177 RP ∧ Blk wr g8 110 R ∧ Grow w wr) (fun i _ => 13 - (intOf i).toNat)
   case atStart => exact ⟨0, by omega, rfl, fun j h => absurd h (Nat.not_lt_zero _), HB2.out, HB6.out, HB7.out, HB8.out, HG6.out⟩
   case round =>
    obtain ⟨k, hk, rfl, hno, hb2, hb6, hb7, hb8, hg⟩ := hrel
    clear HB2 HB6 HB7 HB8 HG6
    have HNO := hid hno
    have HB2 := hid hb2
    have HB6 := hid hb6
    have HB7 := hid hb7
    have HB8 := hid hb8
    have HG := hid hg
    clear hno hb2 hb6 hb7 hb8 hg
    by_cases hlt : k < 13
    ·have HX1 := hid (HXk.out k hlt)
     have HN1 := hid (HNk.out k hlt)
     have HP1 := hid (HPk.out k hlt)
     have HBk := hid (HBd.out k)
     have HPp := hid (HPl.out k hlt)
     have HMk := hid (HMB.out k)
     generalize (hdX l).getD k 0 = x at HX1 HBk
     generalize (hdOf l).N.getD k 0 = y at HN1 HBk
     generalize (hPl (lWide l)).getD k 0 = p at HP1 HPp
     generalize mayAny k (hdOf l).pn (hdOf l).sh = mb at HBk HMk
     have c1 : wr.cell? ⟨g6, k, none⟩ = some (.int .u64 (x : Int)) := (HB6.out.at k).trans HX1.out
     have z1 : (0 : Int) ≤ (k : Int) := by omega
     have z2 : (k : Int) < 13 := by omega
     by_cases hxy : x = y
     ·have hne : ((x : Int) != (y : Int)) = false := by simp [hxy]
      have HOK : Hid (∀ j, j < k + 1 → ¬ HBad l j) := fun j hj => by
       rcases Nat.lt_succ_iff_lt_or_eq.1 hj with h1 | h1
       ·exact HNO.out j h1
       ·rw [h1]; exact fun hb => (HBk.out.1 hb).1 hxy
      clear hxy
      go_wp2_with (refine wpList_index rfl 176 37 (.tmp 43) (.tmp 44) rfl 13 _ Tryz.underlying176 Tryz.underlying37 rfl (by kernel_rfl) RN k (.int .u64 (y : Int)) rfl rfl hlt HN1.out ?_)
      go_roundw
      case rel => exact ⟨k + 1, by omega, by go_num, HOK.out, HB2.out, HB6.out, HB7.out, HB8.out, HG.out⟩
      case measure => simp [intOf]; omega
     ·have hne : ((x : Int) != (y : Int)) = true := by simp; omega
      have HXY := hid hxy
      clear hxy
      obtain ⟨r0, r1, r2, r3, r4, r5, r6, r7, r8, r9, r10, r11, r12, rfl⟩ := arr13 HC1.out
      obtain ⟨q0, q1, q2, q3, q4, q5, q6, q7, q8, q9, q10, q11, q12⟩ := HB8.out.c13
      go_wp2_with (refine wpList_index rfl 176 37 (.tmp 43) (.tmp 44) rfl 13 _ Tryz.underlying176 Tryz.underlying37 rfl (by kernel_rfl) RN k (.int .u64 (y : Int)) rfl rfl hlt HN1.out ?_)
      clear q0 q1 q2 q3 q4 q5 q6 q7 q8 q9 q10 q11 q12 c1 hne
      refine (HMk.out _).mono ?_
      rintro e w7 ⟨rfl, hg7⟩
      have HB2n := hid (HB2.out.grow hg7)
      have HB6n := hid (HB6.out.grow hg7)
      have HB7n := hid (HB7.out.grow hg7)
      have HB8n := hid (HB8.out.grow hg7)
      have HGn : Hid (Grow w w7) := HG.out.trans hg7
      clear hg7 HB2 HB6 HB7 HB8 HG
      cases mb
      ·have HT4 : Hid (HTold l 4 p hd0.V) := HTo.out 4 p (.inr (.inr ⟨HLL.out, rfl, k, hlt, HNO.out, HBk.out.2 ⟨HXY.out, rfl⟩, HPp.out⟩))
       go_wp2_with fail
       refine wp_region_fork [(0, true), (1, true), (2, true), (3, true), (4, true)] 5 [(6, true), (7, false), (8, true)] 7 [(5, false), (6, true), (8, true)] (by kernel_rfl) (by kernel_rfl) (by kernel_rfl) ?_
       have HP2 : Hid (∀ W, Grow w7.drew W → W.cell? ⟨g6 + 1, k, none⟩ = some (.int .i64 (p : Int))) := fun W hW => (((HB7n.out.drew).grow hW).at k).trans HP1.out
       have HBd2 : Hid (Blk w7.drew w.heap.size 110 hd0.C) := HB2n.out
       have HGd : Hid (Grow w w7.drew) := HGn.out.trans (Grow.of_drew _)
       generalize w7.drew = w8 at HP2 HBd2 HGd ⊢
       clear HB2n HB6n HB7n HB8n HGn
       repeat (refine chain_take rfl (by rfl) ?_ (fun W hG => ?_) ?_; rotate_left; (have q := HP2.out W hG; go_simp; rfl); simp only [Act.put, List.setIfInBounds_toArray, List.set_cons_zero, List.set_cons_succ])
       refine chain_done ⟨step_op rfl (by rfl) (fun K hK => ?_), step_op rfl (by rfl) (fun K hK => ?_)⟩
       ·go_simp
        refine hK _ _ (Grow.of_alloc _ _) ?_
        clear hK K
        repeat (refine chain_take rfl (by rfl) ?_ (fun W hG => ?_) ?_; rotate_left; (go_simp; rfl); simp only [Act.put, List.setIfInBounds_toArray, List.set_cons_zero, List.set_cons_succ])
        refine chain_only rfl (by rfl) (fun K hK => ?_)
        refine wp_store_row 110 (.tmp 2) (.tmp 59) rfl w.heap.size hd0.C rfl rfl _ _ (HBd2.out.alloc _) (sz_head hd0) rfl hd0.one ?_
        rw [(HBd2.out.alloc _).same]
        refine hK _ _ (Grow.refl _) ?_
        clear hK K
        repeat (refine chain_take rfl (by rfl) ?_ (fun W hG => ?_) ?_; rotate_left; (go_simp; rfl); simp only [Act.put, List.setIfInBounds_toArray, List.set_cons_zero, List.set_cons_succ])
        refine chain_done ?_
        go_wp2
        exact hgot_ret (err := .iface 126 (.pointer (some ⟨w8.heap.size, 0, none⟩))) (c := 4) rfl rfl (HBd2.out.alloc _) HT4.out (Err.box w8 4 p _ (by omega)) (HGd.out.trans (Grow.of_alloc _ _))
       ·refine wp_store_row 110 (.tmp 2) (.tmp 59) rfl w.heap.size hd0.C rfl rfl _ _ HBd2.out (sz_head hd0) rfl hd0.one ?_
        rw [HBd2.out.same]
        refine hK _ _ (Grow.refl _) ?_
        clear hK K
        refine chain_only rfl (by rfl) (fun K hK => ?_)
        go_simp
        refine hK _ _ (Grow.of_alloc _ _) ?_
        clear hK K
        repeat (refine chain_take rfl (by rfl) ?_ (fun W hG => ?_) ?_; rotate_left; (go_simp; rfl); simp only [Act.put, List.setIfInBounds_toArray, List.set_cons_zero, List.set_cons_succ])
        refine chain_done ?_
        go_wp2
        exact hgot_ret (err := .iface 126 (.pointer (some ⟨w8.heap.size, 0, none⟩))) (c := 4) rfl rfl (HBd2.out.alloc _) HT4.out (Err.box w8 4 p _ (by omega)) (HGd.out.trans (Grow.of_alloc _ _))
      ·have HOK : Hid (∀ j, j < k + 1 → ¬ HBad l j) := fun j hj => by
        rcases Nat.lt_succ_iff_lt_or_eq.1 hj with h1 | h1
        ·exact HNO.out j h1
        ·rw [h1]; exact fun hb => absurd (HBk.out.1 hb).2 (by decide)
       go_wp2_with fail
       go_roundw
       case rel => exact ⟨k + 1, by omega, by go_num, HOK.out, HB2n.out, HB6n.out, HB7n.out, HB8n.out, HGn.out⟩
       case measure => simp [intOf]; omega
    ·have HT4 : Hid (HTold l 0 0 (hdOf l).V) := HTo.out 0 0 (.inr (.inl ⟨HLL.out, fun j hj => HNO.out j (by omega), rfl, rfl⟩))
     go_wp2_with (first
      | (refine wpList_load_row rfl 110 (.tmp 8) rfl g8 rfl _ R (0, 0) _ HB8.out Tryz.underlying110 rfl (by rw [HC1.out]; kernel_rfl) ?_)
      | (refine wpList_store_row rfl 110 (.tmp 2) (.tmp 67) rfl w.heap.size R rfl rfl _ _ HB2.out (by rw [HC1.out]; kernel_rfl) (by rw [HC1.out]; rfl) HC2.out ?_))
     exact hgot_ret (err := .nilIface) (c := 0) (p := 0) (h := hdOf l) rfl rfl (by rw [HRC.out]; exact HB2.out.set R) HT4.out (.inl ⟨rfl, rfl, rfl⟩) (Grow.set HG.out (Nat.le_refl _) R)
 ·rw [show idOf l c0 = .agg #[.bool false, .bool false, .int .u8 0, .int .u8 0] from idOf_bad l (by omega)]
  have HT2 : Hid (HTold l c0 p0 hd0.V) := .inl ⟨by omega, HT.out, rfl⟩
  clear hb hc1 hc2 h0
  have HB3 : Hid (∀ o : Obj, Blk (w1.alloc o) w.heap.size 110 hd0.C) := fun o => HB2.out.alloc o
  go_wp2_with (refine wpList_store_row rfl 110 (.tmp 2) (.tmp 18) rfl w.heap.size hd0.C rfl rfl _ _ (HB3.out _) (sz_head hd0) rfl hd0.one ?_; rw [(HB3.out _).same])
  exact hgot_ret (err := .iface 126 (.pointer (some ⟨b, 0, none⟩))) rfl rfl (HB3.out _) HT2.out (HE.out.grow (Grow.of_alloc _ _)) (HG1.out.trans (Grow.of_alloc _ _))
end Go.Proofs.YtfbimboemahhhaaGreatDoor
