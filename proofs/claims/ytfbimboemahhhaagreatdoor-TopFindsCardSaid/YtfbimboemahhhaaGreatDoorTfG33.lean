/-
  Several texts in one: The contracts of (tables); The contracts of (tables); What of a model's reading stays.
-/
import Derived.Test.YtfbimboemahhhaaGreatDoorTfG32
namespace Go.Proofs.YtfbimboemahhhaaGreatDoor
open Go.Lib (hid)
open Go.RowKit
set_option maxRecDepth 100000
set_option linter.unusedVariables false
def fq (l : List UInt8) (off n i k : Nat) : Option Nat := if n = 0 then none else fstP l off n i k
theorem fq_step (l : List UInt8) (off n i k : Nat) : fq l off n i (k + 1) = if (decide (0 < n) && pHas l off n i) = true then some i else fq l off n (i + 1) k := by
 unfold fq
 by_cases h : n = 0
 ·rw [if_pos h, if_neg (by simp [h]), if_pos h]
 ·rw [if_neg h, fstP, if_neg h, show decide (0 < n) = true from decide_eq_true (by omega), Bool.true_and]
theorem fq_none {l : List UInt8} {off n : Nat} (h : fq l off n 0 (nP l) = none) : findPl l off n = ownPl l off n := by
 unfold fq at h
 unfold findPl
 by_cases h0 : n = 0
 ·rw [if_pos h0]
 ·rw [if_neg h0] at h ⊢
  rw [h]
theorem fq_some {l : List UInt8} {off n i : Nat} (h : fq l off n 0 (nP l) = some i) : findPl l off n = ⟨(i : Int), off - (pgs l i).off, n, []⟩ := by
 unfold fq at h
 unfold findPl
 by_cases h0 : n = 0
 ·rw [if_pos h0] at h
  cases h
 ·rw [if_neg h0] at h ⊢
  rw [h]
theorem scR_at (l : List UInt8) (P k : Nat) (h : k < P) (h' : k < (scR l P).length) : (scR l P)[k] = (scs l (k + 1)).C := by simp [scR]
set_option maxHeartbeats 4000000 in
theorem find_any (l : List UInt8) (A : Option Addr) (n c : Nat) (A1 : Option Addr) (c1 : Nat) (T2 T3 : Value) (off size : Nat) (w : World) (hr : RB w w.heap.size A n c l) (hz : ZS w w.heap.size 8 A1 (nP l) c1 (pgR l (nP l)))
  (hin : inB n off size = true) (hlen : n ≤ 65536) (hP : nP l ≤ 16) (hoff : off < 18446744073709551616) (hsz : size < 18446744073709551616) :
  Calls Tryz.prog 136 #[.agg #[.slice A n c, .slice A1 (nP l) c1, T2, T3], .int .u64 (off : Int), .int .u64 (size : Int)] w (PlaceR (findPl l off size) w) := by
 have HO := hid (fun W (hg : Grow w W) => ownPlace_any l A n c (.slice A1 (nP l) c1) T2 T3 off size W (hr.grow hg) hin hlen)
 have HN : Hid (fq l off size 0 (nP l) = none → findPl l off size = ownPl l off size) := hid fq_none
 have HSo : Hid (∀ i, fq l off size 0 (nP l) = some i → findPl l off size = ⟨(i : Int), off - (pgs l i).off, size, []⟩) := hid fun i => fq_some
 have HSt := hid (fun i k => fq_step l off size i k)
 have HH : Hid (∀ k, pHas l off size k = (decide ((pgs l k).ty = 1) && (decide ((pgs l k).off ≤ off) && decide (off - (pgs l k).off + size ≤ (pgs l k).fs)))) := hid fun k => rfl
 have HK : Hid (∀ k, (pgs l k).Ok) := hid fun k => pgOf_ok _ _ _ _
 have HAt := hid (fun k h h' => pgR_at l (nP l) k h h')
 have HLn : Hid ((pgR l (nP l)).length = nP l) := hid (by simp [pgR])
 have HZ := hid hz
 have hzc := hz.cap
 have hzm := hz.max
 unfold maxLen at hzm
 have HN0 : Hid (∀ i, fq l off size i 0 = none) := hid fun i => by unfold fq; split <;> rfl
 unfold PlaceR at HO ⊢
 clear hr hz hin hlen
 generalize nP l = P at *
 generalize findPl l off size = F at *
 generalize ownPl l off size = O at *
 generalize fq l off size = f at *
 generalize pHas l off size = has at *
 generalize pgR l P = R at *
 generalize pgs l = pg at *
 go_enter Tryz.func136, Tryz.ntmps136
 go_wp2_with fail
 generalize hW : World.alloc _ _ = W0
 obtain ⟨b0, b1, hg⟩ := blk2 hW
 have HT := hid b0
 have HX := hid b1
 have HG := hid hg
 have HG1 : Hid (w.heap.size ≤ w.heap.size + 1) := hid (by omega)
 clear hW b0 b1 hg
 generalize w.heap.size + 1 = g1 at HX HG1 ⊢
 obtain ⟨g0, hg0⟩ : ∃ g, g = w.heap.size := ⟨_, rfl⟩
 rw [← hg0] at HT ⊢
 clear hg0
 go_loopw [12] (fun i wr => ∃ k : Nat, k ≤ P ∧ i = .int .i64 k ∧ Blk wr g0 120 #[.slice A n c, .slice A1 P c1, T2, T3] ∧ Blk wr g1 55 #[.int .i64 0, .int .u64 0, .int .u64 0, .slice none 0 0] ∧ Grow w wr ∧ Hid (f 0 P = f k (P - k))) (fun i _ => P - (intOf i).toNat)
 case atStart => exact ⟨0, by omega, rfl, HT.out, HX.out, HG.out, hid rfl⟩
 case round =>
  obtain ⟨k, hk, rfl, ht, hx, hg, HF⟩ := hrel
  have HT1 := hid ht
  have HX1 := hid hx
  have HG2 := hid hg
  clear ht hx hg HT HX HG
  by_cases hlt : k < P
  ·obtain ⟨b, o, hAA, hb, hcell⟩ := HZ.out.pos (by omega)
   subst hAA
   have hkR : k < R.length := by rw [HLn.out]; exact hlt
   have hcell' : ∀ i v, (pg k).C[i]? = some v → wr.cell? ⟨b, o + k * 8 + i, none⟩ = some v := fun i v hv => (Below.cell HG2.out hb).trans (hcell k hkR i v (by rw [HAt.out k hlt hkR]; exact hv))
   have hok := HK.out k
   have HSk := hid (HSt.out k (P - k - 1))
   rw [show P - k - 1 + 1 = P - k by omega, HH.out k] at HSk
   have HSo1 := hid (HSo.out k)
   have hpo := hok.off
   have hpf := hok.fs
   clear hkR hcell hok
   generalize pg k = p at hcell' HSk HSo1 hpo hpf
   obtain ⟨ty, fl, po, va, pa, fs, ms, al⟩ := p
   unfold Pg.C at hcell'
   simp only [] at hcell' HSk HSo1 hpo hpf
   have t0 : wr.cell? ⟨b, o + k * 8, none⟩ = _ := hcell' 0 _ rfl
   have t1 := hcell' 1 _ rfl
   have t2 := hcell' 2 _ rfl
   have t3 := hcell' 3 _ rfl
   have t4 := hcell' 4 _ rfl
   have t5 := hcell' 5 _ rfl
   have t6 := hcell' 6 _ rfl
   have t7 := hcell' 7 _ rfl
   clear hcell'
   by_cases h0 : size = 0
   ·have HF2 : Hid (f 0 P = f (k + 1) (P - (k + 1))) := hid (by rw [HF.out, HSk.out, if_neg (by simp [h0]), Nat.sub_sub])
    have d0 : decide (0 < size) = false := decide_eq_false (by omega)
    have d0' : decide ((0 : Int) < (size : Int)) = false := decide_eq_false (by omega)
    clear h0 hpo hpf
    go_wp2
    go_roundw
    case rel =>
     generalize hW : World.alloc _ _ = W1
     have hg5 := (blk1 hW).2
     exact ⟨k + 1, by omega, by go_num, HT1.out.grow hg5, HX1.out.grow hg5, HG2.out.trans hg5, HF2⟩
    case measure => simp [intOf]; omega
   have d0 : decide (0 < size) = true := decide_eq_true (by omega)
   have d0' : decide ((0 : Int) < (size : Int)) = true := decide_eq_true (by omega)
   by_cases h1 : ¬ ty = 1
   ·have HF2 : Hid (f 0 P = f (k + 1) (P - (k + 1))) := hid (by rw [HF.out, HSk.out, if_neg (by simp [h1]), Nat.sub_sub])
    have d1 : ((ty : Int) == 1) = false := by simp; omega
    clear h0 h1 hpo hpf
    go_wp2
    go_roundw
    case rel =>
     generalize hW : World.alloc _ _ = W1
     have hg5 := (blk1 hW).2
     exact ⟨k + 1, by omega, by go_num, HT1.out.grow hg5, HX1.out.grow hg5, HG2.out.trans hg5, HF2⟩
    case measure => simp [intOf]; omega
   have h1 : ty = 1 := by omega
   have d1 : ((ty : Int) == 1) = true := by simp; omega
   by_cases h2 : ¬ po ≤ off
   ·have HF2 : Hid (f 0 P = f (k + 1) (P - (k + 1))) := hid (by rw [HF.out, HSk.out, if_neg (by simp [h2]), Nat.sub_sub])
    have d2 : decide (po ≤ off) = false := decide_eq_false h2
    have d2' : decide ((po : Int) ≤ (off : Int)) = false := decide_eq_false (by omega)
    clear h0 h1 h2 hpo hpf
    go_wp2
    go_roundw
    case rel =>
     generalize hW : World.alloc _ _ = W1
     have hg5 := (blk1 hW).2
     exact ⟨k + 1, by omega, by go_num, HT1.out.grow hg5, HX1.out.grow hg5, HG2.out.trans hg5, HF2⟩
    case measure => simp [intOf]; omega
   have h2 : po ≤ off := by omega
   have d2 : decide (po ≤ off) = true := decide_eq_true h2
   have d2' : decide ((po : Int) ≤ (off : Int)) = true := decide_eq_true (by omega)
   have z1 : IntKind.u64.wrap ((off : Int) - (po : Int)) = ((off - po : Nat) : Int) := by rw [IntKind.wrap_u64]; omega
   have HWi := hid (fun W => within_any ((off - po : Nat) : Int) (size : Int) (fs : Int) W (by omega) (by omega) (by omega))
   have HE : Hid (wthn ((off - po : Nat) : Int) (size : Int) (fs : Int) = decide (off - po + size ≤ fs)) := hid (by unfold wthn; rw [Bool.eq_iff_iff, decide_eq_true_iff, decide_eq_true_iff]; omega)
   rw [HE.out] at HWi
   have HB : Hid ((decide (0 < size) && (decide (ty = 1) && (decide (po ≤ off) && decide (off - po + size ≤ fs)))) = decide (off - po + size ≤ fs)) := hid (by rw [decide_eq_true h1, d0, d2]; simp)
   rw [HB.out] at HSk
   clear h0 h1 h2 hpo hpf HB HE
   generalize decide (off - po + size ≤ fs) = hit at HWi HSk
   generalize off - po = D at z1 HWi HSo1
   go_wp2_with fail
   generalize hW : World.alloc _ _ = W1
   obtain ⟨b5, hg5⟩ := blk1 hW
   have HB5 := hid b5
   have HT2 := hid (HT1.out.grow hg5)
   have HX2 := hid (HX1.out.grow hg5)
   have HG3 : Hid (Grow w W1) := hid (HG2.out.trans hg5)
   clear hW b5 hg5 HT1 HX1 HG2 t0 t1 t2 t3 t4 t5 t6 t7
   refine (HWi.out _).mono ?_
   rintro e w2 ⟨rfl, rfl⟩
   cases hit with
   | false =>
    have HF2 : Hid (f 0 P = f (k + 1) (P - (k + 1))) := hid (by rw [HF.out, HSk.out, if_neg (by decide), Nat.sub_sub])
    go_wp2
    go_roundw
    case rel => exact ⟨k + 1, by omega, by go_num, HT2.out, HX2.out, HG3.out, HF2⟩
    case measure => simp [intOf]; omega
   | true =>
    have HE : Hid (F = ⟨(k : Int), D, size, []⟩) := hid (HSo1.out (by rw [HF.out, HSk.out, if_pos rfl]))
    have q2 := HB5.out.at 2
    go_wp2_with (refine wpList_store_row rfl 55 (.tmp 6) (.tmp 46) rfl g1 #[.int .i64 (k : Int), .int .u64 (D : Int), .int .u64 (size : Int), .slice none 0 0] rfl rfl _ _ HX2.out (by kernel_rfl) rfl (by simp [Value.oneCell']) ?_)
    refine bodyPost_ret (results_cell_row rfl _ _ g1 _ _ (0, 0) _ rfl (HX2.out.set _) Tryz.underlying55 rfl (by kernel_rfl)) rfl ?_
    exact ⟨none, 0, 0, by rw [HE.out]; rfl, by rw [HE.out]; exact OB.nil, Grow.set HG3.out HG1.out _⟩
  ·have hkP : k = P := by omega
   have HE : Hid (F = O) := hid (HN.out (by
    rw [HF.out, hkP, Nat.sub_self]
    exact HN0.out P))
   obtain ⟨t0, t1, t2, t3⟩ := HT1.out.c4
   clear hk hkP
   go_wp2_with fail
   clear t0 t1 t2 t3
   refine (HO.out _ HG2.out).mono ?_
   rintro e w2 ⟨A2, n2, c2, rfl, ho, hg⟩
   have HX2 := hid (HX1.out.grow hg)
   have HG3 : Hid (Grow w w2) := hid (HG2.out.trans hg)
   have HO2 : Hid (OB w2 w.heap.size 5 A2 n2 c2 O.own) := hid (ho.mono HG2.out.size)
   have HNe : Hid (own A2 ≠ some g1) := hid fun e => by
    have h1 := HX1.out.lt
    have h2 := (ho.from_ e).1
    omega
   clear ho hg HX1 HG2 HT1
   unfold plC
   go_wp2_with (refine wpList_store_row rfl 55 (.tmp 6) (.tmp 51) rfl g1 #[.int .i64 O.inn, .int .u64 (O.off : Int), .int .u64 (O.size : Int), .slice A2 n2 c2] rfl rfl _ _ HX2.out (by kernel_rfl) rfl (by simp [Value.oneCell']) ?_)
   refine bodyPost_ret (results_cell_row rfl _ _ g1 _ _ (0, 0) _ rfl (HX2.out.set _) Tryz.underlying55 rfl (by kernel_rfl)) rfl ?_
   exact ⟨A2, n2, c2, by rw [HE.out]; rfl, by rw [HE.out]; exact HO2.out.beside HNe.out _, Grow.set HG3.out HG1.out _⟩
set_option maxRecDepth 100000
set_option linter.unusedVariables false
def pgPl (l : List UInt8) (p : Pg) : Pl := if p.ty = 1 then ownPl l p.off p.fs else findPl l p.off p.fs
def scPl (l : List UInt8) (i : Nat) (s : Sc) : Pl := if s.ty = 0 ∨ s.ty = 8 then ownPl l 0 0 else if i + 1 = nI l then ownPl l s.off s.sz else findPl l s.off s.sz
theorem pl_store {w w1 w2 : World} {g : Nat} {A2 : Option Addr} {n2 c2 : Nat} {P : Pl} (hG : Grow w w1) (hx : Blk w1 g 55 #[.int .i64 0, .int .u64 0, .int .u64 0, .slice none 0 0]) (ho : OB w2 w1.heap.size 5 A2 n2 c2 P.own) (hg : Grow w1 w2) (hge : w.heap.size ≤ g) :
  Blk w2 g 55 #[.int .i64 0, .int .u64 0, .int .u64 0, .slice none 0 0] ∧ ∀ cs, OB (w2.setRow g cs) w.heap.size 5 A2 n2 c2 P.own ∧ Grow w (w2.setRow g cs) := by
 refine ⟨hx.grow hg, fun cs => ⟨(ho.mono hG.size).beside (fun e => ?_) cs, Grow.set (hG.trans hg) hge cs⟩⟩
 have h1 := hx.lt
 have h2 := (ho.from_ e).1
 omega
set_option maxHeartbeats 4000000 in
theorem progPlace_any (l : List UInt8) (A : Option Addr) (n c : Nat) (A1 : Option Addr) (c1 : Nat) (T2 T3 : Value) (p : Pg) (ok : p.Ok) (w : World) (hr : RB w w.heap.size A n c l) (hz : ZS w w.heap.size 8 A1 (nP l) c1 (pgR l (nP l)))
  (hin : inB n p.off p.fs = true) (hlen : n ≤ 65536) (hP : nP l ≤ 16) :
  Calls Tryz.prog 98 #[.agg #[.slice A n c, .slice A1 (nP l) c1, T2, T3], p.V] w (PlaceR (pgPl l p) w) := by
 have HO := hid (fun W (hg : Grow w W) => ownPlace_any l A n c (.slice A1 (nP l) c1) T2 T3 p.off p.fs W (hr.grow hg) hin hlen)
 have HF := hid (fun W (hg : Grow w W) => find_any l A n c A1 c1 T2 T3 p.off p.fs W (hr.grow hg) (hz.grow hg) hin hlen hP ok.off ok.fs)
 have HE : Hid (pgPl l p = if p.ty = 1 then ownPl l p.off p.fs else findPl l p.off p.fs) := hid rfl
 unfold PlaceR at HO HF ⊢
 generalize pgPl l p = F at *
 clear hr hz hin
 obtain ⟨ty, fl, off, va, pa, fs, ms, al⟩ := p
 unfold Pg.V Pg.C
 simp only [] at *
 generalize ownPl l off fs = O1 at *
 generalize findPl l off fs = O2 at *
 generalize nP l = P at *
 clear ok hlen hP
 by_cases h1 : ty = 1
 ·have HE2 : Hid (F = O1) := hid (by rw [HE.out, if_pos h1])
  have d1 : ((ty : Int) == 1) = true := by simp; omega
  clear h1 HE HF
  go_enter Tryz.func98, Tryz.ntmps98
  go_wp2_with fail
  generalize hW : World.alloc _ _ = W0
  obtain ⟨b0, b1, b2, hg0⟩ := blk3 hW
  clear hW b0 b1 d1
  refine (HO.out _ hg0).mono ?_
  rintro e w2 ⟨A2, n2, c2, rfl, ho, hg⟩
  obtain ⟨hx, hk⟩ := pl_store hg0 b2 ho hg (show w.heap.size ≤ w.heap.size + 1 + 1 by omega)
  have HX := hid hx
  have HK := hid hk
  clear ho hg hg0 b2 hx hk HO
  generalize w.heap.size + 1 + 1 = g at HX HK ⊢
  unfold plC
  go_wp2_with (refine wpList_store_row rfl 55 (.tmp 4) (.tmp 13) rfl g #[.int .i64 O1.inn, .int .u64 (O1.off : Int), .int .u64 (O1.size : Int), .slice A2 n2 c2] rfl rfl _ _ HX.out (by kernel_rfl) rfl (by simp [Value.oneCell']) ?_)
  refine bodyPost_ret (results_cell_row rfl _ _ g _ _ (0, 0) _ rfl (HX.out.set _) Tryz.underlying55 rfl (by kernel_rfl)) rfl ?_
  exact ⟨A2, n2, c2, by rw [HE2.out]; rfl, by rw [HE2.out]; exact (HK.out _).1, (HK.out _).2⟩
 ·have HE2 : Hid (F = O2) := hid (by rw [HE.out, if_neg h1])
  have d1 : ((ty : Int) == 1) = false := by simp; omega
  clear h1 HE HO
  go_enter Tryz.func98, Tryz.ntmps98
  go_wp2_with fail
  generalize hW : World.alloc _ _ = W0
  obtain ⟨b0, b1, b2, hg0⟩ := blk3 hW
  clear hW b0 b1 d1
  refine (HF.out _ hg0).mono ?_
  rintro e w2 ⟨A2, n2, c2, rfl, ho, hg⟩
  obtain ⟨hx, hk⟩ := pl_store hg0 b2 ho hg (show w.heap.size ≤ w.heap.size + 1 + 1 by omega)
  have HX := hid hx
  have HK := hid hk
  clear ho hg hg0 b2 hx hk HF
  generalize w.heap.size + 1 + 1 = g at HX HK ⊢
  unfold plC
  go_wp2_with (refine wpList_store_row rfl 55 (.tmp 4) (.tmp 19) rfl g #[.int .i64 O2.inn, .int .u64 (O2.off : Int), .int .u64 (O2.size : Int), .slice A2 n2 c2] rfl rfl _ _ HX.out (by kernel_rfl) rfl (by simp [Value.oneCell']) ?_)
  refine bodyPost_ret (results_cell_row rfl _ _ g _ _ (0, 0) _ rfl (HX.out.set _) Tryz.underlying55 rfl (by kernel_rfl)) rfl ?_
  exact ⟨A2, n2, c2, by rw [HE2.out]; rfl, by rw [HE2.out]; exact (HK.out _).1, (HK.out _).2⟩
set_option maxHeartbeats 4000000 in
theorem sectPlace_any (l : List UInt8) (A : Option Addr) (n c : Nat) (A1 : Option Addr) (c1 : Nat) (A2 : Option Addr) (c2 : Nat) (i : Nat) (w : World) (hr : RB w w.heap.size A n c l) (hz : ZS w w.heap.size 8 A1 (nP l) c1 (pgR l (nP l)))
  (hy : ZS w w.heap.size 10 A2 (nS l - 1) c2 (scR l (nS l - 1))) (hi : i < nS l - 1) (hin : inB n (scs l (i + 1)).off (scs l (i + 1)).held = true) (hlen : n ≤ 65536) (hP : nP l ≤ 16) (hS : nS l ≤ 65) (hI : nI l < 18446744073709551616) :
  Calls Tryz.prog 100 #[.agg #[.slice A n c, .slice A1 (nP l) c1, .slice A2 (nS l - 1) c2, .int .u64 (nI l : Nat)], .int .i64 (i : Int)] w (PlaceR (scPl l i (scs l (i + 1))) w) := by
 have ok : (scs l (i + 1)).Ok := scOf_ok _ _ _ _
 have HO0 := hid (fun W (hg : Grow w W) => ownPlace_any l A n c (.slice A1 (nP l) c1) (.slice A2 (nS l - 1) c2) (.int .u64 (nI l : Nat)) 0 0 W (hr.grow hg) (by unfold inB; simp) hlen)
 have HO : Hid (bare (scs l (i + 1)).ty = false → ∀ W, Grow w W → Calls Tryz.prog 135 #[.agg #[.slice A n c, .slice A1 (nP l) c1, .slice A2 (nS l - 1) c2, .int .u64 (nI l : Nat)], .int .u64 ((scs l (i + 1)).off : Nat), .int .u64 ((scs l (i + 1)).sz : Nat)] W (PlaceR (ownPl l (scs l (i + 1)).off (scs l (i + 1)).sz) W)) := hid fun hb W hg =>
  ownPlace_any l A n c _ _ _ _ _ W (hr.grow hg) (by unfold Sc.held at hin; rwa [if_neg (by unfold bare at hb; simpa using hb)] at hin) hlen
 have HF : Hid (bare (scs l (i + 1)).ty = false → ∀ W, Grow w W → Calls Tryz.prog 136 #[.agg #[.slice A n c, .slice A1 (nP l) c1, .slice A2 (nS l - 1) c2, .int .u64 (nI l : Nat)], .int .u64 ((scs l (i + 1)).off : Nat), .int .u64 ((scs l (i + 1)).sz : Nat)] W (PlaceR (findPl l (scs l (i + 1)).off (scs l (i + 1)).sz) W)) := hid fun hb W hg =>
  find_any l A n c A1 c1 _ _ _ _ W (hr.grow hg) (hz.grow hg) (by unfold Sc.held at hin; rwa [if_neg (by unfold bare at hb; simpa using hb)] at hin) hlen hP ok.off ok.sz
 have HE : Hid (scPl l i (scs l (i + 1)) = if (scs l (i + 1)).ty = 0 ∨ (scs l (i + 1)).ty = 8 then ownPl l 0 0 else if i + 1 = nI l then ownPl l (scs l (i + 1)).off (scs l (i + 1)).sz else findPl l (scs l (i + 1)).off (scs l (i + 1)).sz) := hid rfl
 obtain ⟨b, o, hAA, hb, hcell⟩ := hy.pos (by omega)
 have hiR : i < (scR l (nS l - 1)).length := by simpa [scR] using hi
 have hcell' := hcell i hiR
 rw [scR_at l (nS l - 1) i hi hiR] at hcell'
 have hyc := hy.cap
 have hym := hy.max
 unfold maxLen at hym
 subst hAA
 unfold PlaceR at HO0 HO HF ⊢
 generalize scPl l i (scs l (i + 1)) = F at *
 generalize ownPl l (scs l (i + 1)).off (scs l (i + 1)).sz = O1 at *
 generalize findPl l (scs l (i + 1)).off (scs l (i + 1)).sz = O2 at *
 generalize ownPl l 0 0 = O0 at *
 clear hr hz hy hin hlen hcell hiR ok
 generalize scs l (i + 1) = s at *
 obtain ⟨na, ty, fl, ad, off, sz, li, inf, al, en⟩ := s
 unfold Sc.C at hcell'
 simp only [] at *
 generalize nP l = P at *
 generalize nI l = I at *
 have hi16 : i < 65 := by omega
 generalize nS l - 1 = S at *
 clear hP hS
 have HT := hid (hasNo_any ty)
 have HB : Hid (bare ty = (decide (ty = 0) || decide (ty = 8))) := hid rfl
 have t0 : w.cell? ⟨b, o + i * 10, none⟩ = _ := hcell' 0 _ rfl
 have t1 := hcell' 1 _ rfl
 have t2 := hcell' 2 _ rfl
 have t3 := hcell' 3 _ rfl
 have t4 := hcell' 4 _ rfl
 have t5 := hcell' 5 _ rfl
 have t6 := hcell' 6 _ rfl
 have t7 := hcell' 7 _ rfl
 have t8 := hcell' 8 _ rfl
 have t9 := hcell' 9 _ rfl
 clear hcell'
 go_enter Tryz.func100, Tryz.ntmps100
 go_wp2_with fail
 generalize hW : World.alloc _ _ = W0
 obtain ⟨b0, b1, b2, hg0⟩ := blk3 hW
 have HB0 := hid b0
 have HB1 := hid b1
 have HB2 := hid b2
 have HG0 := hid hg0
 clear hW b0 b1 b2 hg0 t0 t1 t2 t3 t4 t5 t6 t7 t8 t9
 have HGe : Hid (w.heap.size ≤ w.heap.size + 1) := hid (by omega)
 generalize w.heap.size + 1 + 1 = g2 at HB2 ⊢
 generalize w.heap.size + 1 = g at HB1 HGe ⊢
 obtain ⟨g0, hg0⟩ : ∃ x, x = w.heap.size := ⟨_, rfl⟩
 rw [← hg0] at HB0 ⊢
 clear hg0
 refine (HT.out _).mono ?_
 rintro e wx ⟨rfl, rfl⟩
 obtain ⟨v0, v1, v2, v3⟩ := HB0.out.c4
 cases hba : bare ty with
 | true =>
  have HE2 : Hid (F = O0) := hid (by
   have h := HB.out
   rw [hba] at h
   rw [HE.out, if_pos (by simpa using h.symm)])
  go_wp2_with fail
  clear v0 v1 v2 v3
  refine (HO0.out _ HG0.out).mono ?_
  rintro e w2 ⟨A5, n5, c5, rfl, ho, hg⟩
  obtain ⟨hx, hk⟩ := pl_store HG0.out HB1.out ho hg HGe.out
  have HX := hid hx
  have HK := hid hk
  clear ho hg hx hk HB0 HB1 HB2 HG0
  unfold plC
  go_wp2_with (refine wpList_store_row rfl 55 (.tmp 4) (.tmp 16) rfl g #[.int .i64 O0.inn, .int .u64 (O0.off : Int), .int .u64 (O0.size : Int), .slice A5 n5 c5] rfl rfl _ _ HX.out (by kernel_rfl) rfl (by simp [Value.oneCell']) ?_)
  refine bodyPost_ret (results_cell_row rfl _ _ g _ _ (0, 0) _ rfl (HX.out.set _) Tryz.underlying55 rfl (by kernel_rfl)) rfl ?_
  exact ⟨A5, n5, c5, by rw [HE2.out]; rfl, by rw [HE2.out]; exact (HK.out _).1, (HK.out _).2⟩
 | false =>
  have hty : ¬ (ty = 0 ∨ ty = 8) := by
   have h := HB.out
   rw [hba] at h
   simpa using h.symm
  have z1 : IntKind.u64.wrap (i : Int) = (i : Int) := by rw [IntKind.wrap_u64]; omega
  have z2 : IntKind.u64.wrap ((i : Int) + 1) = (i : Int) + 1 := by rw [IntKind.wrap_u64]; omega
  have q4 := HB2.out.at 4
  have q5 := HB2.out.at 5
  by_cases h1 : i + 1 = I
  ·have HE2 : Hid (F = O1) := hid (by rw [HE.out, if_neg hty, if_pos h1])
   have d1 : (((i : Int) + 1) == (I : Int)) = true := by simp; omega
   clear h1 hty
   go_wp2_with fail
   clear v0 v1 v2 v3 q4 q5
   refine (HO.out hba _ HG0.out).mono ?_
   rintro e w2 ⟨A5, n5, c5, rfl, ho, hg⟩
   obtain ⟨hx, hk⟩ := pl_store HG0.out HB1.out ho hg HGe.out
   have HX := hid hx
   have HK := hid hk
   clear ho hg hx hk HB0 HB1 HB2 HG0
   unfold plC
   go_wp2_with (refine wpList_store_row rfl 55 (.tmp 4) (.tmp 29) rfl g #[.int .i64 O1.inn, .int .u64 (O1.off : Int), .int .u64 (O1.size : Int), .slice A5 n5 c5] rfl rfl _ _ HX.out (by kernel_rfl) rfl (by simp [Value.oneCell']) ?_)
   refine bodyPost_ret (results_cell_row rfl _ _ g _ _ (0, 0) _ rfl (HX.out.set _) Tryz.underlying55 rfl (by kernel_rfl)) rfl ?_
   exact ⟨A5, n5, c5, by rw [HE2.out]; rfl, by rw [HE2.out]; exact (HK.out _).1, (HK.out _).2⟩
  ·have HE2 : Hid (F = O2) := hid (by rw [HE.out, if_neg hty, if_neg h1])
   have d1 : (((i : Int) + 1) == (I : Int)) = false := by simp; omega
   clear h1 hty
   go_wp2_with fail
   clear v0 v1 v2 v3 q4 q5
   refine (HF.out hba _ HG0.out).mono ?_
   rintro e w2 ⟨A5, n5, c5, rfl, ho, hg⟩
   obtain ⟨hx, hk⟩ := pl_store HG0.out HB1.out ho hg HGe.out
   have HX := hid hx
   have HK := hid hk
   clear ho hg hx hk HB0 HB1 HB2 HG0
   unfold plC
   go_wp2_with (refine wpList_store_row rfl 55 (.tmp 4) (.tmp 35) rfl g #[.int .i64 O2.inn, .int .u64 (O2.off : Int), .int .u64 (O2.size : Int), .slice A5 n5 c5] rfl rfl _ _ HX.out (by kernel_rfl) rfl (by simp [Value.oneCell']) ?_)
   refine bodyPost_ret (results_cell_row rfl _ _ g _ _ (0, 0) _ rfl (HX.out.set _) Tryz.underlying55 rfl (by kernel_rfl)) rfl ?_
   exact ⟨A5, n5, c5, by rw [HE2.out]; rfl, by rw [HE2.out]; exact (HK.out _).1, (HK.out _).2⟩
set_option linter.unusedVariables false
structure MB (w W : World) (g0 g1 g2 g3 : Nat) (c0 c1 c2 : Array Value) (M : Value → Value → Array Value) (X1 X2 : Value) : Prop where
 t : Blk W g0 120 c0
 h : Blk W g1 110 c1
 z : Blk W g2 51 c2
 m : Blk W g3 51 (M X1 X2)
 g : Grow w W
structure MBA (w : World) (g0 g1 g2 g3 base : Nat) : Prop where
 b : base = g3 + 1
 a0 : g0 < base
 a1 : g1 < base
 a2 : g2 < base
 w2 : w.heap.size ≤ g2
 w3 : w.heap.size ≤ g3
 n0 : g0 ≠ g3
 n1 : g1 ≠ g3
 n2 : g2 ≠ g3
section
variable {w W W' : World} {g0 g1 g2 g3 base : Nat} {c0 c1 c2 : Array Value} {M : Value → Value → Array Value} {X1 X2 : Value}
theorem MB.grow (h : MB w W g0 g1 g2 g3 c0 c1 c2 M X1 X2) (hg : Grow W W') : MB w W' g0 g1 g2 g3 c0 c1 c2 M X1 X2 := ⟨h.t.grow hg, h.h.grow hg, h.z.grow hg, h.m.grow hg, h.g.trans hg⟩
theorem MB.by_ (h : MB w W g0 g1 g2 g3 c0 c1 c2 M X1 X2) (a : MBA w g0 g1 g2 g3 base) {row : Option Nat} (hg : W.grownBy W' row) (hr : ∀ k, row = some k → base ≤ k) : MB w W' g0 g1 g2 g3 c0 c1 c2 M X1 X2 :=
 have key : ∀ g, g < base → some g ≠ row := fun g hl e => by have := hr g e.symm; omega
 ⟨h.t.grownBy hg (key _ a.a0), h.h.grownBy hg (key _ a.a1), h.z.grownBy hg (key _ a.a2), h.m.grownBy hg (key _ (by have := a.b; omega)), h.g.trans' ((Below.refl _ W).grown hg h.g.size fun k hk => by have := hr k hk; have := a.b; have := a.w3; omega)⟩
theorem MB.set (h : MB w W g0 g1 g2 g3 c0 c1 c2 M X1 X2) (a : MBA w g0 g1 g2 g3 base) (Y1 Y2 : Value) : MB w (W.setRow g3 (M Y1 Y2)) g0 g1 g2 g3 c0 c1 c2 M Y1 Y2 :=
 ⟨h.t.other a.n0 _, h.h.other a.n1 _, h.z.other a.n2 _, h.m.set _, h.g.set a.w3 _⟩
theorem MB.base_le (h : MB w W g0 g1 g2 g3 c0 c1 c2 M X1 X2) (a : MBA w g0 g1 g2 g3 base) : base ≤ W.heap.size := by have := h.m.lt; have := a.b; omega
end
end Go.Proofs.YtfbimboemahhhaaGreatDoor
