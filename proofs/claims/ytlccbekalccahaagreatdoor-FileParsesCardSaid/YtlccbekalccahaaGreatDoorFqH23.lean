/-
  Several texts in one: The contracts of file; The contracts of (tables); The contract of the document's own Within (layer 1); The contracts of the document's own find and where.
-/
import Derived.Test.YtlccbekalccahaaGreatDoorFqH22
import Derived.Test.YtlccbekalccahaaGreatDoorFqH14
namespace Go.Proofs.YtlccbekalccahaaGreatDoor
open Go.Lib (hid)
open Go.RowKit
set_option maxRecDepth 100000
set_option linter.unusedVariables false
def PlaceR (p : Pl) (w : World) (e : Ending) (w' : World) : Prop := ∃ A n c, e = .returned (.agg (plC p (.slice A n c))) ∧ OB w' w.heap.size 5 A n c p.own ∧ Grow w w'
theorem OB.from_ {w : World} {base : Nat} {e : TypeId} {A : Option Addr} {n c : Nat} {l : List UInt8} (h : OB w base e A n c l) {g : Nat} (hg : own A = some g) : base ≤ g ∧ g < w.heap.size := by
 rcases h.2 with ⟨hv, _⟩ | ⟨g', cap, cur, hv, hb, hh, _⟩
 ·injection hv with e1 _ _
  subst e1
  cases hg
 ·injection hv with e1 _ _
  subst e1
  have e3 : g' = g := Option.some.inj hg
  subst e3
  refine ⟨hb, ?_⟩
  rcases Nat.lt_or_ge g' w.heap.size with h1 | h1
  ·exact h1
  ·rw [Array.getElem?_eq_none h1] at hh; cases hh
theorem OB.beside {w : World} {base : Nat} {e : TypeId} {A : Option Addr} {n c g : Nat} {l : List UInt8} (h : OB w base e A n c l) (hne : own A ≠ some g) (cs' : Array Value) : OB (w.setRow g cs') base e A n c l := by
 refine ⟨h.1, ?_⟩
 rcases h.2 with h0 | ⟨g', cap, cur, hv, hb, hh, r⟩
 ·exact .inl h0
 ·refine .inr ⟨g', cap, cur, hv, hb, ?_, r⟩
  have : g' ≠ g := fun he => hne (by injection hv with e1 _ _; subst e1; subst he; rfl)
  rw [setRow_other w g g' cs' (by exact this)]
  exact hh
set_option maxHeartbeats 1000000 in
theorem segOf_any (p : Pg) (q : Pl) (A : Option Addr) (n c : Nat) (w : World) :
  Calls Tryz.prog 72 #[p.V, .agg (plC q (.slice A n c))] w fun e w' => e = .returned (.agg (sgC ⟨p.ty, p.fl, p.va, p.pa, p.ms, p.al, q⟩ (.slice A n c))) ∧ Grow w w' := by
 obtain ⟨ty, fl, off, va, pa, fs, ms, al⟩ := p
 obtain ⟨i, o, z, b⟩ := q
 unfold Pg.V Pg.C plC sgC
 simp only []
 go_enter Tryz.func72, Tryz.ntmps72
 go_wp2_with (refine wpList_store_row rfl 56 (.tmp 4) (.tmp 18) rfl (w.heap.size + 1 + 1) #[.int .u32 (ty : Int), .int .u32 (fl : Int), .int .u64 (va : Int), .int .u64 (pa : Int), .int .u64 (ms : Int), .int .u64 (al : Int), .int .i64 i, .int .u64 (o : Int), .int .u64 (z : Int), .slice A n c] rfl rfl _ _ (blk3 rfl).2.2.1 (by kernel_rfl) rfl (by simp [Value.oneCell']) ?_)
 refine bodyPost_ret (results_cell_row rfl _ _ (w.heap.size + 1 + 1) _ _ (0, 0) _ rfl ((blk3 rfl).2.2.1.set _) Tryz.underlying56 rfl (by kernel_rfl)) rfl ?_
 exact ⟨rfl, Grow.set (blk3 rfl).2.2.2 (by omega) _⟩
set_option maxHeartbeats 1000000 in
theorem secOf_any (p : Sc) (q : Pl) (A : Option Addr) (n c : Nat) (w : World) :
  Calls Tryz.prog 74 #[p.V, .agg (plC q (.slice A n c))] w fun e w' => e = .returned (.agg (seC ⟨p.na, p.ty, p.fl, p.ad, p.sz, p.li, p.inf, p.al, p.en, q⟩ (.slice A n c))) ∧ Grow w w' := by
 obtain ⟨na, ty, fl, ad, off, sz, li, inf, al, en⟩ := p
 obtain ⟨i, o, z, b⟩ := q
 unfold Sc.V Sc.C plC seC
 simp only []
 go_enter Tryz.func74, Tryz.ntmps74
 go_wp2_with (refine wpList_store_row rfl 58 (.tmp 4) (.tmp 24) rfl (w.heap.size + 1 + 1) #[.int .u32 (na : Int), .int .u32 (ty : Int), .int .u64 (fl : Int), .int .u64 (ad : Int), .int .u64 (sz : Int), .int .u32 (li : Int), .int .u32 (inf : Int), .int .u64 (al : Int), .int .u64 (en : Int), .int .i64 i, .int .u64 (o : Int), .int .u64 (z : Int), .slice A n c] rfl rfl _ _ (blk3 rfl).2.2.1 (by kernel_rfl) rfl (by simp [Value.oneCell']) ?_)
 refine bodyPost_ret (results_cell_row rfl _ _ (w.heap.size + 1 + 1) _ _ (0, 0) _ rfl ((blk3 rfl).2.2.1.set _) Tryz.underlying58 rfl (by kernel_rfl)) rfl ?_
 exact ⟨rfl, Grow.set (blk3 rfl).2.2.2 (by omega) _⟩
set_option maxHeartbeats 1000000 in
theorem ownPlace_any (l : List UInt8) (A : Option Addr) (n c : Nat) (T1 T2 T3 : Value) (off size : Nat) (w : World) (hr : RB w w.heap.size A n c l) (hin : inB n off size = true) (hlen : n ≤ 65536) :
  Calls Tryz.prog 116 #[.agg #[.slice A n c, T1, T2, T3], .int .u64 (off : Int), .int .u64 (size : Int)] w (PlaceR (ownPl l off size) w) := by
 by_cases h0 : size = 0
 ·have E : Hid (ownPl l off size = ⟨-1, 0, 0, []⟩) := hid (by unfold ownPl; rw [if_pos h0])
  have d : ((size : Int) == 0) = true := by simp [h0]
  rw [E.out]
  clear h0 hr hin E
  unfold PlaceR plC
  go_enter Tryz.func116, Tryz.ntmps116
  go_wp2
  refine bodyPost_ret (results_cell_row rfl _ _ (w.heap.size + 1) _ _ (0, 0) _ rfl (blk2 rfl).2.1 Tryz.underlying54 rfl (by kernel_rfl)) rfl ?_
  exact ⟨none, 0, 0, rfl, OB.nil, (blk2 rfl).2.2⟩
 ·have hle := inB_le hin h0
  have E : Hid (ownPl l off size = ⟨-1, 0, size, (l.drop off).take size⟩) := hid (by unfold ownPl; rw [if_neg h0])
  have d : ((size : Int) == 0) = false := by simp [h0]
  rw [E.out]
  obtain ⟨b, o, rfl, hb, _⟩ := hr.pos (by omega)
  have hc := hr.cap
  have hcut : ∀ W : World, (Instr.slice 35 (.slice (some ⟨b, o, none⟩) n c) (some (.int .u64 (off : Int))) (some (.int .u64 ((off : Int) + (size : Int)))) none).run Tryz.prog W = .ok (.slice (some (cutA ⟨b, o, none⟩ c off)) size (c - off)) W := fun W => by
   have := run_cut_lh (P := Tryz.prog) 35 Tryz.underlying35 (fun W => by kernel_rfl) ⟨b, o, none⟩ n c .u64 .u64 off (off + size) (by omega) (by omega) W
   rw [show off + size - off = size by omega] at this
   rw [Int.natCast_add] at this
   exact this
  have HC := hid (fun W (hg : Grow w W) => clone_any (some (cutA ⟨b, o, none⟩ c off)) size (c - off) ((l.drop off).take size) w.heap.size W ((hr.cut hle).belowAt hg (Nat.le_refl _)) hg.size (by omega))
  have z1 : IntKind.u64.wrap ((off : Int) + (size : Int)) = (off : Int) + (size : Int) := by rw [IntKind.wrap_u64]; omega
  have HL : Hid (((l.drop off).take size).length = size) := hid (by rw [List.length_take, List.length_drop]; have := hr.len; omega)
  generalize (l.drop off).take size = bs at HC HL ⊢
  generalize cutA ⟨b, o, none⟩ c off = a at hcut HC
  clear h0 hin hlen hle hr E hc hb
  unfold PlaceR plC
  unfold NewB at HC
  rw [HL.out] at HC
  go_enter Tryz.func116, Tryz.ntmps116
  go_wp2_with fail
  clear hcut z1 d
  generalize hW : World.alloc _ _ = W0
  obtain ⟨b1, b2, hg⟩ := blk2 hW
  clear hW b1
  refine (HC.out _ hg).mono ?_
  rintro e w1 ⟨A2, c2, rfl, ho, hg2⟩
  have HO : Hid (OB w1 w.heap.size 5 A2 size c2 bs) := hid (ho.mono hg.size)
  have HB := hid (b2.grow hg2)
  have HG : Hid (Grow w w1) := hid (hg.trans hg2)
  have HS : Hid (own A2 ≠ some (w.heap.size + 1)) := hid fun e => by
   have h1 := b2.lt
   have h2 := (ho.from_ e).1
   omega
  clear ho b2 hg hg2
  have HGe : Hid (w.heap.size ≤ w.heap.size + 1) := hid (by omega)
  generalize w.heap.size + 1 = g at HB HS HGe ⊢
  go_wp2_with (refine wpList_store_row rfl 54 (.tmp 6) (.tmp 19) rfl g #[.int .i64 (-1), .int .u64 0, .int .u64 (size : Int), .slice A2 size c2] rfl rfl _ _ HB.out (by kernel_rfl) rfl (by simp [Value.oneCell']) ?_)
  refine bodyPost_ret (results_cell_row rfl _ _ g _ _ (0, 0) _ rfl (HB.out.set _) Tryz.underlying54 rfl (by kernel_rfl)) rfl ?_
  exact ⟨A2, size, c2, rfl, HO.out.beside HS.out _, Grow.set HG.out HGe.out _⟩
set_option maxRecDepth 100000
set_option linter.unusedVariables false
def fq (l : List UInt8) (off n i k : Nat) : Option Nat := if n = 0 then none else fstP l off n i k
theorem fq_step (l : List UInt8) (off n i k : Nat) : fq l off n i (k + 1) = if (decide (0 < n) && pHas l off n i) = true then some i else fq l off n (i + 1) k := by
 unfold fq
 by_cases h : n = 0
 ·rw [if_pos h, if_neg (by simp [h]), if_pos h]
 ·rw [if_neg h, fstP, if_neg h, show decide (0 < n) = true from decide_eq_true (by omega), Bool.true_and]
theorem fq_none {l : List UInt8} {off n : Nat} (h : fq l off n 0 (nP l) = none) : findPl l off n = ownPl l off n := by
 unfold fq at h
 unfold findPl
 by_cases h0 : n = 0
 ·rw [if_pos h0]
 ·rw [if_neg h0] at h ⊢
  rw [h]
theorem fq_some {l : List UInt8} {off n i : Nat} (h : fq l off n 0 (nP l) = some i) : findPl l off n = ⟨(i : Int), off - (pgs l i).off, n, []⟩ := by
 unfold fq at h
 unfold findPl
 by_cases h0 : n = 0
 ·rw [if_pos h0] at h
  cases h
 ·rw [if_neg h0] at h ⊢
  rw [h]
theorem pgR_at (l : List UInt8) (P k : Nat) (h : k < P) (h' : k < (pgR l P).length) : (pgR l P)[k] = (pgs l k).C := by simp [pgR]
theorem scR_at (l : List UInt8) (P k : Nat) (h : k < P) (h' : k < (scR l P).length) : (scR l P)[k] = (scs l (k + 1)).C := by simp [scR]
set_option maxHeartbeats 4000000 in
theorem find_any (l : List UInt8) (A : Option Addr) (n c : Nat) (A1 : Option Addr) (c1 : Nat) (T2 T3 : Value) (off size : Nat) (w : World) (hr : RB w w.heap.size A n c l) (hz : ZS w w.heap.size 8 A1 (nP l) c1 (pgR l (nP l)))
  (hin : inB n off size = true) (hlen : n ≤ 65536) (hP : nP l ≤ 16) (hoff : off < 18446744073709551616) (hsz : size < 18446744073709551616) :
  Calls Tryz.prog 117 #[.agg #[.slice A n c, .slice A1 (nP l) c1, T2, T3], .int .u64 (off : Int), .int .u64 (size : Int)] w (PlaceR (findPl l off size) w) := by
 have HO := hid (fun W (hg : Grow w W) => ownPlace_any l A n c (.slice A1 (nP l) c1) T2 T3 off size W (hr.grow hg) hin hlen)
 have HN : Hid (fq l off size 0 (nP l) = none → findPl l off size = ownPl l off size) := hid fq_none
 have HSo : Hid (∀ i, fq l off size 0 (nP l) = some i → findPl l off size = ⟨(i : Int), off - (pgs l i).off, size, []⟩) := hid fun i => fq_some
 have HSt := hid (fun i k => fq_step l off size i k)
 have HH : Hid (∀ k, pHas l off size k = (decide ((pgs l k).ty = 1) && (decide ((pgs l k).off ≤ off) && decide (off - (pgs l k).off + size ≤ (pgs l k).fs)))) := hid fun k => rfl
 have HK : Hid (∀ k, (pgs l k).Ok) := hid fun k => pgOf_ok _ _ _ _
 have HAt := hid (fun k h h' => pgR_at l (nP l) k h h')
 have HLn : Hid ((pgR l (nP l)).length = nP l) := hid (by simp [pgR])
 have HZ := hid hz
 have hzc := hz.cap
 have hzm := hz.max
 unfold maxLen at hzm
 have HN0 : Hid (∀ i, fq l off size i 0 = none) := hid fun i => by unfold fq; split <;> rfl
 unfold PlaceR at HO ⊢
 clear hr hz hin hlen
 generalize nP l = P at *
 generalize findPl l off size = F at *
 generalize ownPl l off size = O at *
 generalize fq l off size = f at *
 generalize pHas l off size = has at *
 generalize pgR l P = R at *
 generalize pgs l = pg at *
 go_enter Tryz.func117, Tryz.ntmps117
 go_wp2_with fail
 generalize hW : World.alloc _ _ = W0
 obtain ⟨b0, b1, hg⟩ := blk2 hW
 have HT := hid b0
 have HX := hid b1
 have HG := hid hg
 have HG1 : Hid (w.heap.size ≤ w.heap.size + 1) := hid (by omega)
 clear hW b0 b1 hg
 generalize w.heap.size + 1 = g1 at HX HG1 ⊢
 obtain ⟨g0, hg0⟩ : ∃ g, g = w.heap.size := ⟨_, rfl⟩
 rw [← hg0] at HT ⊢
 clear hg0
 go_loopw [12] (fun i wr => ∃ k : Nat, k ≤ P ∧ i = .int .i64 k ∧ Blk wr g0 92 #[.slice A n c, .slice A1 P c1, T2, T3] ∧ Blk wr g1 54 #[.int .i64 0, .int .u64 0, .int .u64 0, .slice none 0 0] ∧ Grow w wr ∧ Hid (f 0 P = f k (P - k))) (fun i _ => P - (intOf i).toNat)
 case atStart => exact ⟨0, by omega, rfl, HT.out, HX.out, HG.out, hid rfl⟩
 case round =>
  obtain ⟨k, hk, rfl, ht, hx, hg, HF⟩ := hrel
  have HT1 := hid ht
  have HX1 := hid hx
  have HG2 := hid hg
  clear ht hx hg HT HX HG
  by_cases hlt : k < P
  ·obtain ⟨b, o, hAA, hb, hcell⟩ := HZ.out.pos (by omega)
   subst hAA
   have hkR : k < R.length := by rw [HLn.out]; exact hlt
   have hcell' : ∀ i v, (pg k).C[i]? = some v → wr.cell? ⟨b, o + k * 8 + i, none⟩ = some v := fun i v hv => (Below.cell HG2.out hb).trans (hcell k hkR i v (by rw [HAt.out k hlt hkR]; exact hv))
   have hok := HK.out k
   have HSk := hid (HSt.out k (P - k - 1))
   rw [show P - k - 1 + 1 = P - k by omega, HH.out k] at HSk
   have HSo1 := hid (HSo.out k)
   have hpo := hok.off
   have hpf := hok.fs
   clear hkR hcell hok
   generalize pg k = p at hcell' HSk HSo1 hpo hpf
   obtain ⟨ty, fl, po, va, pa, fs, ms, al⟩ := p
   unfold Pg.C at hcell'
   simp only [] at hcell' HSk HSo1 hpo hpf
   have t0 : wr.cell? ⟨b, o + k * 8, none⟩ = _ := hcell' 0 _ rfl
   have t1 := hcell' 1 _ rfl
   have t2 := hcell' 2 _ rfl
   have t3 := hcell' 3 _ rfl
   have t4 := hcell' 4 _ rfl
   have t5 := hcell' 5 _ rfl
   have t6 := hcell' 6 _ rfl
   have t7 := hcell' 7 _ rfl
   clear hcell'
   by_cases h0 : size = 0
   ·have HF2 : Hid (f 0 P = f (k + 1) (P - (k + 1))) := hid (by rw [HF.out, HSk.out, if_neg (by simp [h0]), Nat.sub_sub])
    have d0 : decide (0 < size) = false := decide_eq_false (by omega)
    have d0' : decide ((0 : Int) < (size : Int)) = false := decide_eq_false (by omega)
    clear h0 hpo hpf
    go_wp2
    go_roundw
    case rel =>
     generalize hW : World.alloc _ _ = W1
     have hg5 := (blk1 hW).2
     exact ⟨k + 1, by omega, by go_num, HT1.out.grow hg5, HX1.out.grow hg5, HG2.out.trans hg5, HF2⟩
    case measure => simp [intOf]; omega
   have d0 : decide (0 < size) = true := decide_eq_true (by omega)
   have d0' : decide ((0 : Int) < (size : Int)) = true := decide_eq_true (by omega)
   by_cases h1 : ¬ ty = 1
   ·have HF2 : Hid (f 0 P = f (k + 1) (P - (k + 1))) := hid (by rw [HF.out, HSk.out, if_neg (by simp [h1]), Nat.sub_sub])
    have d1 : ((ty : Int) == 1) = false := by simp; omega
    clear h0 h1 hpo hpf
    go_wp2
    go_roundw
    case rel =>
     generalize hW : World.alloc _ _ = W1
     have hg5 := (blk1 hW).2
     exact ⟨k + 1, by omega, by go_num, HT1.out.grow hg5, HX1.out.grow hg5, HG2.out.trans hg5, HF2⟩
    case measure => simp [intOf]; omega
   have h1 : ty = 1 := by omega
   have d1 : ((ty : Int) == 1) = true := by simp; omega
   by_cases h2 : ¬ po ≤ off
   ·have HF2 : Hid (f 0 P = f (k + 1) (P - (k + 1))) := hid (by rw [HF.out, HSk.out, if_neg (by simp [h2]), Nat.sub_sub])
    have d2 : decide (po ≤ off) = false := decide_eq_false h2
    have d2' : decide ((po : Int) ≤ (off : Int)) = false := decide_eq_false (by omega)
    clear h0 h1 h2 hpo hpf
    go_wp2
    go_roundw
    case rel =>
     generalize hW : World.alloc _ _ = W1
     have hg5 := (blk1 hW).2
     exact ⟨k + 1, by omega, by go_num, HT1.out.grow hg5, HX1.out.grow hg5, HG2.out.trans hg5, HF2⟩
    case measure => simp [intOf]; omega
   have h2 : po ≤ off := by omega
   have d2 : decide (po ≤ off) = true := decide_eq_true h2
   have d2' : decide ((po : Int) ≤ (off : Int)) = true := decide_eq_true (by omega)
   have z1 : IntKind.u64.wrap ((off : Int) - (po : Int)) = ((off - po : Nat) : Int) := by rw [IntKind.wrap_u64]; omega
   have HWi := hid (fun W => within_any ((off - po : Nat) : Int) (size : Int) (fs : Int) W (by omega) (by omega) (by omega))
   have HE : Hid (wthn ((off - po : Nat) : Int) (size : Int) (fs : Int) = decide (off - po + size ≤ fs)) := hid (by unfold wthn; rw [Bool.eq_iff_iff, decide_eq_true_iff, decide_eq_true_iff]; omega)
   rw [HE.out] at HWi
   have HB : Hid ((decide (0 < size) && (decide (ty = 1) && (decide (po ≤ off) && decide (off - po + size ≤ fs)))) = decide (off - po + size ≤ fs)) := hid (by rw [decide_eq_true h1, d0, d2]; simp)
   rw [HB.out] at HSk
   clear h0 h1 h2 hpo hpf HB HE
   generalize decide (off - po + size ≤ fs) = hit at HWi HSk
   generalize off - po = D at z1 HWi HSo1
   go_wp2_with fail
   generalize hW : World.alloc _ _ = W1
   obtain ⟨b5, hg5⟩ := blk1 hW
   have HB5 := hid b5
   have HT2 := hid (HT1.out.grow hg5)
   have HX2 := hid (HX1.out.grow hg5)
   have HG3 : Hid (Grow w W1) := hid (HG2.out.trans hg5)
   clear hW b5 hg5 HT1 HX1 HG2 t0 t1 t2 t3 t4 t5 t6 t7
   refine (HWi.out _).mono ?_
   rintro e w2 ⟨rfl, rfl⟩
   cases hit with
   | false =>
    have HF2 : Hid (f 0 P = f (k + 1) (P - (k + 1))) := hid (by rw [HF.out, HSk.out, if_neg (by decide), Nat.sub_sub])
    go_wp2
    go_roundw
    case rel => exact ⟨k + 1, by omega, by go_num, HT2.out, HX2.out, HG3.out, HF2⟩
    case measure => simp [intOf]; omega
   | true =>
    have HE : Hid (F = ⟨(k : Int), D, size, []⟩) := hid (HSo1.out (by rw [HF.out, HSk.out, if_pos rfl]))
    have q2 := HB5.out.at 2
    go_wp2_with (refine wpList_store_row rfl 54 (.tmp 6) (.tmp 46) rfl g1 #[.int .i64 (k : Int), .int .u64 (D : Int), .int .u64 (size : Int), .slice none 0 0] rfl rfl _ _ HX2.out (by kernel_rfl) rfl (by simp [Value.oneCell']) ?_)
    refine bodyPost_ret (results_cell_row rfl _ _ g1 _ _ (0, 0) _ rfl (HX2.out.set _) Tryz.underlying54 rfl (by kernel_rfl)) rfl ?_
    exact ⟨none, 0, 0, by rw [HE.out]; rfl, by rw [HE.out]; exact OB.nil, Grow.set HG3.out HG1.out _⟩
  ·have hkP : k = P := by omega
   have HE : Hid (F = O) := hid (HN.out (by
    rw [HF.out, hkP, Nat.sub_self]
    exact HN0.out P))
   obtain ⟨t0, t1, t2, t3⟩ := HT1.out.c4
   clear hk hkP
   go_wp2_with fail
   clear t0 t1 t2 t3
   refine (HO.out _ HG2.out).mono ?_
   rintro e w2 ⟨A2, n2, c2, rfl, ho, hg⟩
   have HX2 := hid (HX1.out.grow hg)
   have HG3 : Hid (Grow w w2) := hid (HG2.out.trans hg)
   have HO2 : Hid (OB w2 w.heap.size 5 A2 n2 c2 O.own) := hid (ho.mono HG2.out.size)
   have HNe : Hid (own A2 ≠ some g1) := hid fun e => by
    have h1 := HX1.out.lt
    have h2 := (ho.from_ e).1
    omega
   clear ho hg HX1 HG2 HT1
   unfold plC
   go_wp2_with (refine wpList_store_row rfl 54 (.tmp 6) (.tmp 51) rfl g1 #[.int .i64 O.inn, .int .u64 (O.off : Int), .int .u64 (O.size : Int), .slice A2 n2 c2] rfl rfl _ _ HX2.out (by kernel_rfl) rfl (by simp [Value.oneCell']) ?_)
   refine bodyPost_ret (results_cell_row rfl _ _ g1 _ _ (0, 0) _ rfl (HX2.out.set _) Tryz.underlying54 rfl (by kernel_rfl)) rfl ?_
   exact ⟨A2, n2, c2, by rw [HE.out]; rfl, by rw [HE.out]; exact HO2.out.beside HNe.out _, Grow.set HG3.out HG1.out _⟩
theorem refWithin_any (a n s : Int) (w : World) (ha : 0 ≤ a) (hn : 0 ≤ n) (hs : s ≤ 18446744073709551615) :
  Calls Tryz.prog 33 #[.int .u64 a, .int .u64 n, .int .u64 s] w fun e w' => e = .returned (.bool (wthn a n s)) ∧ w = w' := by
 by_cases h1 : a ≤ s
 ·have hd : 0 ≤ s - a := by omega
  by_cases h2 : n ≤ s - a
  ·have E := hid (show wthn a n s = true from decide_eq_true (by omega))
   go_enter Tryz.func33, Tryz.ntmps33
   go_wp2
   go_ret
   exact ⟨ret_bool E.out.symm, rfl⟩
  ·have E := hid (show wthn a n s = false from decide_eq_false (by omega))
   have h2' : decide (n ≤ s - a) = false := decide_eq_false h2
   go_enter Tryz.func33, Tryz.ntmps33
   go_wp2
   go_ret
   exact ⟨ret_bool E.out.symm, rfl⟩
 ·have E := hid (show wthn a n s = false from decide_eq_false (by omega))
  have h1' : decide (a ≤ s) = false := decide_eq_false h1
  go_enter Tryz.func33, Tryz.ntmps33
  go_wp2
  go_ret
  exact ⟨ret_bool E.out.symm, rfl⟩
set_option maxRecDepth 100000
set_option linter.unusedVariables false
theorem where_any (wide big : Bool) (a b : Int) (w : World) :
  Calls Tryz.prog 32 #[.agg #[.bool wide, .bool big], .int .i64 a, .int .i64 b] w fun e w' => e = .returned (.int .i64 (if wide then b else a)) ∧ Grow w w' := by
 cases wide
 ·go_enter Tryz.func32, Tryz.ntmps32
  go_wp2
  go_ret
  exact ⟨rfl, Grow.of_alloc _ _⟩
 ·go_enter Tryz.func32, Tryz.ntmps32
  go_wp2
  go_ret
  exact ⟨rfl, Grow.of_alloc _ _⟩
theorem rFind_zero (A : Option Addr) (n c : Nat) (A1 : Option Addr) (n1 c1 off : Nat) (own : Bool) (w : World) :
  Calls Tryz.prog 35 #[.slice A n c, .slice A1 n1 c1, .int .u64 (off : Int), .int .u64 0, .bool own] w (PlaceR ⟨-1, 0, 0, []⟩ w) := by
 unfold PlaceR plC
 go_enter Tryz.func35, Tryz.ntmps35
 go_wp2
 refine bodyPost_ret (results_cell_row rfl _ _ w.heap.size _ _ (0, 0) _ rfl (blk1 rfl).1 Tryz.underlying54 rfl (by kernel_rfl)) rfl ?_
 exact ⟨none, 0, 0, rfl, OB.nil, (blk1 rfl).2⟩
set_option maxHeartbeats 4000000 in
theorem rFind_own (l : List UInt8) (A : Option Addr) (n c : Nat) (A1 : Option Addr) (n1 c1 : Nat) (off size : Nat) (w : World) (hr : RB w w.heap.size A n c l)
  (hin : inB n off size = true) (hlen : n ≤ 65536) (h0 : size ≠ 0) :
  Calls Tryz.prog 35 #[.slice A n c, .slice A1 n1 c1, .int .u64 (off : Int), .int .u64 (size : Int), .bool true] w (PlaceR (ownPl l off size) w) := by
 have hle := inB_le hin h0
 obtain ⟨cb, co, rfl, _, _⟩ := hr.pos (by omega)
 have hc := hr.cap
 have hcut0 : ∀ W : World, (Instr.slice 35 (.slice (some ⟨cb, co, none⟩) n c) (some (.int .i64 (off : Int))) (some (.int .i64 ((off : Int) + (size : Int)))) none).run Tryz.prog W = .ok (.slice (some (cutA ⟨cb, co, none⟩ c off)) size (c - off)) W := fun W => by
  have := run_cut_lh (P := Tryz.prog) 35 Tryz.underlying35 (fun W => by kernel_rfl) ⟨cb, co, none⟩ n c .i64 .i64 off (off + size) (by omega) (by omega) W
  rw [show off + size - off = size by omega] at this
  rw [Int.natCast_add] at this
  exact this
 have HRc := hid (hr.cut hle)
 have HCut := hid hcut0
 have HOw : Hid (ownPl l off size = ⟨-1, 0, size, (l.drop off).take size⟩) := hid (by unfold ownPl; rw [if_neg h0])
 generalize (l.drop off).take size = bs at HRc HOw
 generalize cutA ⟨cb, co, none⟩ c off = ca at HCut HRc
 generalize c - off = cc at HCut HRc
 generalize some (Addr.mk cb co none) = A at HCut ⊢
 clear hcut0 hc hr hin
 have d : ((size : Int) == 0) = false := by simp [h0]
 have HE : Hid (ownPl l off size = ⟨-1, 0, size, bs⟩) := HOw
 clear HOw
 generalize ownPl l off size = F at HE ⊢
 unfold PlaceR plC
 go_enter Tryz.func35, Tryz.ntmps35
 go_wp2_with fail
 generalize hW : World.alloc _ _ = W0
 obtain ⟨b0, hg⟩ := blk1 hW
 have HX := hid b0
 have HG := hid hg
 have HG1 : Hid (w.heap.size ≤ w.heap.size) := hid (Nat.le_refl _)
 clear hW b0 hg d
 obtain ⟨g0, hg0⟩ : ∃ g, g = w.heap.size := ⟨_, rfl⟩
 rw [← hg0] at HX ⊢
 replace HG1 : Hid (w.heap.size ≤ g0) := hid (Nat.le_of_eq hg0.symm)
 clear hg0
 go_loopw [11] (fun i wr => i = .int .i64 0 ∧ Blk wr g0 54 #[.int .i64 0, .int .u64 0, .int .u64 0, .slice none 0 0] ∧ Grow w wr) (fun i _ => 0)
 case atStart => exact ⟨rfl, HX.out, HG.out⟩
 case round =>
  obtain ⟨rfl, hx, hg⟩ := hrel
  have HX1 := hid hx
  have HG2 := hid hg
  clear hx hg HX HG
  have hcut := HCut.out
  by_cases hq : 0 < n1
  ·have q1 : decide ((0 : Int) < (n1 : Int)) = true := decide_eq_true (by omega)
   have q2 : decide (0 < n1) = true := decide_eq_true hq
   clear hq
   have e1 : IntKind.i64.wrap (off : Int) = (off : Int) := by rw [IntKind.wrap_i64]; omega
   have e2 : IntKind.u64.wrap ((off : Int) + (size : Int)) = (off : Int) + (size : Int) := by rw [IntKind.wrap_u64]; omega
   have e3 : IntKind.i64.wrap ((off : Int) + (size : Int)) = (off : Int) + (size : Int) := by rw [IntKind.wrap_i64]; omega
   have HCu := hid (HRc.out.belowAt ((HG2.out).trans (Grow.of_alloc wr (.cells #[] 5))) (Nat.le_refl _))
   have HCl := hid (OB.lit wr wr.heap.size 5 [] (Nat.zero_le _) (Nat.le_refl _))
   have hszm : 0 + size ≤ 140737488355328 := by omega
   clear hle
   go_wp2_with (at_builtin; refine wpList_appendB (wr.alloc (.cells #[] 5)) rfl (.tmp 67) (.tmp 75) 35 rfl wr.heap.size 5 Tryz.underlying35 (by kernel_rfl) (some ⟨wr.heap.size, 0, none⟩) 0 0 [] rfl HCl.out w.heap.size (some ca) size cc bs rfl HCu.out hszm (by simp) ?_; intro A9 c9 w9 ho9 hb9; refine Hid.out ?_)
   clear hcut e1 e2 e3
   rw [Nat.zero_add, List.nil_append] at ho9
   try rw [Nat.zero_add]
   have hg9 : Grow wr w9 := (Grow.of_alloc wr (.cells #[] 5)).trans' hb9
   have HX9 := hid (HX1.out.grow hg9)
   have HG9 : Hid (Grow w w9) := hid (HG2.out.trans hg9)
   have HO9 : Hid (OB w9 w.heap.size 5 A9 size c9 bs) := hid (ho9.mono HG2.out.size)
   have HNe : Hid (own A9 ≠ some g0) := hid fun e => by
    have h1 := HX1.out.lt
    have h2 := (ho9.from_ e).1
    omega
   clear hg9 ho9 hb9 HX1 HG2 HCu HCl
   refine hid ?_
   go_wp2_with (refine wpList_store_row rfl 54 (.tmp 10) (.tmp 77) rfl g0 #[.int .i64 (-1), .int .u64 0, .int .u64 (size : Int), .slice A9 size c9] rfl rfl _ _ HX9.out (by kernel_rfl) rfl (by simp [Value.oneCell']) ?_)
   refine bodyPost_ret (results_cell_row rfl _ _ g0 _ _ (0, 0) _ rfl (HX9.out.set _) Tryz.underlying54 rfl (by kernel_rfl)) rfl ?_
   exact ⟨A9, size, c9, by rw [HE.out]; rfl, by rw [HE.out]; exact HO9.out.beside HNe.out _, Grow.set HG9.out HG1.out _⟩
  ·have q1 : decide ((0 : Int) < (n1 : Int)) = false := decide_eq_false (by omega)
   have q2 : decide (0 < n1) = false := decide_eq_false hq
   clear hq
   have e1 : IntKind.i64.wrap (off : Int) = (off : Int) := by rw [IntKind.wrap_i64]; omega
   have e2 : IntKind.u64.wrap ((off : Int) + (size : Int)) = (off : Int) + (size : Int) := by rw [IntKind.wrap_u64]; omega
   have e3 : IntKind.i64.wrap ((off : Int) + (size : Int)) = (off : Int) + (size : Int) := by rw [IntKind.wrap_i64]; omega
   have HCu := hid (HRc.out.belowAt ((HG2.out).trans (Grow.of_alloc wr (.cells #[] 5))) (Nat.le_refl _))
   have HCl := hid (OB.lit wr wr.heap.size 5 [] (Nat.zero_le _) (Nat.le_refl _))
   have hszm : 0 + size ≤ 140737488355328 := by omega
   clear hle
   go_wp2_with (at_builtin; refine wpList_appendB (wr.alloc (.cells #[] 5)) rfl (.tmp 67) (.tmp 75) 35 rfl wr.heap.size 5 Tryz.underlying35 (by kernel_rfl) (some ⟨wr.heap.size, 0, none⟩) 0 0 [] rfl HCl.out w.heap.size (some ca) size cc bs rfl HCu.out hszm (by simp) ?_; intro A9 c9 w9 ho9 hb9; refine Hid.out ?_)
   clear hcut e1 e2 e3
   rw [Nat.zero_add, List.nil_append] at ho9
   try rw [Nat.zero_add]
   have hg9 : Grow wr w9 := (Grow.of_alloc wr (.cells #[] 5)).trans' hb9
   have HX9 := hid (HX1.out.grow hg9)
   have HG9 : Hid (Grow w w9) := hid (HG2.out.trans hg9)
   have HO9 : Hid (OB w9 w.heap.size 5 A9 size c9 bs) := hid (ho9.mono HG2.out.size)
   have HNe : Hid (own A9 ≠ some g0) := hid fun e => by
    have h1 := HX1.out.lt
    have h2 := (ho9.from_ e).1
    omega
   clear hg9 ho9 hb9 HX1 HG2 HCu HCl
   refine hid ?_
   go_wp2_with (refine wpList_store_row rfl 54 (.tmp 10) (.tmp 77) rfl g0 #[.int .i64 (-1), .int .u64 0, .int .u64 (size : Int), .slice A9 size c9] rfl rfl _ _ HX9.out (by kernel_rfl) rfl (by simp [Value.oneCell']) ?_)
   refine bodyPost_ret (results_cell_row rfl _ _ g0 _ _ (0, 0) _ rfl (HX9.out.set _) Tryz.underlying54 rfl (by kernel_rfl)) rfl ?_
   exact ⟨A9, size, c9, by rw [HE.out]; rfl, by rw [HE.out]; exact HO9.out.beside HNe.out _, Grow.set HG9.out HG1.out _⟩
set_option maxHeartbeats 8000000 in
theorem rFind_any (l : List UInt8) (A : Option Addr) (n c : Nat) (A1 : Option Addr) (c1 : Nat) (off size : Nat) (w : World) (hr : RB w w.heap.size A n c l) (hz : ZS w w.heap.size 8 A1 (nP l) c1 (pgR l (nP l)))
  (hin : inB n off size = true) (hlen : n ≤ 65536) (hP : nP l ≤ 16) (hoff : off < 18446744073709551616) (hsz : size < 18446744073709551616) (h0 : size ≠ 0) :
  Calls Tryz.prog 35 #[.slice A n c, .slice A1 (nP l) c1, .int .u64 (off : Int), .int .u64 (size : Int), .bool false] w (PlaceR (findPl l off size) w) := by
 have hle := inB_le hin h0
 obtain ⟨cb, co, rfl, _, _⟩ := hr.pos (by omega)
 have hc := hr.cap
 have hcut0 : ∀ W : World, (Instr.slice 35 (.slice (some ⟨cb, co, none⟩) n c) (some (.int .i64 (off : Int))) (some (.int .i64 ((off : Int) + (size : Int)))) none).run Tryz.prog W = .ok (.slice (some (cutA ⟨cb, co, none⟩ c off)) size (c - off)) W := fun W => by
  have := run_cut_lh (P := Tryz.prog) 35 Tryz.underlying35 (fun W => by kernel_rfl) ⟨cb, co, none⟩ n c .i64 .i64 off (off + size) (by omega) (by omega) W
  rw [show off + size - off = size by omega] at this
  rw [Int.natCast_add] at this
  exact this
 have HRc := hid (hr.cut hle)
 have HCut := hid hcut0
 have HOw : Hid (ownPl l off size = ⟨-1, 0, size, (l.drop off).take size⟩) := hid (by unfold ownPl; rw [if_neg h0])
 generalize (l.drop off).take size = bs at HRc HOw
 generalize cutA ⟨cb, co, none⟩ c off = ca at HCut HRc
 generalize c - off = cc at HCut HRc
 generalize some (Addr.mk cb co none) = A at HCut ⊢
 clear hcut0 hc hr hin
 have d : ((size : Int) == 0) = false := by simp [h0]
 have HN : Hid (fq l off size 0 (nP l) = none → findPl l off size = ownPl l off size) := hid fq_none
 have HSo : Hid (∀ i, fq l off size 0 (nP l) = some i → findPl l off size = ⟨(i : Int), off - (pgs l i).off, size, []⟩) := hid fun i => fq_some
 have HSt := hid (fun i k => fq_step l off size i k)
 have HH : Hid (∀ k, pHas l off size k = (decide ((pgs l k).ty = 1) && (decide ((pgs l k).off ≤ off) && decide (off - (pgs l k).off + size ≤ (pgs l k).fs)))) := hid fun k => rfl
 have HK : Hid (∀ k, (pgs l k).Ok) := hid fun k => pgOf_ok _ _ _ _
 have HAt := hid (fun k h h' => pgR_at l (nP l) k h h')
 have HLn : Hid ((pgR l (nP l)).length = nP l) := hid (by simp [pgR])
 have HZ := hid hz
 have hzc := hz.cap
 have hzm := hz.max
 unfold maxLen at hzm
 have HN0 : Hid (∀ i, fq l off size i 0 = none) := hid fun i => by unfold fq; split <;> rfl
 unfold PlaceR
 clear hz
 generalize nP l = P at *
 generalize findPl l off size = F at *
 generalize ownPl l off size = O at *
 generalize fq l off size = f at *
 generalize pHas l off size = has at *
 generalize pgR l P = R at *
 generalize pgs l = pg at *
 go_enter Tryz.func35, Tryz.ntmps35
 go_wp2_with fail
 generalize hW : World.alloc _ _ = W0
 obtain ⟨b0, hg⟩ := blk1 hW
 have HX := hid b0
 have HG := hid hg
 have HG1 : Hid (w.heap.size ≤ w.heap.size) := hid (Nat.le_refl _)
 clear hW b0 hg d
 obtain ⟨g0, hg0⟩ : ∃ g, g = w.heap.size := ⟨_, rfl⟩
 rw [← hg0] at HX ⊢
 replace HG1 : Hid (w.heap.size ≤ g0) := hid (Nat.le_of_eq hg0.symm)
 clear hg0
 go_loopw [11] (fun i wr => ∃ k : Nat, k ≤ P ∧ i = .int .i64 k ∧ Blk wr g0 54 #[.int .i64 0, .int .u64 0, .int .u64 0, .slice none 0 0] ∧ Grow w wr ∧ Hid (f 0 P = f k (P - k))) (fun i _ => P - (intOf i).toNat)
 case atStart => exact ⟨0, by omega, rfl, HX.out, HG.out, hid rfl⟩
 case round =>
  obtain ⟨k, hk, rfl, hx, hg, HF⟩ := hrel
  have HX1 := hid hx
  have HG2 := hid hg
  clear hx hg HX HG
  by_cases hlt : k < P
  ·obtain ⟨b, o, hAA, hb, hcell⟩ := HZ.out.pos (by omega)
   subst hAA
   have hkR : k < R.length := by rw [HLn.out]; exact hlt
   have hcell' : ∀ i v, (pg k).C[i]? = some v → wr.cell? ⟨b, o + k * 8 + i, none⟩ = some v := fun i v hv => (Below.cell HG2.out hb).trans (hcell k hkR i v (by rw [HAt.out k hlt hkR]; exact hv))
   have hok := HK.out k
   have HSk := hid (HSt.out k (P - k - 1))
   rw [show P - k - 1 + 1 = P - k by omega, HH.out k] at HSk
   have HSo1 := hid (HSo.out k)
   have hpo := hok.off
   have hpf := hok.fs
   clear hkR hcell hok
   generalize pg k = p at hcell' HSk HSo1 hpo hpf
   obtain ⟨ty, fl, po, va, pa, fs, ms, al⟩ := p
   unfold Pg.C at hcell'
   simp only [] at hcell' HSk HSo1 hpo hpf
   have t0 : wr.cell? ⟨b, o + k * 8, none⟩ = _ := hcell' 0 _ rfl
   have t2 := hcell' 2 _ rfl
   have t5 := hcell' 5 _ rfl
   clear hcell'
   have d0 : decide (0 < size) = true := decide_eq_true (by omega)
   have dk : decide ((k : Int) < (P : Int)) = true := decide_eq_true (by omega)
   by_cases h1 : ¬ ty = 1
   ·have HF2 : Hid (f 0 P = f (k + 1) (P - (k + 1))) := hid (by rw [HF.out, HSk.out, if_neg (by simp [h1]), Nat.sub_sub])
    have d1 : ((ty : Int) != 1) = true := by simp; omega
    clear h1 hpo hpf hle
    go_wp2
    go_roundw
    case rel => exact ⟨k + 1, by omega, by go_num, HX1.out, HG2.out, HF2⟩
    case measure => simp [intOf]; omega
   have h1 : ty = 1 := by omega
   have d1 : ((ty : Int) != 1) = false := by simp; omega
   by_cases h2 : ¬ po ≤ off
   ·have HF2 : Hid (f 0 P = f (k + 1) (P - (k + 1))) := hid (by rw [HF.out, HSk.out, if_neg (by simp [h2]), Nat.sub_sub])
    have d2 : decide ((off : Int) < (po : Int)) = true := decide_eq_true (by omega)
    have d2' : decide (off < po) = true := decide_eq_true (by omega)
    clear h1 h2 hpo hpf hle
    go_wp2
    go_roundw
    case rel => exact ⟨k + 1, by omega, by go_num, HX1.out, HG2.out, HF2⟩
    case measure => simp [intOf]; omega
   have h2 : po ≤ off := by omega
   have d2 : decide ((off : Int) < (po : Int)) = false := decide_eq_false (by omega)
   have d2' : decide (off < po) = false := decide_eq_false (by omega)
   have z1 : IntKind.u64.wrap ((off : Int) - (po : Int)) = ((off - po : Nat) : Int) := by rw [IntKind.wrap_u64]; omega
   have HWi := hid (fun W => refWithin_any ((off - po : Nat) : Int) (size : Int) (fs : Int) W (by omega) (by omega) (by omega))
   have HE : Hid (wthn ((off - po : Nat) : Int) (size : Int) (fs : Int) = decide (off - po + size ≤ fs)) := hid (by unfold wthn; rw [Bool.eq_iff_iff, decide_eq_true_iff, decide_eq_true_iff]; omega)
   rw [HE.out] at HWi
   have HB : Hid ((decide (0 < size) && (decide (ty = 1) && (decide (po ≤ off) && decide (off - po + size ≤ fs)))) = decide (off - po + size ≤ fs)) := hid (by rw [decide_eq_true h1, d0, decide_eq_true h2]; simp)
   rw [HB.out] at HSk
   have hlt1 := Nat.lt_of_lt_of_le hb HG2.out.size
   clear h1 h2 hpo hpf HB HE hle
   generalize decide (off - po + size ≤ fs) = hit at HWi HSk
   generalize off - po = D at z1 HWi HSo1
   go_wp2_with fail
   refine wp_region_chain [(0, true), (1, true), (2, true), (3, true), (4, true), (5, true), (6, true), (7, true), (8, true), (9, true), (10, true), (11, true), (12, true), (13, false), (14, true)] (by kernel_rfl) (by kernel_rfl) (by kernel_rfl) ?_
   have hgd : Grow wr wr.drew := Grow.of_drew wr
   have HX2 := hid (HX1.out.grow hgd)
   have HG3 : Hid (Grow w wr.drew) := hid (HG2.out.trans hgd)
   have s2 : ∀ W, Grow wr.drew W → W.cell? ⟨b, o + k * 8 + 2, none⟩ = some (.int .u64 (po : Int)) := fun W hW => (Below.cell (hgd.trans hW) hlt1).trans t2
   have s5 : ∀ W, Grow wr.drew W → W.cell? ⟨b, o + k * 8 + 5, none⟩ = some (.int .u64 (fs : Int)) := fun W hW => (Below.cell (hgd.trans hW) hlt1).trans t5
   clear hgd HX1 HG2 t0 t2 t5 d0 d1 d2 d2' dk hlt1
   generalize wr.drew = w2 at HX2 HG3 s2 s5 ⊢
   repeat ((first | (refine chain_take rfl (by rfl) ?_ (fun W hG => ?_) ?_; rotate_left; (go_simp; rfl)) | refine chain_skip rfl (by rfl) ?_); simp only [Act.put, List.setIfInBounds_toArray, List.set_cons_zero, List.set_cons_succ])
   refine chain_only rfl (by rfl) (fun K hK => ?_)
   go_simp
   refine (HWi.out _).mono ?_
   rintro e w3 ⟨rfl, rfl⟩
   refine hK _ _ (Grow.refl _) ?_
   clear hK K
   repeat ((first | (refine chain_take rfl (by rfl) ?_ (fun W hG => ?_) ?_; rotate_left; (go_simp; rfl)) | refine chain_skip rfl (by rfl) ?_); simp only [Act.put, List.setIfInBounds_toArray, List.set_cons_zero, List.set_cons_succ])
   refine chain_done ?_
   have t2 := s2 _ (Grow.refl _)
   clear s2 s5
   cases hit with
   | false =>
    have HF2 : Hid (f 0 P = f (k + 1) (P - (k + 1))) := hid (by rw [HF.out, HSk.out, if_neg (by decide), Nat.sub_sub])
    clear t2
    go_wp2
    go_roundw
    case rel => exact ⟨k + 1, by omega, by go_num, HX2.out, HG3.out, HF2⟩
    case measure => simp [intOf]; omega
   | true =>
    have HE : Hid (F = ⟨(k : Int), D, size, []⟩) := hid (HSo1.out (by rw [HF.out, HSk.out, if_pos rfl]))
    go_wp2_with (refine wpList_store_row rfl 54 (.tmp 10) (.tmp 65) rfl g0 #[.int .i64 (k : Int), .int .u64 (D : Int), .int .u64 (size : Int), .slice none 0 0] rfl rfl _ _ HX2.out (by kernel_rfl) rfl (by simp [Value.oneCell']) ?_)
    refine bodyPost_ret (results_cell_row rfl _ _ g0 _ _ (0, 0) _ rfl (HX2.out.set _) Tryz.underlying54 rfl (by kernel_rfl)) rfl ?_
    exact ⟨none, 0, 0, by rw [HE.out]; rfl, by rw [HE.out]; exact OB.nil, Grow.set HG3.out HG1.out _⟩
  ·have hkP : k = P := by omega
   have HE : Hid (F = ⟨-1, 0, size, bs⟩) := hid ((HN.out (by
    rw [HF.out, hkP, Nat.sub_self]
    exact HN0.out P)).trans HOw.out)
   have dk : decide ((k : Int) < (P : Int)) = false := decide_eq_false (by omega)
   clear hk hkP
   have hcut := HCut.out
   have e1 : IntKind.i64.wrap (off : Int) = (off : Int) := by rw [IntKind.wrap_i64]; omega
   have e2 : IntKind.u64.wrap ((off : Int) + (size : Int)) = (off : Int) + (size : Int) := by rw [IntKind.wrap_u64]; omega
   have e3 : IntKind.i64.wrap ((off : Int) + (size : Int)) = (off : Int) + (size : Int) := by rw [IntKind.wrap_i64]; omega
   have HCu := hid (HRc.out.belowAt ((HG2.out).trans (Grow.of_alloc wr (.cells #[] 5))) (Nat.le_refl _))
   have HCl := hid (OB.lit wr wr.heap.size 5 [] (Nat.zero_le _) (Nat.le_refl _))
   have hszm : 0 + size ≤ 140737488355328 := by omega
   clear hle
   go_wp2_with (at_builtin; refine wpList_appendB (wr.alloc (.cells #[] 5)) rfl (.tmp 67) (.tmp 75) 35 rfl wr.heap.size 5 Tryz.underlying35 (by kernel_rfl) (some ⟨wr.heap.size, 0, none⟩) 0 0 [] rfl HCl.out w.heap.size (some ca) size cc bs rfl HCu.out hszm (by simp) ?_; intro A9 c9 w9 ho9 hb9; refine Hid.out ?_)
   clear hcut e1 e2 e3
   rw [Nat.zero_add, List.nil_append] at ho9
   try rw [Nat.zero_add]
   have hg9 : Grow wr w9 := (Grow.of_alloc wr (.cells #[] 5)).trans' hb9
   have HX9 := hid (HX1.out.grow hg9)
   have HG9 : Hid (Grow w w9) := hid (HG2.out.trans hg9)
   have HO9 : Hid (OB w9 w.heap.size 5 A9 size c9 bs) := hid (ho9.mono HG2.out.size)
   have HNe : Hid (own A9 ≠ some g0) := hid fun e => by
    have h1 := HX1.out.lt
    have h2 := (ho9.from_ e).1
    omega
   clear hg9 ho9 hb9 HX1 HG2 HCu HCl
   refine hid ?_
   go_wp2_with (refine wpList_store_row rfl 54 (.tmp 10) (.tmp 77) rfl g0 #[.int .i64 (-1), .int .u64 0, .int .u64 (size : Int), .slice A9 size c9] rfl rfl _ _ HX9.out (by kernel_rfl) rfl (by simp [Value.oneCell']) ?_)
   refine bodyPost_ret (results_cell_row rfl _ _ g0 _ _ (0, 0) _ rfl (HX9.out.set _) Tryz.underlying54 rfl (by kernel_rfl)) rfl ?_
   exact ⟨A9, size, c9, by rw [HE.out]; rfl, by rw [HE.out]; exact HO9.out.beside HNe.out _, Grow.set HG9.out HG1.out _⟩
end Go.Proofs.YtlccbekalccahaaGreatDoor
