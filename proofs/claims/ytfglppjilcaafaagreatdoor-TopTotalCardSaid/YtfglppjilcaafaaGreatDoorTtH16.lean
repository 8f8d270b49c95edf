/-
  Several texts in one: Slices of slices of bytes, of no bytes too, wherever they begin (at the end of their room too); The contracts of image; The contract of image.
-/
import Derived.Test.YtfglppjilcaafaaGreatDoorTtH2
import Derived.Test.YtfglppjilcaafaaGreatDoorTtH14
import Derived.Test.YtfglppjilcaafaaGreatDoorTtH15
import Derived.Laws.ResultCell
namespace Go.Proofs.YtfglppjilcaafaaGreatDoor
open Go.Lib (hid)
open Go.RowKit
def cutA (a : Addr) (c p : Nat) : Addr := if c = p then a else a.add p
theorem cutA_zero (a : Addr) (c : Nat) : cutA a c 0 = a := by unfold cutA Addr.add; split <;> simp
section
variable {w : World} {B n c : Nat} {a : Addr} {l : List UInt8}
theorem RB.cut (h : RB w B (some a) n c l) {p m : Nat} (hp : p + m ≤ n) : RB w B (some (cutA a c p)) m (c - p) ((l.drop p).take m) := by
 have hl := h.len
 have hcap := h.cap
 have hmax := h.max
 by_cases h0 : 0 < m
 ·obtain ⟨b, off, e, -, -⟩ := h.pos (by omega)
  injection e with e
  subst e
  have := h.sub hp h0
  have e2 : cutA ⟨b, off, none⟩ c p = ⟨b, off + p, none⟩ := by
   unfold cutA Addr.add
   rw [if_neg (by omega)]
   split <;> simp_all
  rw [e2]
  exact this
 ·have : m = 0 := by omega
  subst this
  exact ⟨by simp, by omega, by omega, fun h => absurd h (by omega)⟩
end
theorem run_cut_lh {P : Program} (t : TypeId) (ht : P.underlying t = some (.slice (P.elem t))) (hz : ∀ W, (sizeOf (P.elem t)).run P W = .ok 1 W) (a : Addr) (n c : Nat) (kl kh : IntKind) (p q : Nat) (hpq : p ≤ q) (hq : q ≤ c) (W : World) :
  (Instr.slice t (.slice (some a) n c) (some (.int kl (p : Int))) (some (.int kh (q : Int))) none).run P W = .ok (.slice (some (cutA a c p)) (q - p) (c - p)) W := by
 rw [run_slice_lh W t (some a) n c ht kl kh p q (by omega) (by omega) (by omega), hz]
 simp only [Result.andThen, sliced, Int.toNat_natCast, Nat.mul_one, Option.map_some]
 unfold cutA
 split <;> rfl
theorem run_cut_h {P : Program} (t : TypeId) (ht : P.underlying t = some (.slice (P.elem t))) (hz : ∀ W, (sizeOf (P.elem t)).run P W = .ok 1 W) (a : Addr) (n c : Nat) (kh : IntKind) (q : Nat) (hq : q ≤ c) (W : World) :
  (Instr.slice t (.slice (some a) n c) none (some (.int kh (q : Int))) none).run P W = .ok (.slice (some a) q c) W := by
 rw [run_slice_h W t (some a) n c ht kh q (by omega) (by omega), hz]
 simp only [Result.andThen, sliced, Int.toNat_natCast, Nat.zero_mul, Option.map_some, Nat.sub_zero]
 have : a.add 0 = a := by unfold Addr.add; simp
 rw [this]
 split <;> rfl
theorem run_cut_l {P : Program} (t : TypeId) (ht : P.underlying t = some (.slice (P.elem t))) (hz : ∀ W, (sizeOf (P.elem t)).run P W = .ok 1 W) (a : Addr) (n c : Nat) (kl : IntKind) (p : Nat) (hp : p ≤ n) (W : World) :
  (Instr.slice t (.slice (some a) n c) (some (.int kl (p : Int))) none none).run P W = .ok (.slice (some (cutA a c p)) (n - p) (c - p)) W := by
 rw [run_slice_l W t (some a) n c ht kl p (by omega) (by omega), hz]
 simp only [Result.andThen, sliced, Int.toNat_natCast, Nat.mul_one, Option.map_some]
 unfold cutA
 split <;> rfl
set_option maxRecDepth 100000
set_option linter.unusedVariables false
theorem inB_eq (n off fs : Nat) : inB n off fs = (decide (fs = 0) || (decide (off ≤ n) && decide (fs ≤ n - off))) := by
 unfold inB
 by_cases h0 : fs = 0
 ·simp [h0]
 ·by_cases h1 : off ≤ n
  ·simp only [decide_eq_false h0, decide_eq_true h1, Bool.false_or, Bool.true_and]
   exact decide_eq_decide.2 ⟨fun h => by omega, fun h => by omega⟩
  ·simp only [decide_eq_false h0, decide_eq_false h1, Bool.false_or, Bool.false_and]
   exact decide_eq_false (by omega)
set_option maxHeartbeats 2000000 in
theorem imWithin_any (p : Pg) (A : Option Addr) (n c : Nat) (w : World) (hn : n ≤ maxLen) :
  Calls Tryz.prog 95 #[.slice A n c, p.V] w fun e w' => e = .returned (.bool (inB n p.off p.fs)) ∧ Grow w w' := by
 rw [inB_eq]
 unfold maxLen at hn
 unfold Pg.V Pg.C
 generalize p.ty = ty
 generalize p.fl = fl
 generalize p.off = off
 generalize p.va = va
 generalize p.pa = pa
 generalize p.fs = fs
 generalize p.ms = ms
 generalize p.al = al
 have z1 : IntKind.u64.wrap (n : Int) = (n : Int) := by rw [IntKind.wrap_u64]; omega
 by_cases h0 : fs = 0
 ·have d0 : ((fs : Int) == 0) = true := by simp [h0]
  have e : (decide (fs = 0) || (decide (off ≤ n) && decide (fs ≤ n - off))) = true := by simp [h0]
  rw [e]
  clear e h0
  go_enter Tryz.func95, Tryz.ntmps95
  go_wp2
  go_ret
  exact ⟨rfl, Grow.of_alloc _ _⟩
 ·have d0 : ((fs : Int) == 0) = false := by simp; omega
  by_cases h1 : off ≤ n
  ·have d1 : decide ((off : Int) ≤ (n : Int)) = true := decide_eq_true (by omega)
   have z2 : IntKind.u64.wrap ((n : Int) - (off : Int)) = ((n - off : Nat) : Int) := by rw [IntKind.wrap_u64]; omega
   have e : (decide (fs = 0) || (decide (off ≤ n) && decide (fs ≤ n - off))) = decide (fs ≤ n - off) := by
    rw [decide_eq_false h0, decide_eq_true h1, Bool.false_or, Bool.true_and]
   rw [e]
   clear e h0
   go_enter Tryz.func95, Tryz.ntmps95
   go_wp2
   go_ret
   exact ⟨rfl, Grow.of_alloc _ _⟩
  ·have d1 : decide ((off : Int) ≤ (n : Int)) = false := decide_eq_false (by omega)
   have e : (decide (fs = 0) || (decide (off ≤ n) && decide (fs ≤ n - off))) = false := by simp [h0, h1]
   rw [e]
   clear e h0
   go_enter Tryz.func95, Tryz.ntmps95
   go_wp2
   go_ret
   exact ⟨rfl, Grow.of_alloc _ _⟩
set_option maxHeartbeats 2000000 in
theorem bytesOf_any (l : List UInt8) (p : Pg) (A : Option Addr) (n c : Nat) (w : World) (h : RB w w.heap.size A n c l) (hi : inB n p.off p.fs = true) (hn : n ≤ 140737488355328) :
  Calls Tryz.prog 96 #[.slice A n c, p.V] w (NewB ((l.drop p.off).take p.fs) w) := by
 have hlen := h.len
 have hcap := h.cap
 have hmax := h.max
 unfold maxLen at hmax
 rw [inB_eq] at hi
 unfold Pg.V Pg.C
 generalize p.ty = ty
 generalize p.fl = fl
 generalize p.off = off at *
 generalize p.va = va
 generalize p.pa = pa
 generalize p.fs = fs at *
 generalize p.ms = ms
 generalize p.al = al
 by_cases h0 : fs = 0
 ·have d0 : ((fs : Int) == 0) = true := by simp [h0]
  have e : (l.drop off).take fs = [] := by rw [h0]; rfl
  rw [e]
  clear e h0 hi h hlen hcap hmax
  go_enter Tryz.func96, Tryz.ntmps96
  go_wp2
  go_ret
  exact NewB.nil _ _ (Grow.of_alloc _ _)
 ·have d0 : ((fs : Int) == 0) = false := by simp; omega
  have hio : off + fs ≤ n := by
   simp [h0] at hi
   omega
  obtain ⟨b, o, rfl, hb, -⟩ := h.pos (by omega)
  have s1 := run_cut_l (P := Tryz.prog) 33 Tryz.underlying33 (fun W => by kernel_rfl) ⟨b, o, none⟩ n c .u64 off (by omega)
  have s2 := run_cut_h (P := Tryz.prog) 33 Tryz.underlying33 (fun W => by kernel_rfl) (cutA ⟨b, o, none⟩ c off) (n - off) (c - off) .u64 fs (by omega)
  have HC := hid (fun W (hW : Grow w W) => clone_any (some (cutA ⟨b, o, none⟩ c off)) fs (c - off) ((l.drop off).take fs) w.heap.size W ((h.cut hio).belowAt hW (Nat.le_refl _)) hW.size (by omega))
  unfold NewB at HC ⊢
  have hLl : ((l.drop off).take fs).length = fs := by rw [List.length_take, List.length_drop]; omega
  rw [hLl] at HC ⊢
  clear h0 hi h hLl hio hlen
  generalize (l.drop off).take fs = bs at HC ⊢
  go_enter Tryz.func96, Tryz.ntmps96
  go_wp2_with fail
  generalize hW : World.alloc _ _ = W5
  obtain ⟨b5, hg⟩ := blk1 hW
  clear hW
  have HX := hid b5.drew
  have HG := hid (hg.trans (Grow.of_drew W5))
  clear b5 hg
  refine wp_region_chain [(0, true), (1, true), (2, true), (3, true), (4, true), (5, true), (6, true), (7, false), (8, true)] (by kernel_rfl) (by kernel_rfl) (by kernel_rfl) ?_
  generalize W5.drew = v0 at HX HG ⊢
  have q2 : ∀ W, Grow v0 W → W.cell? ⟨w.heap.size, 2, none⟩ = some (.int .u64 (off : Nat)) := fun W hW => (HX.out.grow hW).at 2
  have q5 : ∀ W, Grow v0 W → W.cell? ⟨w.heap.size, 5, none⟩ = some (.int .u64 (fs : Nat)) := fun W hW => (HX.out.grow hW).at 5
  repeat ((first | (refine chain_take rfl (by rfl) ?_ (fun W hG => ?_) ?_; rotate_left; (go_simp; rfl)) | refine chain_skip rfl (by rfl) ?_); simp only [Act.put, List.setIfInBounds_toArray, List.set_cons_zero, List.set_cons_succ])
  clear q2 q5 s1 s2
  refine chain_only rfl (by rfl) (fun K hK => ?_)
  go_simp
  refine (HC.out _ HG.out).mono ?_
  rintro e v1 ⟨A2, c2, rfl, ho, hg⟩
  refine hK _ _ hg ?_
  clear hK K
  have HO := hid (ho.mono HG.out.size)
  have HG1 : Hid (Grow w v1) := hid (HG.out.trans hg)
  clear ho hg
  repeat ((first | (refine chain_take rfl (by rfl) ?_ (fun W hG => ?_) ?_; rotate_left; (go_simp; rfl)) | refine chain_skip rfl (by rfl) ?_); simp only [Act.put, List.setIfInBounds_toArray, List.set_cons_zero, List.set_cons_succ])
  refine chain_done ?_
  go_wp2
  go_ret
  exact ⟨A2, c2, rfl, HO.out, HG1.out⟩
set_option maxRecDepth 100000
set_option linter.unusedVariables false
def OwnIn (l : List UInt8) (P : Nat) : Prop := ∀ i, i < P → (pgs l i).ty = 1 → inB l.length (pgs l i).off (pgs l i).fs = true
def LdR (l : List UInt8) (P en : Nat) (w : World) (e : Ending) (w' : World) : Prop :=
 (OwnIn l P ∧ ∃ A c, e = .returned (.tuple #[.agg (imC en (.slice A (fImg l P).length c)), .nilIface]) ∧ GR rgK w' w.heap.size 107 A (fImg l P).length c (fImg l P) ∧ Grow w w') ∨
 (¬ OwnIn l P ∧ e = .returned (.tuple #[.agg (imC 0 (.slice none 0 0)), .iface 81 (.int .i64 4)]) ∧ Grow w w')
theorem ld_ret {K : Ending → World → Prop} {W : World} {tmps : Array Value} {g : Nat} {ev a b : Value} (ht : tmps.getD 6 undef = .pointer (some ⟨g, 0, none⟩)) (he : tmps.getD 7 undef = ev)
  (hx : Blk W g 52 #[a, b]) (hk : K (.returned (.tuple #[.agg #[a, b], ev])) W) : bodyPost Tryz.prog Tryz.f41 K .ret ⟨tmps, []⟩ W := by
 refine bodyPost_ret (v := .tuple #[.agg #[a, b], ev]) ?_ rfl hk
 rw [results_cell_tmp rfl, ht, he]
 simp [asAddr, Result.andThen, hx.var _ _ Tryz.underlying52 rfl (by kernel_rfl)]
set_option maxHeartbeats 8000000 in
theorem imLoaded_any (l : List UInt8) (A : Option Addr) (n c en : Nat) (A1 : Option Addr) (P c1 : Nat) (w : World) (hr : RB w w.heap.size A n c l) (hz : ZS w w.heap.size 8 A1 P c1 (pgR l P)) (hP : P ≤ 65536) (hn : n ≤ 140737488355328) :
  Calls Tryz.prog 41 #[.slice A n c, .int .u64 en, .slice A1 P c1] w (LdR l P en w) := by
 have hlen := hr.len
 have hnm : n ≤ maxLen := Nat.le_trans hr.cap hr.max
 have hc := hz.cap
 have hm := hz.max
 unfold maxLen at hm
 have H1 := hid hz
 have HIn := hid (fun p W => imWithin_any p A n c W hnm)
 have HBy := hid (fun p W (hW : Grow w W) hi => bytesOf_any l p A n c W (hr.grow hW) hi hn)
 have HAt := hid (fun k (hk : k < P) h' => pgR_at l P k hk h')
 have HLn : Hid ((pgR l P).length = P) := hid (by simp [pgR])
 have HSu := hid (fun k => fImg_succ l k)
 have HLe := hid (fun k => fImg_le l k)
 have H0 : Hid (fImg l 0 = []) := hid rfl
 have HN := hid hP
 have HOw : Hid (OwnIn l P ↔ ∀ i, i < P → (pgs l i).ty = 1 → inB n (pgs l i).off (pgs l i).fs = true) := hid (by rw [hlen]; rfl)
 have HRg : Hid (∀ p : Pg, pgRg l p = ⟨p.va, p.ms, p.fl, (l.drop p.off).take p.fs⟩) := hid fun _ => rfl
 unfold LdR imC
 clear hr hlen hnm hz hn hP
 generalize OwnIn l P = OI at *
 generalize pgR l P = PR at *
 generalize fImg l = FI at *
 generalize pgRg l = RG at *
 generalize pgs l = pgF at *
 go_enter Tryz.func41, Tryz.ntmps41
 go_wp2_with fail
 generalize hW : World.alloc _ _ = W0
 obtain ⟨b1, hg0⟩ := blk1 hW
 clear hW
 have HZ := hid b1
 have HG := hid hg0
 clear b1 hg0
 obtain ⟨g2, hg2⟩ : ∃ g, g = w.heap.size := ⟨_, rfl⟩
 rw [← hg2] at HZ ⊢
 have HG2 : Hid (w.heap.size ≤ g2) := hid (by omega)
 clear hg2
 go_loopw [15] (fun i wr => ∃ k : Nat, k ≤ P ∧ i = .int .i64 k ∧ Hid (∀ j, j < k → (pgF j).ty = 1 → inB n (pgF j).off (pgF j).fs = true) ∧ Blk wr g2 52 #[.int .u64 0, .slice none 0 0] ∧ Grow w wr) (fun i _ => P - (intOf i).toNat)
 case atStart => exact ⟨0, Nat.zero_le _, rfl, hid fun j hj => by omega, HZ.out, HG.out⟩
 case round =>
  obtain ⟨k, hk, rfl, HJ, hz, hg⟩ := hrel
  have HZa := hid hz
  have HGa := hid hg
  clear hz hg HZ HG
  by_cases hlt : k < P
  ·have hkl : k < PR.length := by rw [HLn.out]; exact hlt
   obtain ⟨b, off0, hAA, hb, hcell⟩ := H1.out.pos (by omega)
   subst hAA
   have p' : ∀ i v, (pgF k).C[i]? = some v → wr.cell? ⟨b, off0 + k * 8 + i, none⟩ = some v := fun i v hv => (Below.cell HGa.out hb).trans (hcell k hkl i v (by rw [HAt.out k hlt hkl]; exact hv))
   have HIk := hid (fun W => HIn.out (pgF k) W)
   have HJk : Hid (∀ q, q = pgF k → (q.ty = 1 → inB n q.off q.fs = true) → ∀ j, j < k + 1 → (pgF j).ty = 1 → inB n (pgF j).off (pgF j).fs = true) := hid fun q hq h j hj => by
    rcases Nat.lt_or_ge j k with h1 | h1
    ·exact HJ.out j h1
    ·rw [show j = k by omega, ← hq]; exact h
   have HJn : Hid (∀ q, q = pgF k → q.ty = 1 → inB n q.off q.fs = false → ¬ OI) := hid fun q hq h1 h2 h => by
    have := (HOw.out.1 h) k hlt
    rw [← hq] at this
    rw [this h1] at h2
    cases h2
   clear hkl hcell
   generalize hp : pgF k = p at p' HIk
   have HJk := hid (HJk.out p hp.symm)
   have HJn := hid (HJn.out p hp.symm)
   clear hp
   obtain ⟨ty, fl, off, va, pa, fs, ms, al⟩ := p
   unfold Pg.C at p'
   unfold Pg.V Pg.C at HIk
   simp only [] at p' HIk HJk HJn
   have s0 : wr.cell? ⟨b, off0 + k * 8, none⟩ = _ := p' 0 _ rfl
   have s1 : wr.cell? ⟨b, off0 + k * 8 + 1, none⟩ = _ := p' 1 _ rfl
   have s2 : wr.cell? ⟨b, off0 + k * 8 + 2, none⟩ = _ := p' 2 _ rfl
   have s3 : wr.cell? ⟨b, off0 + k * 8 + 3, none⟩ = _ := p' 3 _ rfl
   have s4 : wr.cell? ⟨b, off0 + k * 8 + 4, none⟩ = _ := p' 4 _ rfl
   have s5 : wr.cell? ⟨b, off0 + k * 8 + 5, none⟩ = _ := p' 5 _ rfl
   have s6 : wr.cell? ⟨b, off0 + k * 8 + 6, none⟩ = _ := p' 6 _ rfl
   have s7 : wr.cell? ⟨b, off0 + k * 8 + 7, none⟩ = _ := p' 7 _ rfl
   clear p'
   have w0 : (0 : Int) ≤ (k : Int) := by omega
   have w1 : (k : Int) < (P : Int) := by omega
   have d1 : decide ((k : Int) < (P : Int)) = true := decide_eq_true (by omega)
   have hal := Grow.of_alloc wr (.cells #[.int .u32 (ty : Int), .int .u32 (fl : Int), .int .u64 (off : Int), .int .u64 (va : Int), .int .u64 (pa : Int), .int .u64 (fs : Int), .int .u64 (ms : Int), .int .u64 (al : Int)] 130)
   have HZb := hid (HZa.out.grow hal)
   have HGb : Hid (Grow w (wr.alloc (.cells #[.int .u32 (ty : Int), .int .u32 (fl : Int), .int .u64 (off : Int), .int .u64 (va : Int), .int .u64 (pa : Int), .int .u64 (fs : Int), .int .u64 (ms : Int), .int .u64 (al : Int)] 130))) := hid (HGa.out.trans hal)
   clear hal
   by_cases ht : ty = 1
   ·have d2 : ((ty : Int) == 1) = true := by simp [ht]
    have HT := hid ht
    clear ht
    go_wp2_with fail
    refine (HIk.out _).mono ?_
    rintro e w2 ⟨rfl, hg⟩
    have HZc := hid (HZb.out.grow hg)
    have HGc : Hid (Grow w w2) := hid (HGb.out.trans hg)
    clear hg HZb HGb s0 s1 s2 s3 s4 s5 s6 s7
    cases hin : inB n off fs with
    | true =>
     have HJ2 := hid (HJk.out fun _ => hin)
     clear hin
     go_wp2
     go_roundw
     case rel => exact ⟨k + 1, by omega, by go_num, HJ2, HZc.out, HGc.out⟩
     case measure => simp [intOf]; omega
    | false =>
     have HNo := hid (HJn.out HT.out hin)
     clear hin
     go_wp2_with (refine wpList_store_row rfl 52 (.tmp 6) (.tmp 28) rfl g2 #[.int .u64 0, .slice none 0 0] rfl rfl _ _ HZc.out (by kernel_rfl) rfl (by simp [Value.oneCell']) ?_)
     refine ld_ret (by rfl) (by rfl) (HZc.out.set _) ?_
     exact .inr ⟨HNo.out, rfl, Grow.set HGc.out HG2.out _⟩
   ·have d2 : ((ty : Int) == 1) = false := by simp; omega
    have HJ2 := hid (HJk.out fun h => absurd h ht)
    clear ht
    go_wp2
    go_roundw
    case rel => exact ⟨k + 1, by omega, by go_num, HJ2, HZb.out, HGb.out⟩
    case measure => simp [intOf]; omega
  ·have e : P = k := by omega
   subst e
   have HOk : Hid OI := hid (HOw.out.2 HJ.out)
   have d1 : decide ((P : Int) < (P : Int)) = false := decide_eq_false (by omega)
   clear hlt HJ hk
   generalize wr = wz at *
   go_wp2_with fail
   clear d1
   generalize hW : World.alloc _ _ = W1
   obtain ⟨b3, hg3⟩ := blk1 hW
   clear hW
   have HA : Hid (IBA w g2 wz.heap.size (wz.heap.size + 1)) := hid ⟨rfl, HZa.out.lt, HG2.out⟩
   have HM : Hid (IB w W1 g2 wz.heap.size en (.slice none 0 0)) := hid ⟨HZa.out.grow hg3, b3, HGa.out.trans hg3⟩
   clear b3 hg3 HZa HGa
   generalize wz.heap.size + 1 = base at HA
   generalize wz.heap.size = g3 at HA HM ⊢
   clear wz
   go_loopw [35] (fun i wr => ∃ (k : Nat) (As : Option Addr) (cs : Nat), k ≤ P ∧ i = .int .i64 k ∧ IB w wr g2 g3 en (.slice As (FI k).length cs) ∧ GR rgK wr base 107 As (FI k).length cs (FI k)) (fun i _ => P - (intOf i).toNat)
   case atStart =>
    refine ⟨0, none, 0, Nat.zero_le _, rfl, ?_, ?_⟩
    ·rw [H0.out]; exact HM.out
    ·rw [H0.out]; exact GR.nil trivial
   case round =>
    obtain ⟨k, As, cs, hk, rfl, hm1, hgr⟩ := hrel
    have HMa := hid hm1
    have HGa := hid hgr
    clear hm1 hgr HM
    have HLk := hid (HLe.out k)
    by_cases hlt : k < P
    ·have hkl : k < PR.length := by rw [HLn.out]; exact hlt
     obtain ⟨b, off0, hAA, hb, hcell⟩ := H1.out.pos (by omega)
     subst hAA
     have p' : ∀ i v, (pgF k).C[i]? = some v → wr.cell? ⟨b, off0 + k * 8 + i, none⟩ = some v := fun i v hv => (Below.cell HMa.out.g hb).trans (hcell k hkl i v (by rw [HAt.out k hlt hkl]; exact hv))
     have HSk := hid (HSu.out k)
     have HBk := hid (fun W hW hi => HBy.out (pgF k) W hW hi)
     have HIk := hid ((HOw.out.1 HOk.out) k hlt)
     have HRk := hid (HRg.out (pgF k))
     clear hkl hcell
     generalize pgF k = p at p' HSk HBk HIk HRk
     obtain ⟨ty, fl, off, va, pa, fs, ms, al⟩ := p
     unfold Pg.C at p'
     unfold Pg.V Pg.C at HBk
     unfold NewB at HBk
     simp only [] at p' HSk HBk HIk HRk
     have s0 : wr.cell? ⟨b, off0 + k * 8, none⟩ = _ := p' 0 _ rfl
     have s1 : wr.cell? ⟨b, off0 + k * 8 + 1, none⟩ = _ := p' 1 _ rfl
     have s2 : wr.cell? ⟨b, off0 + k * 8 + 2, none⟩ = _ := p' 2 _ rfl
     have s3 : wr.cell? ⟨b, off0 + k * 8 + 3, none⟩ = _ := p' 3 _ rfl
     have s4 : wr.cell? ⟨b, off0 + k * 8 + 4, none⟩ = _ := p' 4 _ rfl
     have s5 : wr.cell? ⟨b, off0 + k * 8 + 5, none⟩ = _ := p' 5 _ rfl
     have s6 : wr.cell? ⟨b, off0 + k * 8 + 6, none⟩ = _ := p' 6 _ rfl
     have s7 : wr.cell? ⟨b, off0 + k * 8 + 7, none⟩ = _ := p' 7 _ rfl
     clear p'
     have w0 : (0 : Int) ≤ (k : Int) := by omega
     have w1 : (k : Int) < (P : Int) := by omega
     have d1 : decide ((k : Int) < (P : Int)) = true := decide_eq_true (by omega)
     by_cases ht : ty = 1
     ·have d2 : ((ty : Int) == 1) = true := by simp [ht]
      rw [if_pos ht] at HSk
      have HBo := hid (fun W hW => HBk.out W hW (HIk.out ht))
      clear ht HBk HIk
      have HRr : Hid (∀ (Ax : Option Addr) (nx cx : Nat), (#[.int .u64 (va : Nat), .int .u64 (ms : Nat), .int .u32 (fl : Nat), .slice Ax nx cx] : Array Value) = rgK.cs (RG ⟨ty, fl, off, va, pa, fs, ms, al⟩) (.slice Ax nx cx)) := hid fun Ax nx cx => by rw [HRk.out]; rfl
      have HBy2 : Hid ((l.drop off).take fs = rgK.by_ (RG ⟨ty, fl, off, va, pa, fs, ms, al⟩)) := hid (by rw [HRk.out]; rfl)
      generalize RG ⟨ty, fl, off, va, pa, fs, ms, al⟩ = rg at HSk HRr HBy2
      generalize (l.drop off).take fs = bs at HBo HBy2
      clear HRk
      go_wp2_with fail
      generalize hW : World.alloc _ _ = W5
      obtain ⟨b5, hg⟩ := blk1 hW
      obtain ⟨g5, hg5⟩ : ∃ g, g = wr.heap.size := ⟨_, rfl⟩
      rw [← hg5] at b5 ⊢
      clear hW s0 s1 s2 s3 s4 s5 s6 s7
      have HKe : Hid (∀ i, own As = some i → ¬ (i = g3 ∨ i = g5)) := hid (by
       obtain ⟨Rw0, hzo0, _, _⟩ := HGa.out
       exact IB.apart HA.out hzo0 (show wr.heap.size ≤ g5 by omega))
      have hgd := hg.trans (Grow.of_drew W5)
      have HM0 := hid (HMa.out.grow hgd)
      have HG0 := hid (HGa.out.keep hgd)
      have HP0 := hid b5.drew
      clear b5 hg hgd hg5 HMa HGa
      refine wp_region_last (leap_kept (fun j => j = g3 ∨ j = g5)) [(0, true), (1, true), (2, true), (3, true), (4, true), (5, true), (6, true), (7, true), (8, true), (9, true), (10, false), (11, true), (12, false), (13, false), (14, true)] 15 (by kernel_rfl) (by kernel_rfl) (by kernel_rfl) ?_
      generalize W5.drew = v0 at HM0 HG0 HP0 ⊢
      have q0 : ∀ W, Kept (fun j => j = g3 ∨ j = g5) v0 W → W.cell? ⟨g5, 0, none⟩ = some (.int .u32 (ty : Int)) := fun W hW => (HP0.out.kept hW (.inr rfl)).at 0
      have q1 : ∀ W, Kept (fun j => j = g3 ∨ j = g5) v0 W → W.cell? ⟨g5, 1, none⟩ = some (.int .u32 (fl : Int)) := fun W hW => (HP0.out.kept hW (.inr rfl)).at 1
      have q2 : ∀ W, Kept (fun j => j = g3 ∨ j = g5) v0 W → W.cell? ⟨g5, 2, none⟩ = some (.int .u64 (off : Int)) := fun W hW => (HP0.out.kept hW (.inr rfl)).at 2
      have q3 : ∀ W, Kept (fun j => j = g3 ∨ j = g5) v0 W → W.cell? ⟨g5, 3, none⟩ = some (.int .u64 (va : Int)) := fun W hW => (HP0.out.kept hW (.inr rfl)).at 3
      have q4 : ∀ W, Kept (fun j => j = g3 ∨ j = g5) v0 W → W.cell? ⟨g5, 4, none⟩ = some (.int .u64 (pa : Int)) := fun W hW => (HP0.out.kept hW (.inr rfl)).at 4
      have q5 : ∀ W, Kept (fun j => j = g3 ∨ j = g5) v0 W → W.cell? ⟨g5, 5, none⟩ = some (.int .u64 (fs : Int)) := fun W hW => (HP0.out.kept hW (.inr rfl)).at 5
      have q6 : ∀ W, Kept (fun j => j = g3 ∨ j = g5) v0 W → W.cell? ⟨g5, 6, none⟩ = some (.int .u64 (ms : Int)) := fun W hW => (HP0.out.kept hW (.inr rfl)).at 6
      have q7 : ∀ W, Kept (fun j => j = g3 ∨ j = g5) v0 W → W.cell? ⟨g5, 7, none⟩ = some (.int .u64 (al : Int)) := fun W hW => (HP0.out.kept hW (.inr rfl)).at 7
      have r1 : ∀ W, Kept (fun j => j = g3 ∨ j = g5) v0 W → W.cell? ⟨g3, 1, none⟩ = some (.slice As (FI k).length cs) := fun W hW => (HM0.out.x.kept hW (.inl rfl)).at 1
      repeat ((first | (refine chain_take rfl (by rfl) ?_ (fun W hG => ?_) ?_; rotate_left; (go_simp; rfl)) | refine chain_skip rfl (by rfl) ?_); simp only [Act.put, List.setIfInBounds_toArray, List.set_cons_zero, List.set_cons_succ])
      clear q0 q1 q2 q3 q4 q5 q6 q7 r1 HP0
      refine chain_only rfl (by rfl) (fun K hK => ?_)
      go_simp
      refine (HBo.out _ HM0.out.g).mono ?_
      rintro e v1 ⟨Ax, cx, rfl, ho, hg⟩
      refine hK _ _ (Kept.of_grow hg) ?_
      clear hK K
      have HO1 := hid (ho.mono (HM0.out.base_le HA.out))
      have HM1 := hid (HM0.out.grow hg)
      have HG1 := hid (HG0.out.keep hg)
      clear ho HM0 HG0 hg
      repeat ((first | (refine chain_take rfl (by rfl) ?_ (fun W hG => ?_) ?_; rotate_left; (go_simp; rfl)) | refine chain_skip rfl (by rfl) ?_); simp only [Act.put, List.setIfInBounds_toArray, List.set_cons_zero, List.set_cons_succ])
      refine chain_only rfl (by rfl) (fun K hK => ?_)
      go_simp
      refine hK _ _ (Kept.of_grow (Grow.of_alloc _ _)) ?_
      clear hK K
      generalize hW : World.alloc _ _ = v3
      obtain ⟨bn, hg⟩ := blk1 hW
      clear hW
      have HN3 := hid bn
      have HM3 := hid (HM1.out.grow hg)
      have HG3 := hid (HG1.out.keep hg)
      have HO3 := hid (HO1.out.keep hg)
      clear bn HM1 HG1 HO1 hg
      refine chain_only rfl (by rfl) (fun K hK => ?_)
      obtain ⟨Rw, hzo, hlr, hro⟩ := HG3.out
      have HBs := hid (HM3.out.base_le HA.out)
      refine wp_appendZ _ (.tmp 43) (.tmp 54) 50 rfl base 107 (.agg #[.int .u64 0, .int .u64 0, .int .u32 0, .slice none 0 0]) 4 48 Tryz.underlying50 (by kernel_rfl) rfl (by omega) As _ cs Rw rfl hzo _ _ _ rfl HN3.out rfl (by simp [Value.oneCell']) (by have := HLk.out; have := HN.out; unfold maxLen; omega) (by have := HLk.out; have := HN.out; omega) HBs.out ?_
      intro A5 c5 v4 ho9 hg9 _
      refine hK _ _ (kept_row hg9 HKe.out) ?_
      clear hK K
      have HM4 := hid (HM3.out.by_ HA.out hg9 (fun i e => hzo.ge e))
      have HG4 : Hid (GR rgK v4 base 107 A5 ((FI k).length + 1) c5 (FI (k + 1))) := hid (by
       rw [HSk.out]
       exact GR.snoc hzo hlr hro ⟨Ax, _, cx, HRr.out Ax _ cx, HBy2.out ▸ HO3.out⟩ (by decide) ho9 hg9)
      clear ho9 hg9 hzo hlr hro HBs HM3 HG3 HO3 HN3
      have hle : (FI k).length + 1 = (FI (k + 1)).length := by rw [HSk.out, List.length_append]; rfl
      rw [hle] at HG4 ⊢
      clear hle
      repeat ((first | (refine chain_take rfl (by rfl) ?_ (fun W hG => ?_) ?_; rotate_left; (go_simp; rfl)) | refine chain_skip rfl (by rfl) ?_); simp only [Act.put, List.setIfInBounds_toArray, List.set_cons_zero, List.set_cons_succ])
      refine chain_done (last_op rfl (by rfl) (fun K hK => ?_))
      have c9 := HM4.out.x.at 1
      have s9 := HM4.out.x.soft 1
      go_simp
      refine hK _ _ ?_
      clear hK K c9 s9
      have e9 := setCell_eq_setRow v4 g3 1 _ 52 (0, 0) (.slice A5 (FI (k + 1)).length c5) HM4.out.x
      have HM5 := hid (HM4.out.set HA.out (.slice A5 (FI (k + 1)).length c5))
      have HG5 := hid (HG4.out.set (show g3 < base by have := HA.out.b; omega) #[.int .u64 (en : Nat), .slice A5 (FI (k + 1)).length c5])
      rw [e9]
      clear e9 HM4 HG4
      go_wp2
      go_roundw
      case rel => exact ⟨k + 1, A5, c5, by omega, by go_num, HM5.out, HG5.out⟩
      case measure => simp [intOf]; omega
     ·have d2 : ((ty : Int) == 1) = false := by simp; omega
      rw [if_neg ht, List.append_nil] at HSk
      have hgr := Grow.of_alloc wr (.cells #[.int .u32 (ty : Int), .int .u32 (fl : Int), .int .u64 (off : Int), .int .u64 (va : Int), .int .u64 (pa : Int), .int .u64 (fs : Int), .int .u64 (ms : Int), .int .u64 (al : Int)] 130)
      have HM5 := hid (HMa.out.grow hgr)
      have HG5 := hid (HGa.out.keep hgr)
      rw [← HSk.out] at HM5 HG5
      clear hgr ht
      go_wp2
      go_roundw
      case rel => exact ⟨k + 1, As, cs, by omega, by go_num, HM5.out, HG5.out⟩
      case measure => simp [intOf]; omega
    ·have e : P = k := by omega
     subst e
     have d1 : decide ((P : Int) < (P : Int)) = false := decide_eq_false (by omega)
     clear hlt hk HLk
     obtain ⟨x0, x1⟩ := HMa.out.x.c2
     go_wp2_with (refine wpList_store_row rfl 52 (.tmp 6) (.tmp 58) rfl g2 _ rfl rfl _ _ HMa.out.z (by kernel_rfl) rfl (by simp [Value.oneCell']) ?_)
     clear x0 x1
     refine ld_ret (by rfl) (by rfl) (HMa.out.z.set _) ?_
     exact .inl ⟨HOk.out, As, cs, rfl, (HGa.out.set (show g2 < base by have := HA.out.b; have := HA.out.a2; omega) _).mono (by have := HA.out.b; have := HA.out.a2; have := HA.out.w2; omega), Grow.set HMa.out.g HA.out.w2 _⟩
end Go.Proofs.YtfglppjilcaafaaGreatDoor
