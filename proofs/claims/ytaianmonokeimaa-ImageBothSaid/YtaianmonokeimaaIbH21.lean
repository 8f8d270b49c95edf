/-
  Several texts in one: The contract of image; Slices of slices of bytes, of no bytes too, wherever they begin (at the end of their room too); The contracts of image.
-/
import Derived.Test.YtaianmonokeimaaIbH18
import Derived.Test.YtaianmonokeimaaIbH20
import Derived.Test.YtaianmonokeimaaIbH7
import Derived.Test.YtaianmonokeimaaIbH1
import Derived.Test.YtaianmonokeimaaIbH19
namespace Go.Proofs.Ytaianmonokeimaa
open Go.Lib (hid)
open Go.RowKit
set_option maxRecDepth 100000
set_option linter.unusedVariables false
def HdsR (l : List UInt8) (w : World) (e : Ending) (w' : World) : Prop :=
 (ImIn l ∧ ∃ A c, e = .returned (.tuple #[.slice A (hdOf l).pn c, .nilIface]) ∧ ZS w' w'.heap.size 8 A (hdOf l).pn c (pgR l (hdOf l).pn) ∧ Grow w w') ∨
 (¬ ImIn l ∧ e = .returned (.tuple #[.slice none 0 0, .iface 67 (.int .i64 4)]) ∧ Grow w w')
structure HB (w W : World) (g6 base : Nat) (wide big : Bool) : Prop where
 f : Blk W g6 23 #[.bool wide, .bool big]
 b : base = g6 + 1
 o : w.heap.size ≤ g6
 g : Grow w W
section
variable {w W W' : World} {g6 base : Nat} {wide big : Bool}
theorem HB.grow (h : HB w W g6 base wide big) (hg : Grow W W') : HB w W' g6 base wide big := ⟨h.f.grow hg, h.b, h.o, h.g.trans hg⟩
theorem HB.by_ (h : HB w W g6 base wide big) {row : Option Nat} (hg : W.grownBy W' row) (hr : ∀ k, row = some k → base ≤ k) : HB w W' g6 base wide big :=
 ⟨h.f.grownBy hg (fun e => by have := hr g6 e.symm; have := h.b; omega), h.b, h.o, h.g.trans' ((Below.refl _ W).grown hg h.g.size fun k hk => by have := hr k hk; have := h.b; have := h.o; omega)⟩
theorem HB.base_le (h : HB w W g6 base wide big) : base ≤ W.heap.size := by have := h.f.lt; have := h.b; omega
end
theorem below_alloc_two (w : World) (a b : Obj) : Below w.heap.size (w.alloc a) (w.alloc b) := by
 refine ⟨rfl, rfl, rfl, ?_, fun k hk => ?_⟩
 ·show (w.heap.push a).size ≤ (w.heap.push b).size
  simp
 ·show (w.heap.push b)[k]? = (w.heap.push a)[k]?
  rw [Array.getElem?_push, Array.getElem?_push, if_neg (by omega), if_neg (by omega)]
set_option maxHeartbeats 8000000 in
theorem imHeaders_any (l : List UInt8) (A : Option Addr) (n c : Nat) (w : World) (hr : RB w w.heap.size A n c l) : Calls Try.prog 15 #[.slice A n c, (hdOf l).V] w (HdsR l w) := by
 have hlen := hr.len
 have hcap := hr.cap
 have hmax := hr.max
 unfold maxLen at hmax
 have HGet : Hid (∀ k, pAt l k < 18446744073709551616 → ∀ W, Grow w W → Calls Try.prog 36 #[.slice A n c, .int .u64 (pAt l k : Nat), .agg #[.bool (lWide l), .bool (lBig l)]] W (PGot l (pAt l k) (lWide l) (lBig l) W)) := hid fun k hk W hg =>
  pGet_any A n c l (pAt l k) (lWide l) (lBig l) W (hr.grow hg) hk
 have HPs := hid (fun W => pSize_any (lWide l) (lBig l) W)
 have HP0 : Hid (pAt l 0 = (hdOf l).ph) := hid (by unfold pAt; rw [Nat.zero_mul]; rfl)
 have HPS : Hid (∀ k, pAt l (k + 1) = pAt l k + pSize (lWide l)) := hid fun k => by unfold pAt; rw [Nat.succ_mul, Nat.add_assoc]
 have HPh : Hid ((hdOf l).ph < 18446744073709551616) := hid (hdOf_ok l).ph
 have HPn : Hid ((hdOf l).pn < 65536) := hid (hdOf_ok l).pn
 have HPc := hid (pgR_succ l)
 have HR0 : Hid (pgR l 0 = []) := hid rfl
 have HIn : Hid (ImIn l ↔ ∀ i, i < (hdOf l).pn → pAt l i + pSize (lWide l) ≤ n) := hid (by rw [hlen]; rfl)
 have HSz : Hid (pSize (lWide l) ≤ 64) := hid (by cases lWide l <;> decide)
 have HV : Hid (∀ k, pgOf l (pAt l k) (lWide l) (lBig l) = pgs l k) := hid fun k => rfl
 unfold HdsR
 unfold PGot at HGet
 rw [← hlen] at HGet
 have HNn : Hid (n ≤ 9223372036854775807) := hid (by omega)
 clear hr hlen hcap hmax
 obtain ⟨y2, y3, y4, y5, y6, y8, y9, y11, y12, hC⟩ : ∃ y2 y3 y4 y5 y6 y8 y9 y11 y12 : Value, (hdOf l).C = #[.bool (lWide l), .bool (lBig l), y2, y3, y4, y5, y6, .int .u64 ((hdOf l).ph : Nat), y8, y9, .int .u16 ((hdOf l).pn : Nat), y11, y12] := ⟨_, _, _, _, _, _, _, _, _, rfl⟩
 unfold Hd.V
 rw [hC]
 clear hC
 simp only [HV.out] at HGet
 generalize (hdOf l).ph = ph at *
 generalize (hdOf l).pn = P at *
 generalize pAt l = pA at *
 generalize pgR l = PR at *
 generalize pgs l = pgF at *
 generalize lWide l = wide at *
 generalize lBig l = big at *
 generalize pSize wide = sz at *
 generalize ImIn l = II at *
 go_enter Try.func15, Try.ntmps15
 go_wp2_with fail
 generalize hW : World.alloc _ _ = W0
 obtain ⟨b1, hg⟩ := blk1 hW
 clear hW
 have HX := hid b1.drew
 have HG := hid (hg.trans (Grow.of_drew W0))
 clear b1 hg
 refine wp_region_leap (leap_below W0.drew.heap.size) [(0, true), (1, true), (2, true), (3, true), (4, true), (5, false), (6, false), (7, true)] (by kernel_rfl) (by kernel_rfl) (by kernel_rfl) ?_
 generalize W0.drew = v0 at HX HG ⊢
 have hlt := HX.out.lt
 have q0 : ∀ W, Below v0.heap.size v0 W → W.cell? ⟨w.heap.size, 0, none⟩ = some (.bool wide) := fun W hW => (Blk.below HX.out hW hlt).at 0
 have q1 : ∀ W, Below v0.heap.size v0 W → W.cell? ⟨w.heap.size, 1, none⟩ = some (.bool big) := fun W hW => (Blk.below HX.out hW hlt).at 1
 have q7 : ∀ W, Below v0.heap.size v0 W → W.cell? ⟨w.heap.size, 7, none⟩ = some (.int .u64 (ph : Nat)) := fun W hW => (Blk.below HX.out hW hlt).at 7
 repeat ((first | (refine chain_take rfl (by rfl) ?_ (fun W hG => ?_) ?_; rotate_left; (go_simp; rfl)) | refine chain_skip rfl (by rfl) ?_); simp only [Act.put, List.setIfInBounds_toArray, List.set_cons_zero, List.set_cons_succ])
 clear q0 q1 q7
 refine chain_only rfl (by rfl) (fun K hK => ?_)
 go_simp
 refine hK _ _ (Below.alloc (Below.refl _ _) (Nat.le_refl _) _) ?_
 clear hK K
 refine chain_only rfl (by rfl) (fun K hK => ?_)
 go_simp
 refine hK _ _ (below_alloc_two _ _ _) ?_
 clear hK K
 generalize hW : World.alloc _ _ = W1
 obtain ⟨b6, hg⟩ := blk1 hW
 clear hW
 have p17 := (HX.out.grow hg).at 10
 have HB0 : Hid (HB w W1 v0.heap.size (v0.heap.size + 1) wide big) := hid ⟨b6, rfl, HG.out.size, HG.out.trans hg⟩
 clear b6 hg hlt HG HX
 generalize v0.heap.size = g6 at HB0 ⊢
 generalize g6 + 1 = base at HB0
 repeat ((first | (refine chain_take rfl (by rfl) ?_ (fun W hG => ?_) ?_; rotate_left; (go_simp; rfl)) | refine chain_skip rfl (by rfl) ?_); simp only [Act.put, List.setIfInBounds_toArray, List.set_cons_zero, List.set_cons_succ])
 refine chain_done ?_
 go_wp2_with fail
 clear p17
 go_loopw [7, 8, 18] (fun a s i wr => ∃ (k q : Nat) (As : Option Addr) (cs : Nat), k ≤ P ∧ i = .int .u16 k ∧ a = .int .u64 q ∧ s = .slice As k cs ∧ Hid (q = pA k) ∧ Hid (q < 18446744073709551616) ∧ Hid (∀ j, j < k → pA j + sz ≤ n) ∧ ZO wr base 82 8 As k cs (PR k) ∧ HB w wr g6 base wide big) (fun _ _ i _ => P - (intOf i).toNat)
 case atStart => exact ⟨0, ph, none, 0, Nat.zero_le _, rfl, rfl, rfl, hid HP0.out.symm, HPh, hid fun j hj => by omega, by rw [HR0.out]; exact ZO.nil, HB0.out⟩
 case round =>
  obtain ⟨k, q, As, cs, hk, rfl, rfl, rfl, HQ, HQ64, HJ, ho, hb⟩ := hrel
  have HOa := hid ho
  have HBa := hid hb
  clear ho hb HB0
  by_cases hlt : k < P
  ·have d1 : decide ((k : Int) < (P : Int)) = true := decide_eq_true (by omega)
   have HK : Hid (k ≤ 65535) := hid (by have := HPn.out; omega)
   have HLt := hid hlt
   obtain ⟨y0, y1⟩ := HBa.out.f.c2
   go_wp2_with fail
   clear y0 y1 d1
   have HGk := hid (HGet.out k (by rw [← HQ.out]; exact HQ64.out) wr HBa.out.g)
   rw [← HQ.out] at HGk
   refine HGk.out.mono ?_
   rintro e w2 (⟨hin, rfl, hg⟩ | ⟨hout, rfl, hg⟩)
   ·have HB2 := hid (HBa.out.grow hg)
    have HO2 := hid (HOa.out.keep hg)
    have HJ2 : Hid (∀ j, j < k + 1 → pA j + sz ≤ n) := hid fun j hj => by
     rcases Nat.lt_or_ge j k with h | h
     ·exact HJ.out j h
     ·rw [show j = k by omega, ← HQ.out]; exact hin
    have HIq : Hid (q + sz ≤ n) := hid hin
    have HPck := hid (HPc.out k)
    clear hg hin HBa HOa HGk HJ
    generalize pgF k = p at HPck ⊢
    obtain ⟨ty, fl, off, va, pa, fs, ms, al⟩ := p
    unfold Pg.C at HPck
    unfold Pg.V Pg.C
    simp only [] at HPck
    obtain ⟨W5, hW⟩ : ∃ W5, W5 = (w2.alloc (.cells #[.int .u32 (ty : Int), .int .u32 (fl : Int), .int .u64 (off : Int), .int .u64 (va : Int), .int .u64 (pa : Int), .int .u64 (fs : Int), .int .u64 (ms : Int), .int .u64 (al : Int)] 82)).alloc (.cells #[.int .u32 (ty : Int), .int .u32 (fl : Int), .int .u64 (off : Int), .int .u64 (va : Int), .int .u64 (pa : Int), .int .u64 (fs : Int), .int .u64 (ms : Int), .int .u64 (al : Int)] 82) := ⟨_, rfl⟩
    obtain ⟨b5, b7, hg⟩ := blk2 hW.symm
    clear b5
    have HNu := hid b7
    have HBn := hid (HB2.out.grow hg)
    have HOn := hid (HO2.out.keep hg)
    have HBs := hid (HBn.out.base_le)
    clear b7 hg HB2 HO2
    have HWe := hid hW
    clear hW
    go_wp2_with (at_builtin; rw [← HWe.out]; refine wpList_appendZ W5 rfl (.tmp 30) (.tmp 32) 68 rfl base 82 pg0.V 8 56 Try.underlying68 (by kernel_rfl) rfl (by omega) As k cs _ rfl HOn.out (w2.heap.size + 1) _ _ rfl HNu.out rfl (by simp [Value.oneCell']) (by have := HK.out; unfold maxLen; omega) (by have := HK.out; omega) HBs.out ?_; intro A5 c5 w9 ho9 hg9 _; refine Hid.out ?_)
    have HB9 := hid (HBn.out.by_ hg9 (fun k e => HOn.out.ge e))
    rw [← HPck.out] at ho9
    have HO9 := hid ho9
    clear ho9 hg9 HOn HBn HBs HNu HWe
    refine hid ?_
    obtain ⟨y0, y1⟩ := HB9.out.f.c2
    go_wp2_with fail
    clear y0 y1
    refine (HPs.out _).mono ?_
    rintro e w10 ⟨rfl, hg⟩
    have HB10 := hid (HB9.out.grow hg)
    have HO10 := hid (HO9.out.keep hg)
    clear hg HB9 HO9
    have HIb : q + sz ≤ n := HIq.out
    have HNb := HNn.out
    have HSb := HSz.out
    have HKb := HK.out
    have z1 : IntKind.u64.wrap (sz : Int) = (sz : Int) := by rw [IntKind.wrap_u64]; omega
    have z2 : IntKind.u64.wrap ((q : Int) + (sz : Int)) = ((q + sz : Nat) : Int) := by rw [IntKind.wrap_u64]; omega
    have Z2 := hid z2
    have Z3 : Hid (IntKind.u16.wrap ((k : Int) + 1) = ((k + 1 : Nat) : Int)) := hid (by have := HLt.out; have := HPn.out; rw [IntKind.wrap_u16]; omega)
    clear z2
    have HQn : Hid (q + sz = pA (k + 1)) := hid (by rw [HPS.out, HQ.out])
    clear HIb HNb HSb
    go_wp2
    go_roundw
    case rel => exact ⟨k + 1, q + sz, A5, c5, HLt.out, by rw [Z3.out], by rw [Z2.out], rfl, HQn, hid (by have := HIq.out; have := HNn.out; omega), HJ2, HO10.out, HB10.out⟩
    case measure =>
     rw [Z3.out]
     have := HLt.out
     simp [intOf]; omega
   ·have HB2 := hid (HBa.out.grow hg)
    have HNo : ¬ II := by
     rw [HIn.out]
     intro h
     have := h k hlt
     rw [← HQ.out] at this
     omega
    clear hg HBa HOa HGk HJ hout
    unfold pg0 Pg.V Pg.C
    simp only []
    go_wp2
    go_ret2
    exact .inr ⟨HNo, rfl, HB2.out.g.trans (Grow.of_alloc _ _)⟩
  ·have e : k = P := by omega
   subst e
   have d1 : decide ((k : Int) < (k : Int)) = false := decide_eq_false (by omega)
   have HI : II := by rw [HIn.out]; exact HJ.out
   clear hlt
   go_wp2
   go_ret2
   exact .inl ⟨HI, As, cs, rfl, HOa.out.zs, HBa.out.g⟩
def cutA (a : Addr) (c p : Nat) : Addr := if c = p then a else a.add p
theorem cutA_zero (a : Addr) (c : Nat) : cutA a c 0 = a := by unfold cutA Addr.add; split <;> simp
section
variable {w : World} {B n c : Nat} {a : Addr} {l : List UInt8}
theorem RB.cut (h : RB w B (some a) n c l) {p m : Nat} (hp : p + m ≤ n) : RB w B (some (cutA a c p)) m (c - p) ((l.drop p).take m) := by
 have hl := h.len
 have hcap := h.cap
 have hmax := h.max
 by_cases h0 : 0 < m
 ·obtain ⟨b, off, e, -, -⟩ := h.pos (by omega)
  injection e with e
  subst e
  have := h.sub hp h0
  have e2 : cutA ⟨b, off, none⟩ c p = ⟨b, off + p, none⟩ := by
   unfold cutA Addr.add
   rw [if_neg (by omega)]
   split <;> simp_all
  rw [e2]
  exact this
 ·have : m = 0 := by omega
  subst this
  exact ⟨by simp, by omega, by omega, fun h => absurd h (by omega)⟩
end
theorem run_cut_h {P : Program} (t : TypeId) (ht : P.underlying t = some (.slice (P.elem t))) (hz : ∀ W, (sizeOf (P.elem t)).run P W = .ok 1 W) (a : Addr) (n c : Nat) (kh : IntKind) (q : Nat) (hq : q ≤ c) (W : World) :
  (Instr.slice t (.slice (some a) n c) none (some (.int kh (q : Int))) none).run P W = .ok (.slice (some a) q c) W := by
 rw [run_slice_h W t (some a) n c ht kh q (by omega) (by omega), hz]
 simp only [Result.andThen, sliced, Int.toNat_natCast, Nat.zero_mul, Option.map_some, Nat.sub_zero]
 have : a.add 0 = a := by unfold Addr.add; simp
 rw [this]
 split <;> rfl
theorem run_cut_l {P : Program} (t : TypeId) (ht : P.underlying t = some (.slice (P.elem t))) (hz : ∀ W, (sizeOf (P.elem t)).run P W = .ok 1 W) (a : Addr) (n c : Nat) (kl : IntKind) (p : Nat) (hp : p ≤ n) (W : World) :
  (Instr.slice t (.slice (some a) n c) (some (.int kl (p : Int))) none none).run P W = .ok (.slice (some (cutA a c p)) (n - p) (c - p)) W := by
 rw [run_slice_l W t (some a) n c ht kl p (by omega) (by omega), hz]
 simp only [Result.andThen, sliced, Int.toNat_natCast, Nat.mul_one, Option.map_some]
 unfold cutA
 split <;> rfl
set_option maxRecDepth 100000
set_option linter.unusedVariables false
theorem inB_eq (n off fs : Nat) : inB n off fs = (decide (fs = 0) || (decide (off ≤ n) && decide (fs ≤ n - off))) := by
 unfold inB
 by_cases h0 : fs = 0
 ·simp [h0]
 ·by_cases h1 : off ≤ n
  ·simp only [decide_eq_false h0, decide_eq_true h1, Bool.false_or, Bool.true_and]
   exact decide_eq_decide.2 ⟨fun h => by omega, fun h => by omega⟩
  ·simp only [decide_eq_false h0, decide_eq_false h1, Bool.false_or, Bool.false_and]
   exact decide_eq_false (by omega)
set_option maxHeartbeats 2000000 in
theorem imWithin_any (p : Pg) (A : Option Addr) (n c : Nat) (w : World) (hn : n ≤ maxLen) :
  Calls Try.prog 37 #[.slice A n c, p.V] w fun e w' => e = .returned (.bool (inB n p.off p.fs)) ∧ Grow w w' := by
 rw [inB_eq]
 unfold maxLen at hn
 unfold Pg.V Pg.C
 generalize p.ty = ty
 generalize p.fl = fl
 generalize p.off = off
 generalize p.va = va
 generalize p.pa = pa
 generalize p.fs = fs
 generalize p.ms = ms
 generalize p.al = al
 have z1 : IntKind.u64.wrap (n : Int) = (n : Int) := by rw [IntKind.wrap_u64]; omega
 by_cases h0 : fs = 0
 ·have d0 : ((fs : Int) == 0) = true := by simp [h0]
  have e : (decide (fs = 0) || (decide (off ≤ n) && decide (fs ≤ n - off))) = true := by simp [h0]
  rw [e]
  clear e h0
  go_enter Try.func37, Try.ntmps37
  go_wp2
  go_ret
  exact ⟨rfl, Grow.of_alloc _ _⟩
 ·have d0 : ((fs : Int) == 0) = false := by simp; omega
  by_cases h1 : off ≤ n
  ·have d1 : decide ((off : Int) ≤ (n : Int)) = true := decide_eq_true (by omega)
   have z2 : IntKind.u64.wrap ((n : Int) - (off : Int)) = ((n - off : Nat) : Int) := by rw [IntKind.wrap_u64]; omega
   have e : (decide (fs = 0) || (decide (off ≤ n) && decide (fs ≤ n - off))) = decide (fs ≤ n - off) := by
    rw [decide_eq_false h0, decide_eq_true h1, Bool.false_or, Bool.true_and]
   rw [e]
   clear e h0
   go_enter Try.func37, Try.ntmps37
   go_wp2
   go_ret
   exact ⟨rfl, Grow.of_alloc _ _⟩
  ·have d1 : decide ((off : Int) ≤ (n : Int)) = false := decide_eq_false (by omega)
   have e : (decide (fs = 0) || (decide (off ≤ n) && decide (fs ≤ n - off))) = false := by simp [h0, h1]
   rw [e]
   clear e h0
   go_enter Try.func37, Try.ntmps37
   go_wp2
   go_ret
   exact ⟨rfl, Grow.of_alloc _ _⟩
set_option maxHeartbeats 2000000 in
theorem bytesOf_any (l : List UInt8) (p : Pg) (A : Option Addr) (n c : Nat) (w : World) (h : RB w w.heap.size A n c l) (hi : inB n p.off p.fs = true) (hn : n ≤ 140737488355328) :
  Calls Try.prog 38 #[.slice A n c, p.V] w (NewB ((l.drop p.off).take p.fs) w) := by
 have hlen := h.len
 have hcap := h.cap
 have hmax := h.max
 unfold maxLen at hmax
 rw [inB_eq] at hi
 unfold Pg.V Pg.C
 generalize p.ty = ty
 generalize p.fl = fl
 generalize p.off = off at *
 generalize p.va = va
 generalize p.pa = pa
 generalize p.fs = fs at *
 generalize p.ms = ms
 generalize p.al = al
 by_cases h0 : fs = 0
 ·have d0 : ((fs : Int) == 0) = true := by simp [h0]
  have e : (l.drop off).take fs = [] := by rw [h0]; rfl
  rw [e]
  clear e h0 hi h hlen hcap hmax
  go_enter Try.func38, Try.ntmps38
  go_wp2
  go_ret
  exact NewB.nil _ _ (Grow.of_alloc _ _)
 ·have d0 : ((fs : Int) == 0) = false := by simp; omega
  have hio : off + fs ≤ n := by
   simp [h0] at hi
   omega
  obtain ⟨b, o, rfl, hb, -⟩ := h.pos (by omega)
  have s1 := run_cut_l (P := Try.prog) 35 Try.underlying35 (fun W => by kernel_rfl) ⟨b, o, none⟩ n c .u64 off (by omega)
  have s2 := run_cut_h (P := Try.prog) 35 Try.underlying35 (fun W => by kernel_rfl) (cutA ⟨b, o, none⟩ c off) (n - off) (c - off) .u64 fs (by omega)
  have HC := hid (fun W (hW : Grow w W) => clone_any (some (cutA ⟨b, o, none⟩ c off)) fs (c - off) ((l.drop off).take fs) w.heap.size W ((h.cut hio).belowAt hW (Nat.le_refl _)) hW.size (by omega))
  unfold NewB at HC ⊢
  have hLl : ((l.drop off).take fs).length = fs := by rw [List.length_take, List.length_drop]; omega
  rw [hLl] at HC ⊢
  clear h0 hi h hLl hio hlen
  generalize (l.drop off).take fs = bs at HC ⊢
  go_enter Try.func38, Try.ntmps38
  go_wp2_with fail
  generalize hW : World.alloc _ _ = W5
  obtain ⟨b5, hg⟩ := blk1 hW
  clear hW
  have HX := hid b5.drew
  have HG := hid (hg.trans (Grow.of_drew W5))
  clear b5 hg
  refine wp_region_chain [(0, true), (1, true), (2, true), (3, true), (4, true), (5, true), (6, true), (7, false), (8, true)] (by kernel_rfl) (by kernel_rfl) (by kernel_rfl) ?_
  generalize W5.drew = v0 at HX HG ⊢
  have q2 : ∀ W, Grow v0 W → W.cell? ⟨w.heap.size, 2, none⟩ = some (.int .u64 (off : Nat)) := fun W hW => (HX.out.grow hW).at 2
  have q5 : ∀ W, Grow v0 W → W.cell? ⟨w.heap.size, 5, none⟩ = some (.int .u64 (fs : Nat)) := fun W hW => (HX.out.grow hW).at 5
  repeat ((first | (refine chain_take rfl (by rfl) ?_ (fun W hG => ?_) ?_; rotate_left; (go_simp; rfl)) | refine chain_skip rfl (by rfl) ?_); simp only [Act.put, List.setIfInBounds_toArray, List.set_cons_zero, List.set_cons_succ])
  clear q2 q5 s1 s2
  refine chain_only rfl (by rfl) (fun K hK => ?_)
  go_simp
  refine (HC.out _ HG.out).mono ?_
  rintro e v1 ⟨A2, c2, rfl, ho, hg⟩
  refine hK _ _ hg ?_
  clear hK K
  have HO := hid (ho.mono HG.out.size)
  have HG1 : Hid (Grow w v1) := hid (HG.out.trans hg)
  clear ho hg
  repeat ((first | (refine chain_take rfl (by rfl) ?_ (fun W hG => ?_) ?_; rotate_left; (go_simp; rfl)) | refine chain_skip rfl (by rfl) ?_); simp only [Act.put, List.setIfInBounds_toArray, List.set_cons_zero, List.set_cons_succ])
  refine chain_done ?_
  go_wp2
  go_ret
  exact ⟨A2, c2, rfl, HO.out, HG1.out⟩
end Go.Proofs.Ytaianmonokeimaa
